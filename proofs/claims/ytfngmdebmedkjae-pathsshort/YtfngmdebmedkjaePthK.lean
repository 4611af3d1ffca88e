import Derived.Test.YtfngmdebmedkjaeProg
import Derived.Test.YtfngmdebmedkjaePthP
import Derived.WalkKit
import Derived.WalkSpells
import Derived.WalkLawsBesides
import Derived.Deep.QuietTactic
import Derived.BigQuiet
import Derived.Deep.AppendLies
/- Small tools: what a call keeps; rows of numbers; a row of instructions in memory. -/
namespace Go.Proofs.Ytfngmdebmedkjae
open Go.RowKit

theorem hide {p : Prop} (h : p) : Hid p := h
theorem bcell {W w1 : World} (hb : Below W.heap.size W w1) : (∀ b o, b < W.heap.size → w1.cell? ⟨b, o, none⟩ = W.cell? ⟨b, o, none⟩) ∧ (∀ b o, b < W.heap.size → w1.frozen? ⟨b, o, none⟩ = W.frozen? ⟨b, o, none⟩) :=
  ⟨fun b o h => hb.cell (p := ⟨b, o, none⟩) h, fun b o h => hb.frozen (p := ⟨b, o, none⟩) h⟩
theorem Try.info3 : (Try.prog.info? 3).map (fun i => (i.zero, i.size, i.bytes)) = some (some (.int .i64 0), 1, 8) := by kernel_rfl

/-- Of the blocks that were there, those of X are as they were. -/
structure Kx (X : Nat → Prop) (w w' : World) : Prop where
  os : w'.os = w.os
  tape : w'.tape = w.tape
  output : w'.output = w.output
  size : w.heap.size ≤ w'.heap.size
  block : ∀ k, k < w.heap.size → X k → w'.heap[k]? = w.heap[k]?
theorem Kx.refl (X : Nat → Prop) (w : World) : Kx X w w := ⟨rfl, rfl, rfl, Nat.le_refl _, fun _ _ _ => rfl⟩
theorem Kx.trans {X : Nat → Prop} {a b c : World} (h : Kx X a b) (k : Kx X b c) : Kx X a c :=
  ⟨k.os.trans h.os, k.tape.trans h.tape, k.output.trans h.output, Nat.le_trans h.size k.size, fun i hi hn => (k.block i (Nat.lt_of_lt_of_le hi h.size) hn).trans (h.block i hi hn)⟩
theorem Kx.mono {X Y : Nat → Prop} {a b : World} (h : Kx X a b) (hs : ∀ k, k < a.heap.size → Y k → X k) : Kx Y a b :=
  ⟨h.os, h.tape, h.output, h.size, fun i hi hn => h.block i hi (hs i hi hn)⟩
theorem Kx.of_below {X : Nat → Prop} {w w' : World} (h : Below w.heap.size w w') : Kx X w w' := ⟨h.os, h.tape, h.output, h.size, fun k hk _ => h.block k hk⟩
theorem Kx.below {w w' : World} (h : Kx (fun _ => True) w w') : Below w.heap.size w w' := ⟨h.os, h.tape, h.output, h.size, fun k hk => h.block k hk trivial⟩
theorem Kx.below_of {X : Nat → Prop} {w w' : World} (h : Kx X w w') (hX : ∀ k, k < w.heap.size → X k) : Below w.heap.size w w' := ⟨h.os, h.tape, h.output, h.size, fun k hk => h.block k hk (hX k hk)⟩
theorem Kx.cell {X : Nat → Prop} {w w' : World} (h : Kx X w w') {p : Addr} {v : Value} (hv : w.cell? p = some v) (hX : X p.block) : w'.cell? p = some v :=
  (World.cell?_of_block (w := w) (h.block p.block (World.block_lt_of_cell? w p hv) hX)).trans hv
theorem Kx.frozen {X : Nat → Prop} {w w' : World} (h : Kx X w w') {p : Addr} (hp : p.block < w.heap.size) (hX : X p.block) : w'.frozen? p = w.frozen? p := World.frozen?_of_block (w := w) (h.block p.block hp hX)
theorem Kx.alloc {X : Nat → Prop} {a w : World} (h : Kx X a w) (o : Obj) : Kx X a (w.alloc o) :=
  h.trans ⟨rfl, rfl, rfl, by simp, fun k hk _ => Below.heap_alloc _ _ _ hk⟩
theorem Kx.drewN {X : Nat → Prop} {a w : World} (h : Kx X a w) (n : Nat) : Kx X a (w.drewN n) := ⟨h.os, h.tape, h.output, h.size, h.block⟩
theorem Kx.set {X : Nat → Prop} {a w : World} (h : Kx X a w) {p : Addr} (hp : a.heap.size ≤ p.block ∨ ¬ X p.block) (u : Value) : Kx X a (w.setCell p u) :=
  ⟨h.os, h.tape, h.output, by simpa [World.setCell] using h.size, fun k hk hn => (Below.heap_setCell _ _ _ _ (fun e => by
    subst e
    rcases hp with hp | hp
    · omega
    · exact hp hn)).trans (h.block k hk hn)⟩
theorem Kx.grown {X : Nat → Prop} {a w w' : World} {row : Option Nat} (h : Kx X a w) (hg : w.grownBy w' row) (hr : ∀ k, row = some k → a.heap.size ≤ k ∨ ¬ X k) : Kx X a w' :=
  ⟨hg.os.trans h.os, hg.tape.trans h.tape, hg.output.trans h.output, Nat.le_trans h.size hg.size, fun k hk hn => (hg.block k (Nat.lt_of_lt_of_le hk h.size) (fun e => by
    rcases hr k e.symm with h1 | h1
    · omega
    · exact h1 hn)).trans (h.block k hk hn)⟩
theorem btrans {a b c : World} (h : Below a.heap.size a b) (k : Below b.heap.size b c) : Below a.heap.size a c := h.trans (k.mono h.size)
theorem bsome {w w' : World} (h : Below w.heap.size w w') {p : Addr} {v : Value} (hv : w.cell? p = .some v) : w'.cell? p = .some v :=
  (h.cell (World.block_lt_of_cell? w p hv)).trans hv

/-- Numbers as cells. -/
def ints (l : List Int) : List Value := l.map fun k => Value.int .i64 k
def up (l : List Nat) : List Int := l.map fun (k : Nat) => (k : Int)
theorem ints_len (l : List Int) : (ints l).length = l.length := by simp [ints]
theorem up_len (l : List Nat) : (up l).length = l.length := by simp [up]
theorem ints_app (a b : List Int) : ints (a ++ b) = ints a ++ ints b := by simp [ints]
theorem up_app (a b : List Nat) : up (a ++ b) = up a ++ up b := by simp [up]
theorem up_get {l : List Nat} {k v : Nat} (h : l[k]? = some v) : (up l)[k]? = some (v : Int) := by simp [up, h]
/-- A row of numbers that can be read. -/
def IR (w : World) (v : Value) (l : List Int) : Prop :=
  ∃ a c, v = .slice a l.length c ∧ (l ≠ [] → ∃ g o, a = some ⟨g, o, none⟩ ∧ ∀ (k : Nat) x, l[k]? = some x → w.cell? ⟨g, o + k, none⟩ = some (.int .i64 x))
theorem IR.keep {w w' : World} {v : Value} {l : List Int} (h : IR w v l) (hb : Below w.heap.size w w') : IR w' v l := by
  obtain ⟨a, c, h1, h2⟩ := h
  refine ⟨a, c, h1, fun hn => ?_⟩
  obtain ⟨g, o, h3, h4⟩ := h2 hn
  exact ⟨g, o, h3, fun k x hx => bsome hb (h4 k x hx)⟩
theorem IR.keepX {X : Nat → Prop} {w w' : World} {v : Value} {l : List Int} (h : IR w v l) (hb : Kx X w w') (hX : ∀ g, v.ownBlock = some g → X g) : IR w' v l := by
  obtain ⟨a, c, h1, h2⟩ := h
  refine ⟨a, c, h1, fun hn => ?_⟩
  obtain ⟨g, o, h3, h4⟩ := h2 hn
  refine ⟨g, o, h3, fun k x hx => hb.cell (h4 k x hx) (hX g ?_)⟩
  rw [h1, h3]; rfl
theorem add_off (g k : Nat) : (⟨g, 0, none⟩ : Addr).add k = ⟨g, k, none⟩ := by unfold Addr.add; split <;> simp_all
theorem own_ir {w : World} {B : Nat} {v : Value} {l : List Int} (h : w.ownsRow B 3 1 v l.length (ints l)) : IR w v l := by
  rcases h.2 with ⟨hv, h0⟩ | ⟨g, cap, cur, hv, hb, hg, hnc, hcm, _, _⟩
  · refine ⟨none, 0, by rw [hv, h0], fun hn => ?_⟩
    exact absurd (List.length_eq_zero_iff.1 h0) hn
  · refine ⟨_, cap, hv, fun _ => ⟨g, 0, rfl, fun k x hx => ?_⟩⟩
    have := h.cells (g := g) (by rw [hv]; rfl) k (.int .i64 x) (by simp [ints, hx])
    rw [add_off] at this
    rw [Nat.zero_add]
    exact this
theorem cell_one_new (w : World) (x : Value) (t : TypeId) : ∀ j u, [x][j]? = some u → (w.alloc (.cells #[x] t)).cell? ((⟨w.heap.size, 0, none⟩ : Addr).add j) = some u := by
  intro j u hu
  match j, hu with
  | 0, hu => simp at hu; subst hu; simp [go_sem, Addr.add]

/-- A stage as code: where its instructions lie, and what is told of them. -/
structure Cp where
  g : Nat
  o : Nat
  c : Nat
  a : Option Addr
  nm : Value
  vs : Value
  pr : Value
  bl : Value
  p : Pa.Pr
def Cp.v (c : Cp) : Value := .agg #[c.nm, c.vs, c.pr, c.bl, .slice c.a c.p.length c.c]
structure PM (c : Cp) (w : World) : Prop where
  few : c.p.length ≤ 300
  ne : c.p ≠ [] → c.a = some ⟨c.g, c.o, none⟩
  row : ∀ (i : Nat) x, c.p[i]? = some x → ∃ (u1 u2 u3 : Int) (u5 : ByteArray) (a6 : Option Addr) (n6 c6 : Nat) (a7 : Option Addr) (n7 c7 : Nat) (u8 u9 u10 : Int), w.cell? ⟨c.g, c.o + i * 11, none⟩ = some (.int .i64 x.1) ∧ w.cell? ⟨c.g, c.o + i * 11 + 1, none⟩ = some (.int .i64 u1) ∧ w.cell? ⟨c.g, c.o + i * 11 + 2, none⟩ = some (.int .i64 u2) ∧ w.cell? ⟨c.g, c.o + i * 11 + 3, none⟩ = some (.int .i64 u3) ∧
    w.cell? ⟨c.g, c.o + i * 11 + 4, none⟩ = some (.int .i64 x.2) ∧ w.cell? ⟨c.g, c.o + i * 11 + 5, none⟩ = some (.string u5) ∧ w.cell? ⟨c.g, c.o + i * 11 + 6, none⟩ = some (.slice a6 n6 c6) ∧ w.cell? ⟨c.g, c.o + i * 11 + 7, none⟩ = some (.slice a7 n7 c7) ∧ w.cell? ⟨c.g, c.o + i * 11 + 8, none⟩ = some (.int .i64 u8) ∧ w.cell? ⟨c.g, c.o + i * 11 + 9, none⟩ = some (.int .i64 u9) ∧ w.cell? ⟨c.g, c.o + i * 11 + 10, none⟩ = some (.int .i64 u10)
theorem PM.keepX {X : Nat → Prop} {c : Cp} {w w' : World} (h : PM c w) (hk : Kx X w w') (hX : X c.g) : PM c w' := by
  refine ⟨h.few, h.ne, fun i x hx => ?_⟩
  obtain ⟨u1, u2, u3, u5, a6, n6, c6, a7, n7, c7, u8, u9, u10, h0, h1, h2, h3, h4, h5, h6, h7, h8, h9, h10⟩ := h.row i x hx
  exact ⟨u1, u2, u3, u5, a6, n6, c6, a7, n7, c7, u8, u9, u10, hk.cell h0 hX, hk.cell h1 hX, hk.cell h2 hX, hk.cell h3 hX, hk.cell h4 hX, hk.cell h5 hX, hk.cell h6 hX, hk.cell h7 hX, hk.cell h8 hX, hk.cell h9 hX, hk.cell h10 hX⟩
theorem PM.keep {c : Cp} {w w' : World} (h : PM c w) (hb : Below w.heap.size w w') : PM c w' := h.keepX (X := fun _ => True) (Kx.of_below hb) trivial

set_option maxHeartbeats 400000 in
theorem isIns_any (c : Cp) (i : Int) (w : World) :
    Calls Try.prog 15 #[c.v, .int .i64 i] w fun e w' => e = .returned (.bool (Pa.isI c.p i)) ∧ Below w.heap.size w w' := by
  unfold Cp.v
  by_cases h0 : 0 ≤ i
  · by_cases h1 : i < (c.p.length : Int)
    · have e : Pa.isI c.p i = true := Pa.isI_iff.2 ⟨h0, h1⟩
      rw [e]
      go_enter Try.func15, Try.ntmps15
      go_wp2
      go_ret
      exact ⟨rfl, (Below.refl _ _).alloc (Nat.le_refl _) _⟩
    · have e : Pa.isI c.p i = false := Pa.isI_no.2 (.inr (by omega))
      have h1' : decide (i < (c.p.length : Int)) = false := by simpa using h1
      rw [e]
      go_enter Try.func15, Try.ntmps15
      go_wp2
      go_ret
      exact ⟨rfl, (Below.refl _ _).alloc (Nat.le_refl _) _⟩
  · have e : Pa.isI c.p i = false := Pa.isI_no.2 (.inl (by omega))
    have h0' : decide (0 ≤ i) = false := by simpa using h0
    rw [e]
    go_enter Try.func15, Try.ntmps15
    go_wp2
    go_ret
    exact ⟨rfl, (Below.refl _ _).alloc (Nat.le_refl _) _⟩
end Go.Proofs.Ytfngmdebmedkjae
