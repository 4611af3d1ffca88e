import Derived.Test.YtbepaimbbclejaaRkP
import Derived.WalkKit
import Derived.WalkSpells
import Derived.WalkLawsBesides
import Derived.Deep.QuietTactic
import Derived.BigQuiet
import Derived.Deep.AppendLies
/- Small tools for package ranks: what a call keeps; rows of numbers; rows of edges. -/
namespace Go.Proofs.Ytbepaimbbclejaa
open Go.RowKit

theorem hide {p : Prop} (h : p) : Hid p := h
theorem bcell {W w1 : World} (hb : Below W.heap.size W w1) : (∀ b o, b < W.heap.size → w1.cell? ⟨b, o, none⟩ = W.cell? ⟨b, o, none⟩) ∧ (∀ b o, b < W.heap.size → w1.frozen? ⟨b, o, none⟩ = W.frozen? ⟨b, o, none⟩) :=
  ⟨fun b o h => hb.cell (p := ⟨b, o, none⟩) h, fun b o h => hb.frozen (p := ⟨b, o, none⟩) h⟩
theorem Try.info3 : (Try.prog.info? 3).map (fun i => (i.zero, i.size, i.bytes)) = some (some (.int .i64 0), 1, 8) := by kernel_rfl

/-- Of the blocks that were there, those of X are as they were. -/
structure Kx (X : Nat → Prop) (w w' : World) : Prop where
  os : w'.os = w.os
  tape : w'.tape = w.tape
  output : w'.output = w.output
  size : w.heap.size ≤ w'.heap.size
  block : ∀ k, k < w.heap.size → X k → w'.heap[k]? = w.heap[k]?
theorem Kx.refl (X : Nat → Prop) (w : World) : Kx X w w := ⟨rfl, rfl, rfl, Nat.le_refl _, fun _ _ _ => rfl⟩
theorem Kx.trans {X : Nat → Prop} {a b c : World} (h : Kx X a b) (k : Kx X b c) : Kx X a c :=
  ⟨k.os.trans h.os, k.tape.trans h.tape, k.output.trans h.output, Nat.le_trans h.size k.size, fun i hi hn => (k.block i (Nat.lt_of_lt_of_le hi h.size) hn).trans (h.block i hi hn)⟩
theorem Kx.mono {X Y : Nat → Prop} {a b : World} (h : Kx X a b) (hs : ∀ k, k < a.heap.size → Y k → X k) : Kx Y a b :=
  ⟨h.os, h.tape, h.output, h.size, fun i hi hn => h.block i hi (hs i hi hn)⟩
theorem Kx.of_below {X : Nat → Prop} {w w' : World} (h : Below w.heap.size w w') : Kx X w w' := ⟨h.os, h.tape, h.output, h.size, fun k hk _ => h.block k hk⟩
theorem Kx.below {w w' : World} (h : Kx (fun _ => True) w w') : Below w.heap.size w w' := ⟨h.os, h.tape, h.output, h.size, fun k hk => h.block k hk trivial⟩
theorem Kx.below_of {X : Nat → Prop} {w w' : World} (h : Kx X w w') (hX : ∀ k, k < w.heap.size → X k) : Below w.heap.size w w' := ⟨h.os, h.tape, h.output, h.size, fun k hk => h.block k hk (hX k hk)⟩
theorem Kx.cell {X : Nat → Prop} {w w' : World} (h : Kx X w w') {p : Addr} {v : Value} (hv : w.cell? p = some v) (hX : X p.block) : w'.cell? p = some v :=
  (World.cell?_of_block (w := w) (h.block p.block (World.block_lt_of_cell? w p hv) hX)).trans hv
theorem Kx.frozen {X : Nat → Prop} {w w' : World} (h : Kx X w w') {p : Addr} (hp : p.block < w.heap.size) (hX : X p.block) : w'.frozen? p = w.frozen? p := World.frozen?_of_block (w := w) (h.block p.block hp hX)
theorem Kx.alloc {X : Nat → Prop} {a w : World} (h : Kx X a w) (o : Obj) : Kx X a (w.alloc o) :=
  h.trans ⟨rfl, rfl, rfl, by simp, fun k hk _ => Below.heap_alloc _ _ _ hk⟩
theorem Kx.drewN {X : Nat → Prop} {a w : World} (h : Kx X a w) (n : Nat) : Kx X a (w.drewN n) := ⟨h.os, h.tape, h.output, h.size, h.block⟩
theorem Kx.set {X : Nat → Prop} {a w : World} (h : Kx X a w) {p : Addr} (hp : a.heap.size ≤ p.block ∨ ¬ X p.block) (u : Value) : Kx X a (w.setCell p u) :=
  ⟨h.os, h.tape, h.output, by simpa [World.setCell] using h.size, fun k hk hn => (Below.heap_setCell _ _ _ _ (fun e => by
    subst e
    rcases hp with hp | hp
    · omega
    · exact hp hn)).trans (h.block k hk hn)⟩
theorem Kx.grown {X : Nat → Prop} {a w w' : World} {row : Option Nat} (h : Kx X a w) (hg : w.grownBy w' row) (hr : ∀ k, row = some k → a.heap.size ≤ k ∨ ¬ X k) : Kx X a w' :=
  ⟨hg.os.trans h.os, hg.tape.trans h.tape, hg.output.trans h.output, Nat.le_trans h.size hg.size, fun k hk hn => (hg.block k (Nat.lt_of_lt_of_le hk h.size) (fun e => by
    rcases hr k e.symm with h1 | h1
    · omega
    · exact h1 hn)).trans (h.block k hk hn)⟩
theorem btrans {a b c : World} (h : Below a.heap.size a b) (k : Below b.heap.size b c) : Below a.heap.size a c := h.trans (k.mono h.size)
theorem bsome {w w' : World} (h : Below w.heap.size w w') {p : Addr} {v : Value} (hv : w.cell? p = .some v) : w'.cell? p = .some v :=
  (h.cell (World.block_lt_of_cell? w p hv)).trans hv

/-- Numbers as cells. -/
def ints (l : List Int) : List Value := l.map fun k => Value.int .i64 k
def up (l : List Nat) : List Int := l.map fun (k : Nat) => (k : Int)
theorem ints_len (l : List Int) : (ints l).length = l.length := by simp [ints]
theorem up_len (l : List Nat) : (up l).length = l.length := by simp [up]
theorem ints_app (a b : List Int) : ints (a ++ b) = ints a ++ ints b := by simp [ints]
theorem up_app (a b : List Nat) : up (a ++ b) = up a ++ up b := by simp [up]
theorem up_get {l : List Nat} {k v : Nat} (h : l[k]? = some v) : (up l)[k]? = some (v : Int) := by simp [up, h]
/-- A row of numbers that can be read. -/
def IR (w : World) (v : Value) (l : List Int) : Prop :=
  ∃ a c, v = .slice a l.length c ∧ (l ≠ [] → ∃ g o, a = some ⟨g, o, none⟩ ∧ ∀ (k : Nat) x, l[k]? = some x → w.cell? ⟨g, o + k, none⟩ = some (.int .i64 x))
theorem IR.keep {w w' : World} {v : Value} {l : List Int} (h : IR w v l) (hb : Below w.heap.size w w') : IR w' v l := by
  obtain ⟨a, c, h1, h2⟩ := h
  refine ⟨a, c, h1, fun hn => ?_⟩
  obtain ⟨g, o, h3, h4⟩ := h2 hn
  exact ⟨g, o, h3, fun k x hx => bsome hb (h4 k x hx)⟩
theorem IR.keepX {X : Nat → Prop} {w w' : World} {v : Value} {l : List Int} (h : IR w v l) (hb : Kx X w w') (hX : ∀ g, v.ownBlock = some g → X g) : IR w' v l := by
  obtain ⟨a, c, h1, h2⟩ := h
  refine ⟨a, c, h1, fun hn => ?_⟩
  obtain ⟨g, o, h3, h4⟩ := h2 hn
  refine ⟨g, o, h3, fun k x hx => hb.cell (h4 k x hx) (hX g ?_)⟩
  rw [h1, h3]; rfl
theorem add_off (g k : Nat) : (⟨g, 0, none⟩ : Addr).add k = ⟨g, k, none⟩ := by unfold Addr.add; split <;> simp_all
theorem own_ir {w : World} {B : Nat} {v : Value} {l : List Int} (h : w.ownsRow B 3 1 v l.length (ints l)) : IR w v l := by
  rcases h.2 with ⟨hv, h0⟩ | ⟨g, cap, cur, hv, hb, hg, hnc, hcm, _, _⟩
  · refine ⟨none, 0, by rw [hv, h0], fun hn => ?_⟩
    exact absurd (List.length_eq_zero_iff.1 h0) hn
  · refine ⟨_, cap, hv, fun _ => ⟨g, 0, rfl, fun k x hx => ?_⟩⟩
    have := h.cells (g := g) (by rw [hv]; rfl) k (.int .i64 x) (by simp [ints, hx])
    rw [add_off] at this
    rw [Nat.zero_add]
    exact this
theorem cell_one_new (w : World) (x : Value) (t : TypeId) : ∀ j u, [x][j]? = some u → (w.alloc (.cells #[x] t)).cell? ((⟨w.heap.size, 0, none⟩ : Addr).add j) = some u := by
  intro j u hu
  match j, hu with
  | 0, hu => simp at hu; subst hu; simp [go_sem, Addr.add]

theorem own_keep {B : Nat} {w w' : World} {v : Value} {n : Nat} {xs : List Value} (h : w.ownsRow B 3 1 v n xs) (hk : ∀ g, v.ownBlock = some g → w'.heap[g]? = w.heap[g]?) : w'.ownsRow B 3 1 v n xs := by
  refine ⟨h.1, ?_⟩
  rcases h.2 with h | ⟨g, cap, cur, hv, hb, hg, rest⟩
  · exact .inl h
  · exact .inr ⟨g, cap, cur, hv, hb, by rw [hk g (by rw [hv]; rfl)]; exact hg, rest⟩
/-- A row of numbers that is written in place. -/
structure AR (ga : Nat) (w : World) (ah : List Int) : Prop where
  cell : ∀ (k : Nat) x, ah[k]? = some x → w.cell? ⟨ga, k, none⟩ = some (.int .i64 x)
  thaw : ∀ k, w.frozen? ⟨ga, k, none⟩ = false
  lt : ga < w.heap.size
theorem AR.keep {ga : Nat} {w w' : World} {ah : List Int} (h : AR ga w ah) (hb : w'.heap[ga]? = w.heap[ga]?) (hs : w.heap.size ≤ w'.heap.size) : AR ga w' ah :=
  ⟨fun k x hx => (World.cell?_of_block (w := w) (a := ⟨ga, k, none⟩) hb).trans (h.cell k x hx), fun k => (World.frozen?_of_block (w := w) (a := ⟨ga, k, none⟩) hb).trans (h.thaw k), by have := h.lt; omega⟩
theorem AR.below {ga : Nat} {w w' : World} {ah : List Int} (h : AR ga w ah) (hb : Below w.heap.size w w') : AR ga w' ah := h.keep (hb.block ga h.lt) hb.size
theorem AR.set {ga : Nat} {w : World} {ah : List Int} (h : AR ga w ah) {v : Nat} {x : Int} (hv : ah[v]? = some x) (y : Int) : AR ga (w.setCell ⟨ga, v, none⟩ (.int .i64 y)) (ah.set v y) := by
  have hc := h.cell v x hv
  refine ⟨fun k z hz => ?_, fun k => ?_, by simpa [World.setCell] using h.lt⟩
  · by_cases e : k = v
    · subst e
      rw [List.getElem?_set_self (List.getElem?_eq_some_iff.1 hv).1] at hz
      cases hz
      simp [go_sem, hc]
    · rw [List.getElem?_set_ne (by omega)] at hz
      have := h.cell k z hz
      simp [go_sem, this]
  · have := h.thaw k
    simp [go_sem, this]

theorem made_get (n k : Nat) (h : k < n) : (madeCells #[Value.int .i64 0] n)[k]? = some (.int .i64 0) := by
  unfold madeCells
  rw [Array.getElem?_map]
  simp [h, Nat.mod_one]
theorem make_ints (n : Nat) (hn : n ≤ 300) : ∃ Z : Array Value, (∀ k, k < n → Z[k]? = some (.int .i64 0)) ∧ ∀ w : World, (Instr.makeSlice 28 (.int .i64 (n : Int)) (.int .i64 (n : Int))).run Try.prog w = .ok (.slice (some ⟨w.heap.size, 0, none⟩) n n) (w.alloc (.cells Z 3)) := by
  obtain ⟨i0, hi, hz0, hz1, hz2⟩ := info_parts Try.info3
  refine ⟨madeCells #[Value.int .i64 0] n, made_get n, fun w => ?_⟩
  have := run_make (P := Try.prog) w 28 3 i0 (.int .i64 0) Try.underlying28 hi hz0 .i64 .i64 (n : Int) (n : Int) (by omega) (Int.le_refl _) (by rw [hz2]; omega) (by omega)
  rw [hz1] at this
  simpa [Value.cells] using this
theorem ar_new (w : World) (Z : Array Value) (n : Nat) (hZ : ∀ k, k < n → Z[k]? = some (.int .i64 0)) : AR w.heap.size (w.alloc (.cells Z 3)) (List.replicate n 0) := by
  refine ⟨fun k x hx => ?_, fun k => by simp [go_sem], by simp⟩
  rw [List.getElem?_replicate] at hx
  split at hx
  · rename_i hk
    cases hx
    have := hZ k hk
    simp [go_sem, this]
  · cases hx
/-- A row of edges that can be read. -/
def ER (w : World) (v : Value) (E : List (Int × Int)) : Prop :=
  ∃ a c, v = .slice a E.length c ∧ (E ≠ [] → ∃ g o, a = some ⟨g, o, none⟩ ∧ ∀ (k : Nat) x, E[k]? = some x → w.cell? ⟨g, o + k * 2, none⟩ = some (.int .i64 x.1) ∧ w.cell? ⟨g, o + k * 2 + 1, none⟩ = some (.int .i64 x.2))
theorem ER.keepX {X : Nat → Prop} {w w' : World} {v : Value} {E : List (Int × Int)} (h : ER w v E) (hb : Kx X w w') (hX : ∀ g, v.ownBlock = some g → X g) : ER w' v E := by
  obtain ⟨a, c, h1, h2⟩ := h
  refine ⟨a, c, h1, fun hn => ?_⟩
  obtain ⟨g, o, h3, h4⟩ := h2 hn
  have hg : X g := hX g (by rw [h1, h3]; rfl)
  exact ⟨g, o, h3, fun k x hx => ⟨hb.cell (h4 k x hx).1 hg, hb.cell (h4 k x hx).2 hg⟩⟩
theorem ER.keep {w w' : World} {v : Value} {E : List (Int × Int)} (h : ER w v E) (hb : Below w.heap.size w w') : ER w' v E := h.keepX (X := fun _ => True) (Kx.of_below hb) (fun _ _ => trivial)
theorem ER.lt {w : World} {v : Value} {E : List (Int × Int)} (h : ER w v E) (hE : E ≠ []) : ∀ g, v.ownBlock = some g → g < w.heap.size := by
  obtain ⟨a, c, rfl, h2⟩ := h
  obtain ⟨g, o, rfl, h4⟩ := h2 hE
  obtain ⟨x, hx⟩ : ∃ x, E[0]? = some x := ⟨_, List.getElem?_eq_getElem (List.length_pos_iff.2 hE)⟩
  intro g' hg
  have e : g' = g := by simpa [Value.ownBlock] using hg.symm
  subst e
  exact World.block_lt_of_cell? _ _ (h4 0 x hx).1
end Go.Proofs.Ytbepaimbbclejaa
