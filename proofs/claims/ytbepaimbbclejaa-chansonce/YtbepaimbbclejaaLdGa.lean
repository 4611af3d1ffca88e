import Derived.Test.YtbepaimbbclejaaRkPa
import Derived.Laws.OwnMore
import Derived.ChangeKeysEq
import Derived.Lib.SliceRun
import Derived.BigQuiet
import Derived.BigRegion
import Derived.Deep.RegionLaw
/- Ledgers: ends in memory. -/
namespace Go.Proofs.Ytbepaimbbclejaa
open Go.RowKit

/-- An end. -/
structure En where
  c : Int
  s : Bool
  h : Int
  d : Int
def En.cl (x : En) : List Value := [.int .i64 x.c, .bool x.s, .int .i64 x.h, .int .i64 x.d]
def En.val (x : En) : Value := .agg #[.int .i64 x.c, .bool x.s, .int .i64 x.h, .int .i64 x.d]
def ecl (L : List En) : List Value := L.flatMap En.cl
theorem ecl_cons (x : En) (L : List En) : ecl (x :: L) = .int .i64 x.c :: .bool x.s :: .int .i64 x.h :: .int .i64 x.d :: ecl L := rfl
theorem ecl_len (L : List En) : (ecl L).length = L.length * 4 := by
  induction L with
  | nil => rfl
  | cons x L ih => rw [ecl_cons]; simp only [List.length_cons, ih]; omega
theorem ecl_app (A B : List En) : ecl (A ++ B) = ecl A ++ ecl B := by simp [ecl]
theorem ecl_one (L : List En) : ∀ u ∈ ecl L, u.oneCell' = true := by
  intro u hu
  simp only [ecl, List.mem_flatMap, En.cl] at hu
  obtain ⟨x, -, hx⟩ := hu
  simp at hx
  rcases hx with rfl | rfl | rfl | rfl <;> rfl
theorem ecl_at (L : List En) : ∀ (k : Nat) (x : En), L[k]? = some x → (ecl L)[k * 4]? = some (.int .i64 x.c) ∧ (ecl L)[k * 4 + 1]? = some (.bool x.s) ∧ (ecl L)[k * 4 + 2]? = some (.int .i64 x.h) ∧ (ecl L)[k * 4 + 3]? = some (.int .i64 x.d) := by
  induction L with
  | nil => intro k x h; simp at h
  | cons y L ih =>
    intro k x h
    cases k with
    | zero => simp at h; subst h; rw [ecl_cons]; simp
    | succ k =>
      obtain ⟨h1, h2, h3, h4⟩ := ih k x (by simpa using h)
      rw [ecl_cons, show (k + 1) * 4 = k * 4 + 4 by omega]
      exact ⟨h1, h2, h3, h4⟩
theorem ecl_seth (L : List En) : ∀ (k : Nat) (x : En) (y : Int), L[k]? = some x → (ecl L).set (k * 4 + 2) (.int .i64 y) = ecl (L.set k { x with h := y }) := by
  induction L with
  | nil => intro k x y h; simp at h
  | cons z L ih =>
    intro k x y h
    cases k with
    | zero => simp at h; subst h; rfl
    | succ k =>
      have := ih k x y (by simpa using h)
      rw [ecl_cons, show (k + 1) * 4 + 2 = (k * 4 + 2) + 4 by omega]
      show _ :: _ :: _ :: _ :: _ = ecl (z :: L.set k _)
      rw [ecl_cons, ← this]
theorem ecl_setd (L : List En) : ∀ (k : Nat) (x : En) (y : Int), L[k]? = some x → (ecl L).set (k * 4 + 3) (.int .i64 y) = ecl (L.set k { x with d := y }) := by
  induction L with
  | nil => intro k x y h; simp at h
  | cons z L ih =>
    intro k x y h
    cases k with
    | zero => simp at h; subst h; rfl
    | succ k =>
      have := ih k x y (by simpa using h)
      rw [ecl_cons, show (k + 1) * 4 + 3 = (k * 4 + 3) + 4 by omega]
      show _ :: _ :: _ :: _ :: _ = ecl (z :: L.set k _)
      rw [ecl_cons, ← this]
theorem En.neq_same (x : En) (w : World) : Sem.run Try.prog (binOp .neq 48 (.agg #[.int .i64 x.c, .bool x.s, .int .i64 x.h, .int .i64 x.d]) (.agg #[.int .i64 x.c, .bool x.s, .int .i64 x.h, .int .i64 x.d])) w = .ok (.bool false) w := by
  have u3 := Try.underlying3
  have a3 := Try.isAgg3
  have z3 := Try.sizeOf3
  have u4 := Try.underlying4
  have a4 := Try.isAgg4
  have z4 := Try.sizeOf4
  rw [run_neq_struct, show (10000 : Nat) = 9999 + 1 from rfl, run_equalIn_agg w 9999 48 _ _ (by exact Try.underlying48) (by kernel_rfl)]
  simp only [Program.fieldsOf, Try.underlying48]
  go_simp

/-- A ledger at p: its ends lie in a row of its own; all from B on. -/
structure LG (B : Nat) (w : World) (p : Nat) (v : Value) (L : List En) : Prop where
  c : w.cell? ⟨p, 0, none⟩ = some v
  t : ∀ k, w.frozen? ⟨p, k, none⟩ = false
  lo : B ≤ p
  o : w.ownsRow B 48 4 v L.length (ecl L)
  ne : v.ownBlock ≠ some p
section
variable {B : Nat} {w w' : World} {p : Nat} {v : Value} {L : List En}
theorem own_keepe {t z B : Nat} {w w' : World} {v : Value} {n : Nat} {xs : List Value} (h : w.ownsRow B t z v n xs) (hk : ∀ g, v.ownBlock = some g → w'.heap[g]? = w.heap[g]?) : w'.ownsRow B t z v n xs := by
  refine ⟨h.1, ?_⟩
  rcases h.2 with h0 | ⟨g, cap, cur, hv, hb, hg, rest⟩
  · exact .inl h0
  · exact .inr ⟨g, cap, cur, hv, hb, (hk g (by rw [hv]; rfl)).trans hg, rest⟩
theorem LG.plt (h : LG B w p v L) : p < w.heap.size := World.block_lt_of_cell? _ _ h.c
theorem LG.keepX (h : LG B w p v L) {X : Nat → Prop} (hk : Kx X w w') (hp : X p) (hv : ∀ g, v.ownBlock = some g → X g) : LG B w' p v L :=
  ⟨hk.cell h.c hp, fun k => (hk.frozen (p := ⟨p, k, none⟩) h.plt hp).trans (h.t k), h.lo, own_keepe h.o (fun g hg => hk.block g (h.o.lt g hg).2 (hv g hg)), h.ne⟩
theorem LG.keep (h : LG B w p v L) (hb : Below w.heap.size w w') : LG B w' p v L := h.keepX (X := fun _ => True) (Kx.of_below hb) trivial (fun _ _ => trivial)
theorem LG.form (h : LG B w p v L) : ∃ a c, v = .slice a L.length c := by
  rcases h.o.2 with ⟨h1, h0⟩ | ⟨g, cap, cur, hv, hg, rest⟩
  · exact ⟨none, 0, by rw [h1, h0]⟩
  · exact ⟨_, cap, hv⟩
/-- Where its ends lie. -/
theorem LG.at (h : LG B w p v L) {k : Nat} {x : En} (hx : L[k]? = some x) : ∃ g c, v = .slice (some ⟨g, 0, none⟩) L.length c ∧ g ≠ p ∧ w.cell? ⟨g, k * 4, none⟩ = some (.int .i64 x.c) ∧ w.cell? ⟨g, k * 4 + 1, none⟩ = some (.bool x.s) ∧ w.cell? ⟨g, k * 4 + 2, none⟩ = some (.int .i64 x.h) ∧ w.cell? ⟨g, k * 4 + 3, none⟩ = some (.int .i64 x.d) ∧ ∀ j, w.frozen? ⟨g, j, none⟩ = false := by
  have hk := (List.getElem?_eq_some_iff.1 hx).1
  obtain ⟨g, cap, hv, hg, -⟩ := h.o.form (by omega)
  have ho := h.o
  rw [hv] at ho
  obtain ⟨c1, c2, c3, c4⟩ := ecl_at L k x hx
  refine ⟨g, cap, hv, fun e => h.ne (by rw [hv, ← e]; rfl), ?_, ?_, ?_, ?_, fun j => ho.frozenAt j⟩
  · rw [ho.cellAt _ (by omega)]; exact c1
  · rw [ho.cellAt _ (by omega)]; exact c2
  · rw [ho.cellAt _ (by omega)]; exact c3
  · rw [ho.cellAt _ (by omega)]; exact c4
/-- An end's home is another one. -/
theorem LG.seth {g c k : Nat} {x : En} (h : LG B w p (.slice (some ⟨g, 0, none⟩) L.length c) L) (hx : L[k]? = some x) (y : Int) : LG B (w.setCell ⟨g, k * 4 + 2, none⟩ (.int .i64 y)) p (.slice (some ⟨g, 0, none⟩) L.length c) (L.set k { x with h := y }) := by
  have hne : g ≠ p := fun e => h.ne (by rw [e]; rfl)
  refine ⟨?_, fun j => by rw [World.frozen?_setCell]; exact h.t j, h.lo, ?_, h.ne⟩
  · rw [World.cell?_setCell_other _ _ _ _ (fun e' => by injection e' with e1; omega)]
    exact h.c
  · have := (h.o.stored (k * 4 + 2) (.int .i64 y)).1
    rw [ecl_seth L k x y hx] at this
    rw [List.length_set]
    exact this
theorem LG.setd {g c k : Nat} {x : En} (h : LG B w p (.slice (some ⟨g, 0, none⟩) L.length c) L) (hx : L[k]? = some x) (y : Int) : LG B (w.setCell ⟨g, k * 4 + 3, none⟩ (.int .i64 y)) p (.slice (some ⟨g, 0, none⟩) L.length c) (L.set k { x with d := y }) := by
  have hne : g ≠ p := fun e => h.ne (by rw [e]; rfl)
  refine ⟨?_, fun j => by rw [World.frozen?_setCell]; exact h.t j, h.lo, ?_, h.ne⟩
  · rw [World.cell?_setCell_other _ _ _ _ (fun e' => by injection e' with e1; omega)]
    exact h.c
  · have := (h.o.stored (k * 4 + 3) (.int .i64 y)).1
    rw [ecl_setd L k x y hx] at this
    rw [List.length_set]
    exact this
/-- One more: another row, and its place set. -/
theorem LG.push (h : LG B w p v L) {w1 : World} {v' : Value} {x : En} (ho : w1.ownsRow B 48 4 v' (L.length + 1) (ecl L ++ x.cl)) (hx : Kx (fun b => some b ≠ v.ownBlock) w w1) (hv : v'.ownBlock = v.ownBlock ∨ ∃ b, v'.ownBlock = some b ∧ w.heap.size ≤ b) : LG B (w1.setCell ⟨p, 0, none⟩ v') p v' (L ++ [x]) := by
  have c1 : w1.cell? ⟨p, 0, none⟩ = some v := hx.cell h.c (fun e => h.ne e.symm)
  have hne : v'.ownBlock ≠ some p := fun e => by
    rcases hv with e1 | ⟨b, e1, hb⟩
    · exact h.ne (by rw [← e1]; exact e)
    · rw [e1] at e
      cases e
      have := h.plt
      omega
  refine ⟨World.cell?_setCell_same _ _ _ c1, fun k => by rw [World.frozen?_setCell]; exact (hx.frozen (p := ⟨p, k, none⟩) h.plt (fun e => h.ne e.symm)).trans (h.t k), h.lo, ?_, hne⟩
  rw [ecl_app, List.length_append, List.length_singleton, show ecl [x] = x.cl from by simp [ecl]]
  exact own_keepe ho (fun g hg => Below.heap_setCell _ _ _ _ (fun e => hne (by rw [hg]; congr 1)))
end
/-- Is there such an end? -/
def Ld.has (L : List En) (e : Int) : Bool := decide (0 ≤ e) && decide (e < (L.length : Int))
def Ld.z : En := ⟨0, false, 0, 0⟩
def Ld.at (L : List En) (e : Int) : En := if 0 ≤ e then L[e.toNat]?.getD Ld.z else Ld.z
theorem Ld.cs (L : List En) (e : Int) : (∃ (k : Nat) (x : En), e = (k : Int) ∧ L[k]? = some x ∧ k < L.length ∧ Ld.has L e = true ∧ Ld.at L e = x) ∨ (Ld.has L e = false ∧ Ld.at L e = Ld.z ∧ ¬ (0 ≤ e ∧ e < (L.length : Int))) := by
  by_cases h : 0 ≤ e ∧ e < (L.length : Int)
  · left
    have hk : e.toNat < L.length := by omega
    refine ⟨e.toNat, L[e.toNat], by omega, List.getElem?_eq_getElem hk, hk, by simp [Ld.has, h.1, h.2], ?_⟩
    unfold Ld.at
    rw [if_pos h.1, List.getElem?_eq_getElem hk]
    rfl
  · right
    refine ⟨?_, ?_, h⟩
    · unfold Ld.has
      rw [Bool.and_eq_false_iff, decide_eq_false_iff_not, decide_eq_false_iff_not]
      omega
    · unfold Ld.at
      split
      · rw [List.getElem?_eq_none (by omega)]; rfl
      · rfl
/-- What is wrong, if a task does that with an end. -/
def Ld.wh (y : En) (t k : Int) : Int := if y.h = -2 then (if k = 1 then 2 else if k = 2 then 3 else 6) else if y.h = t then 0 else if k = 2 then 4 else 5
def Ld.use (L : List En) (e t k : Int) : Int := if Ld.has L e then Ld.wh (Ld.at L e) t k else 1
/-- The ends that have this home, from the number i on. -/
def Ld.of (h : Int) : Nat → List En → List Int
  | _, [] => []
  | i, x :: L => if x.h = h then (i : Int) :: Ld.of h (i + 1) L else Ld.of h (i + 1) L
end Go.Proofs.Ytbepaimbbclejaa
/- Package ledger: small functions. -/
namespace Go.Proofs.Ytbepaimbbclejaa
open Go.RowKit

theorem Try.infoEn : (Try.prog.info? 48).map (fun i => (i.zero, i.size, i.bytes)) = some (some (.agg #[.int .i64 0, .bool false, .int .i64 0, .int .i64 0]), 4, 32) := by kernel_rfl
set_option maxRecDepth 100000
set_option maxHeartbeats 1000000
theorem bset {w0 w : World} (h : Below w0.heap.size w0 w) {p : Addr} (hp : w0.heap.size ≤ p.block) (u : Value) : Below w0.heap.size w0 (w.setCell p u) := ((Kx.of_below (X := fun _ => True) h).set (.inl hp) u).below
theorem bset4 {w0 w : World} (h : Below w0.heap.size w0 w) {b : Nat} (hb : w0.heap.size ≤ b) (u0 u1 u2 u3 : Value) : Below w0.heap.size w0 ((((w.setCell ⟨b, 0, none⟩ u0).setCell ⟨b, 1, none⟩ u1).setCell ⟨b, 2, none⟩ u2).setCell ⟨b, 3, none⟩ u3) :=
  bset (bset (bset (bset h (p := ⟨b, 0, none⟩) hb u0) (p := ⟨b, 1, none⟩) hb u1) (p := ⟨b, 2, none⟩) hb u2) (p := ⟨b, 3, none⟩) hb u3
theorem ldNew_any (w : World) : Calls Try.prog 20 #[] w fun e w' => e = .returned (.pointer (some ⟨w.heap.size, 0, none⟩)) ∧ LG w.heap.size w' w.heap.size (.slice none 0 0) [] ∧ Below w.heap.size w w' := by
  go_enter Try.func20, Try.ntmps20
  go_wp2
  go_ret
  refine ⟨rfl, ⟨by simp [go_sem], fun k => by simp [go_sem], Nat.le_refl _, World.ownsRow_nil _ _ _ _, fun h => by cases h⟩, (Below.refl _ _).alloc (Nat.le_refl _) _⟩
theorem isHome_any (h : Int) (w : World) : Calls Try.prog 54 #[.int .i64 h] w fun e w' => e = .returned (.bool (decide (-1 ≤ h))) ∧ w' = w := by
  go_enter Try.func54, Try.ntmps54
  go_wp2
  go_ret
  exact ⟨rfl, rfl⟩
theorem dropped_any (x : En) (w : World) : Calls Try.prog 56 #[.agg #[.int .i64 x.c, .bool x.s, .int .i64 x.h, .int .i64 x.d]] w fun e w' => e = .returned (.bool (x.h == -2)) ∧ Below w.heap.size w w' := by
  go_enter Try.func56, Try.ntmps56
  go_wp2
  go_ret
  exact ⟨rfl, (Below.refl _ _).alloc (Nat.le_refl _) _⟩
theorem has_any {B : Nat} {w : World} {p : Nat} {v : Value} {L : List En} (h : LG B w p v L) (e : Int) : Calls Try.prog 36 #[.pointer (some ⟨p, 0, none⟩), .int .i64 e] w fun r w' => r = .returned (.bool (Ld.has L e)) ∧ w' = w := by
  obtain ⟨a, c, rfl⟩ := h.form
  have hc := h.c
  clear h
  unfold Ld.has
  by_cases h0 : 0 ≤ e
  · go_enter Try.func36, Try.ntmps36
    go_wp2
    go_ret
    simp [h0]
  · go_enter Try.func36, Try.ntmps36
    go_wp2
    go_ret
    simp
    omega
theorem end_any {B : Nat} {w : World} {p : Nat} {v : Value} {L : List En} (h : LG B w p v L) (e : Int) : Calls Try.prog 15 #[.pointer (some ⟨p, 0, none⟩), .int .i64 e] w fun r w' => r = .returned (.tuple #[.agg #[.int .i64 (Ld.at L e).c, .bool (Ld.at L e).s, .int .i64 (Ld.at L e).h, .int .i64 (Ld.at L e).d], .bool (Ld.has L e)]) ∧ Below w.heap.size w w' := by
  have hp := h.plt
  have hh := hide (has_any (h.keep ((Below.refl _ _).alloc (Nat.le_refl _) (.cells #[.int .i64 0, .bool false, .int .i64 0, .int .i64 0] 48))) e)
  rcases Ld.cs L e with ⟨k, x, rfl, hx, hk, h1, h2⟩ | ⟨h1, h2, -⟩
  · obtain ⟨g, c, rfl, hgp, c1, c2, c3, c4, -⟩ := h.at hx
    have hc := h.c
    rw [h1] at hh
    rw [h1, h2]
    have k0 : (0 : Int) ≤ (k : Int) := by omega
    have k1 : (k : Int) < (L.length : Int) := by omega
    have hg := World.block_lt_of_cell? _ _ c1
    have hgz : g ≠ w.heap.size := fun e => by rw [e] at hg; exact absurd hg (Nat.lt_irrefl _)
    clear h hx
    go_enter Try.func15, Try.ntmps15
    go_wp2_with fail
    refine hh.out.mono ?_
    rintro e w1 ⟨rfl, rfl⟩
    go_wp2
    refine bodyPost_ret (v := .tuple #[.agg #[.int .i64 x.c, .bool x.s, .int .i64 x.h, .int .i64 x.d], .bool true]) (by simp [results, Try.results15, go_sem]) rfl ⟨rfl, ?_⟩
    exact (Below.refl _ _).alloc (Nat.le_refl _) _
  · rw [h1] at hh
    rw [h1, h2]
    clear h
    go_enter Try.func15, Try.ntmps15
    go_wp2_with fail
    refine hh.out.mono ?_
    rintro e w1 ⟨rfl, rfl⟩
    go_wp2
    refine bodyPost_ret (v := .tuple #[.agg #[.int .i64 0, .bool false, .int .i64 0, .int .i64 0], .bool false]) (by simp [results, Try.results15, go_sem]) rfl ⟨rfl, ?_⟩
    exact (Below.refl _ _).alloc (Nat.le_refl _) _
end Go.Proofs.Ytbepaimbbclejaa
/- Package ledger: what changes it. -/
namespace Go.Proofs.Ytbepaimbbclejaa
open Go.RowKit

/-- A ledger was changed: what else there was is as it was, its row is its own or new. -/
structure LC (w w' : World) (p : Nat) (v v' : Value) : Prop where
  k : Kx (fun b => b ≠ p ∧ some b ≠ v.ownBlock) w w'
  n : v'.ownBlock = v.ownBlock ∨ ∃ b, v'.ownBlock = some b ∧ w.heap.size ≤ b
theorem LC.of_below {w w' : World} (h : Below w.heap.size w w') (p : Nat) (v : Value) : LC w w' p v v := ⟨Kx.of_below h, .inl rfl⟩
theorem cell4new (w : World) (u0 u1 u2 u3 : Value) (t : TypeId) : ∀ (j : Nat) u, [u0, u1, u2, u3][j]? = some u → (w.alloc (.cells #[u0, u1, u2, u3] t)).cell? ((⟨w.heap.size, 0, none⟩ : Addr).add j) = some u := by
  intro j u hu
  match j, hu with
  | 0, hu => simp at hu; subst hu; simp [go_sem, Addr.add]
  | 1, hu => simp at hu; subst hu; simp [go_sem, Addr.add]
  | 2, hu => simp at hu; subst hu; simp [go_sem, Addr.add]
  | 3, hu => simp at hu; subst hu; simp [go_sem, Addr.add]
def Ld.born (L : List En) (c : Int) (s : Bool) (h : Int) : List En := if -1 ≤ h then L ++ [⟨c, s, h, 0⟩] else L
set_option maxRecDepth 100000
set_option maxHeartbeats 1000000
theorem born_any {B : Nat} {w : World} {p : Nat} {v : Value} {L : List En} (h : LG B w p v L) (c : Int) (s : Bool) (hm : Int) (hl : L.length ≤ 1000000) :
    Calls Try.prog 40 #[.pointer (some ⟨p, 0, none⟩), .int .i64 c, .bool s, .int .i64 hm] w fun r w' => r = .returned (.int .i64 (if -1 ≤ hm then (L.length : Int) else -1)) ∧ ∃ v', LG B w' p v' (Ld.born L c s hm) ∧ LC w w' p v v' := by
  have HI := hide (isHome_any hm)
  unfold Ld.born
  by_cases h1 : -1 ≤ hm
  · rw [if_pos h1, if_pos h1]
    rw [decide_eq_true h1] at HI
    clear h1
    obtain ⟨i0, hi, hz0, hz1, hz2⟩ := info_parts Try.infoEn
    obtain ⟨a, cp, rfl⟩ := h.form
    have HL := hide h
    have hc := h.c
    have ht := h.t 0
    have hp := h.plt
    have hlo := h.lo
    have hne := h.ne
    clear h
    go_enter Try.func40, Try.ntmps40
    go_wp2_with fail
    refine (HI.out _).mono ?_
    rintro e w1 ⟨rfl, rfl⟩
    go_wp2_with (at_builtin; refine wpList_append_lies _ rfl _ _ 27 rfl B 48 i0 (.agg #[.int .i64 0, .bool false, .int .i64 0, .int .i64 0]) 4 32 Try.underlying27 hi hz0 hz1 hz2 rfl (by decide) _ _ _ rfl (by exact HL.out.o.alloc _) ⟨w1.heap.size, 0, none⟩ 1 1 [.int .i64 c, .bool s, .int .i64 hm, .int .i64 0] rfl rfl (cell4new w1 _ _ _ _ _) (by intro u hu; simp at hu; rcases hu with rfl | rfl | rfl | rfl <;> rfl) (by decide) (by unfold maxLen; omega) (by omega) (by simp; omega) _ rfl ?_)
    intro gq cap w7 hown hgrow hat hlt7
    have HX : Hid (Kx (fun b => some b ≠ (Value.slice a L.length cp).ownBlock) w1 w7) := hide (((Kx.refl _ w1).alloc _).grown hgrow (fun k hk => .inr (fun e => e hk.symm)))
    have HV : Hid ((Value.slice (some ⟨gq, 0, none⟩) (L.length + 1) cap).ownBlock = (Value.slice a L.length cp).ownBlock ∨ ∃ b, (Value.slice (some ⟨gq, 0, none⟩) (L.length + 1) cap).ownBlock = some b ∧ w1.heap.size ≤ b) := hide (hat.imp (fun e => e.symm) (fun e => ⟨gq, rfl, by rw [e]; simp⟩))
    have HF := hide (HL.out.push (x := ⟨c, s, hm, 0⟩) hown HX.out HV.out)
    have c7 : w7.cell? ⟨p, 0, none⟩ = some (.slice a L.length cp) := HX.out.cell hc (fun e => hne e.symm)
    have t7 : w7.frozen? ⟨p, 0, none⟩ = false := (HX.out.frozen (p := ⟨p, 0, none⟩) hp (fun e => hne e.symm)).trans ht
    clear hown hgrow hat hlt7
    go_wp2
    go_ret
    refine ⟨?_, _, HF.out, ⟨(HX.out.mono (fun b _ hb => hb.2)).set (p := ⟨p, 0, none⟩) (.inr (fun e => e.1 rfl)) _, HV.out⟩⟩
    go_num
  · rw [if_neg h1, if_neg h1]
    rw [decide_eq_false h1] at HI
    clear h1
    go_enter Try.func40, Try.ntmps40
    go_wp2_with fail
    refine (HI.out _).mono ?_
    rintro e w1 ⟨rfl, rfl⟩
    go_wp2
    go_ret
    exact ⟨rfl, v, h, LC.of_below (Below.refl _ _) p v⟩
def Ld.may (L : List En) (e h : Int) : Bool := Ld.has L e && (decide (-1 ≤ h) && !((Ld.at L e).h == -2))
def Ld.move (L : List En) (e h : Int) : List En := if Ld.may L e h then L.set e.toNat { Ld.at L e with h := h } else L
theorem move_any {B : Nat} {w : World} {p : Nat} {v : Value} {L : List En} (h : LG B w p v L) (e hm : Int) :
    Calls Try.prog 44 #[.pointer (some ⟨p, 0, none⟩), .int .i64 e, .int .i64 hm] w fun r w' => r = .returned (.bool (Ld.may L e hm)) ∧ LG B w' p v (Ld.move L e hm) ∧ LC w w' p v v := by
  have HH := hide (has_any h e)
  have HI := hide (isHome_any hm)
  have hp := h.plt
  have HL := hide h
  unfold Ld.move
  rcases Ld.cs L e with ⟨k, x, rfl, hx, hk, h1, h2⟩ | ⟨h1, h2, -⟩
  · rw [h1] at HH
    by_cases h3 : -1 ≤ hm
    · rw [decide_eq_true h3] at HI
      obtain ⟨g, c, rfl, hgp, c1, c2, c3, c4, hf⟩ := h.at hx
      have hc := h.c
      have HL := hide h
      have HD := hide (dropped_any x)
      have HX := hide hx
      have k0 : (0 : Int) ≤ (k : Int) := by omega
      have k1 : (k : Int) < (L.length : Int) := by omega
      have hf2 := hf (k * 4 + 2)
      have hg := World.block_lt_of_cell? _ _ c1
      clear hf h hx
      by_cases h4 : x.h = -2
      · have e1 : Ld.may L (k : Int) hm = false := by unfold Ld.may; rw [h2, h4]; simp
        rw [e1]
        rw [show (x.h == -2) = true by rw [h4]; rfl] at HD
        clear h4
        go_enter Try.func44, Try.ntmps44
        go_wp2_with fail
        refine HH.out.mono ?_
        rintro e w1 ⟨rfl, rfl⟩
        go_wp2_with fail
        refine (HI.out _).mono ?_
        rintro e w2 ⟨rfl, rfl⟩
        go_wp2_with fail
        refine (HD.out _).mono ?_
        rintro e w3 ⟨rfl, hb⟩
        go_wp2
        go_ret
        exact ⟨rfl, HL.out.keep hb, LC.of_below hb _ _⟩
      · have e1 : Ld.may L (k : Int) hm = true := by unfold Ld.may; rw [h1, h2, decide_eq_true h3, beq_eq_false_iff_ne.2 h4]; rfl
        rw [e1, h2]
        rw [beq_eq_false_iff_ne.2 h4] at HD
        go_enter Try.func44, Try.ntmps44
        go_wp2_with fail
        refine HH.out.mono ?_
        rintro e w1 ⟨rfl, rfl⟩
        go_wp2_with fail
        refine (HI.out _).mono ?_
        rintro e w2 ⟨rfl, rfl⟩
        go_wp2_with fail
        refine (HD.out _).mono ?_
        rintro e w3 ⟨rfl, hb⟩
        have HB := hide hb
        have HL3 := hide (HL.out.keep hb)
        have hc := bsome hb hc
        have c3 := bsome hb c3
        have hf2 : w3.frozen? ⟨g, k * 4 + 2, none⟩ = false := (hb.frozen (p := ⟨g, k * 4 + 2, none⟩) hg).trans hf2
        clear hb
        go_wp2
        go_ret
        exact ⟨rfl, HL3.out.seth HX.out hm, ⟨(Kx.of_below HB.out).set (p := ⟨g, k * 4 + 2, none⟩) (.inr (fun e => e.2 rfl)) _, .inl rfl⟩⟩
    · have e1 : Ld.may L (k : Int) hm = false := by unfold Ld.may; rw [decide_eq_false h3]; simp
      rw [e1]
      rw [decide_eq_false h3] at HI
      clear h3
      go_enter Try.func44, Try.ntmps44
      go_wp2_with fail
      refine HH.out.mono ?_
      rintro e w1 ⟨rfl, rfl⟩
      go_wp2_with fail
      refine (HI.out _).mono ?_
      rintro e w2 ⟨rfl, rfl⟩
      go_wp2
      go_ret
      exact ⟨rfl, HL.out, LC.of_below (Below.refl _ _) _ _⟩
  · have e1 : Ld.may L e hm = false := by unfold Ld.may; rw [h1]; rfl
    rw [e1]
    rw [h1] at HH
    go_enter Try.func44, Try.ntmps44
    go_wp2_with fail
    refine HH.out.mono ?_
    rintro e w1 ⟨rfl, rfl⟩
    go_wp2
    go_ret
    exact ⟨rfl, HL.out, LC.of_below (Below.refl _ _) _ _⟩
def Ld.gone (L : List En) (e : Int) : List En := if Ld.has L e then L.set e.toNat { Ld.at L e with h := -2, d := (Ld.at L e).d + 1 } else L
theorem gone_any {B : Nat} {w : World} {p : Nat} {v : Value} {L : List En} (h : LG B w p v L) (e : Int) (hd : ∀ x ∈ L, 0 ≤ x.d ∧ x.d ≤ 1000000) :
    Calls Try.prog 58 #[.pointer (some ⟨p, 0, none⟩), .int .i64 e] w fun r w' => r = .returned (.bool (Ld.has L e && !((Ld.at L e).h == -2))) ∧ LG B w' p v (Ld.gone L e) ∧ LC w w' p v v := by
  have HH := hide (has_any h e)
  have hp := h.plt
  have HL := hide h
  unfold Ld.gone
  rcases Ld.cs L e with ⟨k, x, rfl, hx, hk, h1, h2⟩ | ⟨h1, h2, -⟩
  · rw [h1] at HH
    rw [h1, h2]
    obtain ⟨g, c, rfl, hgp, c1, c2, c3, c4, hf⟩ := h.at hx
    have hc := h.c
    have HL := hide h
    have HD := hide (dropped_any x)
    have HX := hide hx
    obtain ⟨hd0, hd1⟩ := hd x (List.mem_of_getElem? hx)
    have k0 : (0 : Int) ≤ (k : Int) := by omega
    have k1 : (k : Int) < (L.length : Int) := by omega
    have hf2 := hf (k * 4 + 2)
    have hf3 := hf (k * 4 + 3)
    have hg := World.block_lt_of_cell? _ _ c1
    clear hf h hx hd
    generalize (x.h == -2) = db at *
    go_enter Try.func58, Try.ntmps58
    go_wp2_with fail
    refine HH.out.mono ?_
    rintro e w1 ⟨rfl, rfl⟩
    go_wp2_with fail
    refine (HD.out _).mono ?_
    rintro e w3 ⟨rfl, hb⟩
    have HB := hide hb
    have HL3 := hide (HL.out.keep hb)
    have hc := bsome hb hc
    have c3 := bsome hb c3
    have c4 := bsome hb c4
    have hf2 : w3.frozen? ⟨g, k * 4 + 2, none⟩ = false := (hb.frozen (p := ⟨g, k * 4 + 2, none⟩) hg).trans hf2
    have hf3 : w3.frozen? ⟨g, k * 4 + 3, none⟩ = false := (hb.frozen (p := ⟨g, k * 4 + 3, none⟩) hg).trans hf3
    clear hb
    go_wp2
    go_ret
    have hkl : k < L.length := by omega
    have HF := (HL3.out.seth HX.out (-2))
    have HF2 := LG.setd (k := k) (x := { x with h := -2 }) (L := L.set k { x with h := -2 }) (by rw [List.length_set]; exact HF) (List.getElem?_set_self hkl) (x.d + 1)
    rw [List.set_set, List.length_set] at HF2
    exact ⟨rfl, HF2, ⟨((Kx.of_below HB.out).set (p := ⟨g, k * 4 + 2, none⟩) (.inr (fun e => e.2 rfl)) _).set (p := ⟨g, k * 4 + 3, none⟩) (.inr (fun e => e.2 rfl)) _, .inl rfl⟩⟩
  · rw [h1] at HH
    rw [h1]
    go_enter Try.func58, Try.ntmps58
    go_wp2_with fail
    refine HH.out.mono ?_
    rintro e w1 ⟨rfl, rfl⟩
    go_wp2
    go_ret
    exact ⟨rfl, HL.out, LC.of_below (Below.refl _ _) _ _⟩
end Go.Proofs.Ytbepaimbbclejaa
