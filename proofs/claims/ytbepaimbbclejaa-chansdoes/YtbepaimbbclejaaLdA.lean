import Derived.Test.YtbepaimbbclejaaRnkA
import Derived.Laws.OwnMore
import Derived.ChangeKeysEq
import Derived.Lib.SliceRun
/- Ledgers: ends in memory. -/
namespace Go.Proofs.Ytbepaimbbclejaa
open Go.RowKit

/-- An end. -/
structure En where
  c : Int
  s : Bool
  h : Int
  d : Int
def En.cl (x : En) : List Value := [.int .i64 x.c, .bool x.s, .int .i64 x.h, .int .i64 x.d]
def En.val (x : En) : Value := .agg #[.int .i64 x.c, .bool x.s, .int .i64 x.h, .int .i64 x.d]
def ecl (L : List En) : List Value := L.flatMap En.cl
theorem ecl_cons (x : En) (L : List En) : ecl (x :: L) = .int .i64 x.c :: .bool x.s :: .int .i64 x.h :: .int .i64 x.d :: ecl L := rfl
theorem ecl_len (L : List En) : (ecl L).length = L.length * 4 := by
  induction L with
  | nil => rfl
  | cons x L ih => rw [ecl_cons]; simp only [List.length_cons, ih]; omega
theorem ecl_app (A B : List En) : ecl (A ++ B) = ecl A ++ ecl B := by simp [ecl]
theorem ecl_one (L : List En) : ∀ u ∈ ecl L, u.oneCell' = true := by
  intro u hu
  simp only [ecl, List.mem_flatMap, En.cl] at hu
  obtain ⟨x, -, hx⟩ := hu
  simp at hx
  rcases hx with rfl | rfl | rfl | rfl <;> rfl
theorem ecl_at (L : List En) : ∀ (k : Nat) (x : En), L[k]? = some x → (ecl L)[k * 4]? = some (.int .i64 x.c) ∧ (ecl L)[k * 4 + 1]? = some (.bool x.s) ∧ (ecl L)[k * 4 + 2]? = some (.int .i64 x.h) ∧ (ecl L)[k * 4 + 3]? = some (.int .i64 x.d) := by
  induction L with
  | nil => intro k x h; simp at h
  | cons y L ih =>
    intro k x h
    cases k with
    | zero => simp at h; subst h; rw [ecl_cons]; simp
    | succ k =>
      obtain ⟨h1, h2, h3, h4⟩ := ih k x (by simpa using h)
      rw [ecl_cons, show (k + 1) * 4 = k * 4 + 4 by omega]
      exact ⟨h1, h2, h3, h4⟩
theorem ecl_seth (L : List En) : ∀ (k : Nat) (x : En) (y : Int), L[k]? = some x → (ecl L).set (k * 4 + 2) (.int .i64 y) = ecl (L.set k { x with h := y }) := by
  induction L with
  | nil => intro k x y h; simp at h
  | cons z L ih =>
    intro k x y h
    cases k with
    | zero => simp at h; subst h; rfl
    | succ k =>
      have := ih k x y (by simpa using h)
      rw [ecl_cons, show (k + 1) * 4 + 2 = (k * 4 + 2) + 4 by omega]
      show _ :: _ :: _ :: _ :: _ = ecl (z :: L.set k _)
      rw [ecl_cons, ← this]
theorem ecl_setd (L : List En) : ∀ (k : Nat) (x : En) (y : Int), L[k]? = some x → (ecl L).set (k * 4 + 3) (.int .i64 y) = ecl (L.set k { x with d := y }) := by
  induction L with
  | nil => intro k x y h; simp at h
  | cons z L ih =>
    intro k x y h
    cases k with
    | zero => simp at h; subst h; rfl
    | succ k =>
      have := ih k x y (by simpa using h)
      rw [ecl_cons, show (k + 1) * 4 + 3 = (k * 4 + 3) + 4 by omega]
      show _ :: _ :: _ :: _ :: _ = ecl (z :: L.set k _)
      rw [ecl_cons, ← this]
theorem En.neq_same (x : En) (w : World) : Sem.run Try.prog (binOp .neq 48 (.agg #[.int .i64 x.c, .bool x.s, .int .i64 x.h, .int .i64 x.d]) (.agg #[.int .i64 x.c, .bool x.s, .int .i64 x.h, .int .i64 x.d])) w = .ok (.bool false) w := by
  have u3 := Try.underlying3
  have a3 := Try.isAgg3
  have z3 := Try.sizeOf3
  have u4 := Try.underlying4
  have a4 := Try.isAgg4
  have z4 := Try.sizeOf4
  rw [run_neq_struct, show (10000 : Nat) = 9999 + 1 from rfl, run_equalIn_agg w 9999 48 _ _ (by exact Try.underlying48) (by kernel_rfl)]
  simp only [Program.fieldsOf, Try.underlying48]
  go_simp

/-- A ledger at p: its ends lie in a row of its own; all from B on. -/
structure LG (B : Nat) (w : World) (p : Nat) (v : Value) (L : List En) : Prop where
  c : w.cell? ⟨p, 0, none⟩ = some v
  t : ∀ k, w.frozen? ⟨p, k, none⟩ = false
  lo : B ≤ p
  o : w.ownsRow B 48 4 v L.length (ecl L)
  ne : v.ownBlock ≠ some p
section
variable {B : Nat} {w w' : World} {p : Nat} {v : Value} {L : List En}
theorem own_keepe {t z B : Nat} {w w' : World} {v : Value} {n : Nat} {xs : List Value} (h : w.ownsRow B t z v n xs) (hk : ∀ g, v.ownBlock = some g → w'.heap[g]? = w.heap[g]?) : w'.ownsRow B t z v n xs := by
  refine ⟨h.1, ?_⟩
  rcases h.2 with h0 | ⟨g, cap, cur, hv, hb, hg, rest⟩
  · exact .inl h0
  · exact .inr ⟨g, cap, cur, hv, hb, (hk g (by rw [hv]; rfl)).trans hg, rest⟩
theorem LG.plt (h : LG B w p v L) : p < w.heap.size := World.block_lt_of_cell? _ _ h.c
theorem LG.keepX (h : LG B w p v L) {X : Nat → Prop} (hk : Kx X w w') (hp : X p) (hv : ∀ g, v.ownBlock = some g → X g) : LG B w' p v L :=
  ⟨hk.cell h.c hp, fun k => (hk.frozen (p := ⟨p, k, none⟩) h.plt hp).trans (h.t k), h.lo, own_keepe h.o (fun g hg => hk.block g (h.o.lt g hg).2 (hv g hg)), h.ne⟩
theorem LG.keep (h : LG B w p v L) (hb : Below w.heap.size w w') : LG B w' p v L := h.keepX (X := fun _ => True) (Kx.of_below hb) trivial (fun _ _ => trivial)
theorem LG.form (h : LG B w p v L) : ∃ a c, v = .slice a L.length c := by
  rcases h.o.2 with ⟨h1, h0⟩ | ⟨g, cap, cur, hv, hg, rest⟩
  · exact ⟨none, 0, by rw [h1, h0]⟩
  · exact ⟨_, cap, hv⟩
/-- Where its ends lie. -/
theorem LG.at (h : LG B w p v L) {k : Nat} {x : En} (hx : L[k]? = some x) : ∃ g c, v = .slice (some ⟨g, 0, none⟩) L.length c ∧ g ≠ p ∧ w.cell? ⟨g, k * 4, none⟩ = some (.int .i64 x.c) ∧ w.cell? ⟨g, k * 4 + 1, none⟩ = some (.bool x.s) ∧ w.cell? ⟨g, k * 4 + 2, none⟩ = some (.int .i64 x.h) ∧ w.cell? ⟨g, k * 4 + 3, none⟩ = some (.int .i64 x.d) ∧ ∀ j, w.frozen? ⟨g, j, none⟩ = false := by
  have hk := (List.getElem?_eq_some_iff.1 hx).1
  obtain ⟨g, cap, hv, hg, -⟩ := h.o.form (by omega)
  have ho := h.o
  rw [hv] at ho
  obtain ⟨c1, c2, c3, c4⟩ := ecl_at L k x hx
  refine ⟨g, cap, hv, fun e => h.ne (by rw [hv, ← e]; rfl), ?_, ?_, ?_, ?_, fun j => ho.frozenAt j⟩
  · rw [ho.cellAt _ (by omega)]; exact c1
  · rw [ho.cellAt _ (by omega)]; exact c2
  · rw [ho.cellAt _ (by omega)]; exact c3
  · rw [ho.cellAt _ (by omega)]; exact c4
/-- An end's home is another one. -/
theorem LG.seth {g c k : Nat} {x : En} (h : LG B w p (.slice (some ⟨g, 0, none⟩) L.length c) L) (hx : L[k]? = some x) (y : Int) : LG B (w.setCell ⟨g, k * 4 + 2, none⟩ (.int .i64 y)) p (.slice (some ⟨g, 0, none⟩) L.length c) (L.set k { x with h := y }) := by
  have hne : g ≠ p := fun e => h.ne (by rw [e]; rfl)
  refine ⟨?_, fun j => by rw [World.frozen?_setCell]; exact h.t j, h.lo, ?_, h.ne⟩
  · rw [World.cell?_setCell_other _ _ _ _ (fun e' => by injection e' with e1; omega)]
    exact h.c
  · have := (h.o.stored (k * 4 + 2) (.int .i64 y)).1
    rw [ecl_seth L k x y hx] at this
    rw [List.length_set]
    exact this
theorem LG.setd {g c k : Nat} {x : En} (h : LG B w p (.slice (some ⟨g, 0, none⟩) L.length c) L) (hx : L[k]? = some x) (y : Int) : LG B (w.setCell ⟨g, k * 4 + 3, none⟩ (.int .i64 y)) p (.slice (some ⟨g, 0, none⟩) L.length c) (L.set k { x with d := y }) := by
  have hne : g ≠ p := fun e => h.ne (by rw [e]; rfl)
  refine ⟨?_, fun j => by rw [World.frozen?_setCell]; exact h.t j, h.lo, ?_, h.ne⟩
  · rw [World.cell?_setCell_other _ _ _ _ (fun e' => by injection e' with e1; omega)]
    exact h.c
  · have := (h.o.stored (k * 4 + 3) (.int .i64 y)).1
    rw [ecl_setd L k x y hx] at this
    rw [List.length_set]
    exact this
/-- One more: another row, and its place set. -/
theorem LG.push (h : LG B w p v L) {w1 : World} {v' : Value} {x : En} (ho : w1.ownsRow B 48 4 v' (L.length + 1) (ecl L ++ x.cl)) (hx : Kx (fun b => some b ≠ v.ownBlock) w w1) (hv : v'.ownBlock = v.ownBlock ∨ ∃ b, v'.ownBlock = some b ∧ w.heap.size ≤ b) : LG B (w1.setCell ⟨p, 0, none⟩ v') p v' (L ++ [x]) := by
  have c1 : w1.cell? ⟨p, 0, none⟩ = some v := hx.cell h.c (fun e => h.ne e.symm)
  have hne : v'.ownBlock ≠ some p := fun e => by
    rcases hv with e1 | ⟨b, e1, hb⟩
    · exact h.ne (by rw [← e1]; exact e)
    · rw [e1] at e
      cases e
      have := h.plt
      omega
  refine ⟨World.cell?_setCell_same _ _ _ c1, fun k => by rw [World.frozen?_setCell]; exact (hx.frozen (p := ⟨p, k, none⟩) h.plt (fun e => h.ne e.symm)).trans (h.t k), h.lo, ?_, hne⟩
  rw [ecl_app, List.length_append, List.length_singleton, show ecl [x] = x.cl from by simp [ecl]]
  exact own_keepe ho (fun g hg => Below.heap_setCell _ _ _ _ (fun e => hne (by rw [hg]; congr 1)))
end
/-- Is there such an end? -/
def Ld.has (L : List En) (e : Int) : Bool := decide (0 ≤ e) && decide (e < (L.length : Int))
def Ld.z : En := ⟨0, false, 0, 0⟩
def Ld.at (L : List En) (e : Int) : En := if 0 ≤ e then L[e.toNat]?.getD Ld.z else Ld.z
theorem Ld.cs (L : List En) (e : Int) : (∃ (k : Nat) (x : En), e = (k : Int) ∧ L[k]? = some x ∧ k < L.length ∧ Ld.has L e = true ∧ Ld.at L e = x) ∨ (Ld.has L e = false ∧ Ld.at L e = Ld.z ∧ ¬ (0 ≤ e ∧ e < (L.length : Int))) := by
  by_cases h : 0 ≤ e ∧ e < (L.length : Int)
  · left
    have hk : e.toNat < L.length := by omega
    refine ⟨e.toNat, L[e.toNat], by omega, List.getElem?_eq_getElem hk, hk, by simp [Ld.has, h.1, h.2], ?_⟩
    unfold Ld.at
    rw [if_pos h.1, List.getElem?_eq_getElem hk]
    rfl
  · right
    refine ⟨?_, ?_, h⟩
    · unfold Ld.has
      rw [Bool.and_eq_false_iff, decide_eq_false_iff_not, decide_eq_false_iff_not]
      omega
    · unfold Ld.at
      split
      · rw [List.getElem?_eq_none (by omega)]; rfl
      · rfl
/-- What is wrong, if a task does that with an end. -/
def Ld.wh (y : En) (t k : Int) : Int := if y.h = -2 then (if k = 1 then 2 else if k = 2 then 3 else 6) else if y.h = t then 0 else if k = 2 then 4 else 5
def Ld.use (L : List En) (e t k : Int) : Int := if Ld.has L e then Ld.wh (Ld.at L e) t k else 1
/-- The ends that have this home, from the number i on. -/
def Ld.of (h : Int) : Nat → List En → List Int
  | _, [] => []
  | i, x :: L => if x.h = h then (i : Int) :: Ld.of h (i + 1) L else Ld.of h (i + 1) L
end Go.Proofs.Ytbepaimbbclejaa
