/- Plain mathematics: where a fault is put in among those in order. -/
import Derived.Test.YtmenmlkclggjjaaDoorPlainOrder
namespace Go.Proofs.YtmenmlkclggjjaaDoor
namespace Pl

theorem ins_same (x : Int × Int) : ∀ (O : List (Int × Int)) (p : Nat), (∀ j, j < p → flt (O[j]?.getD (0, 0)) x = true) → p < O.length → O[p]?.getD (0, 0) = x → ins x O = O
  | [], p, _, h, _ => by simp at h
  | y :: r, 0, _, _, he => by
    have e : y = x := by simpa using he
    subst e
    simp only [ins, flt_irrefl]
    simp
  | y :: r, p + 1, hlo, h, he => by
    have h0 : flt y x = true := by simpa using hlo 0 (by omega)
    have hr := ins_same x r p (fun j hj => by simpa using hlo (j + 1) (by omega)) (by simpa using h) (by simpa using he)
    simp only [ins, h0, if_true, hr]

theorem ins_new (x : Int × Int) : ∀ (O : List (Int × Int)) (p : Nat), (∀ j, j < p → flt (O[j]?.getD (0, 0)) x = true) → p ≤ O.length → (p < O.length → flt (O[p]?.getD (0, 0)) x = false ∧ O[p]?.getD (0, 0) ≠ x) → ins x O = O.take p ++ x :: O.drop p
  | [], p, _, _, _ => by simp [ins]
  | y :: r, 0, _, _, he => by
    obtain ⟨h1, h2⟩ := he (by simp)
    have h1' : flt y x = false := by simpa using h1
    have h2' : y ≠ x := by simpa using h2
    simp [ins, h1', h2']
  | y :: r, p + 1, hlo, h, he => by
    have h0 : flt y x = true := by simpa using hlo 0 (by omega)
    have hr := ins_new x r p (fun j hj => by simpa using hlo (j + 1) (by omega)) (by simpa using h) (fun hp => by simpa using he (by simpa using hp))
    simp only [ins, h0, if_true, hr, List.take_succ_cons, List.drop_succ_cons, List.cons_append]

theorem ordTo_zero (l : List (Int × Int)) (k : Nat) (h : (l[k]?.getD (0, 0)).1 = 0) : ordTo l (k + 1) = ordTo l k := by simp [ordTo, h]
theorem ordTo_ins (l : List (Int × Int)) (k : Nat) (h : (l[k]?.getD (0, 0)).1 ≠ 0) : ordTo l (k + 1) = ins (l[k]?.getD (0, 0)) (ordTo l k) := by simp [ordTo, h]

/-- A gap at place j, holding z. -/
def gap (O : List (Int × Int)) (j : Nat) (z : Int × Int) : List (Int × Int) := O.take j ++ z :: O.drop j
theorem gap_len (O : List (Int × Int)) (j : Nat) (z : Int × Int) (h : j ≤ O.length) : (gap O j z).length = O.length + 1 := by
  simp [gap]; omega
theorem gap_end (O : List (Int × Int)) (z : Int × Int) : gap O O.length z = O ++ [z] := by simp [gap]
theorem gap_set (O : List (Int × Int)) (j : Nat) (z x : Int × Int) (h : j ≤ O.length) : (gap O j z).set j x = gap O j x := by
  have hl : (O.take j).length = j := by simp; omega
  unfold gap
  rw [List.set_append_right _ _ (by omega), hl]
  simp
theorem gap_low (O : List (Int × Int)) (j i : Nat) (z : Int × Int) (h : j ≤ O.length) (hi : i < j) : (gap O j z)[i]?.getD (0, 0) = O[i]?.getD (0, 0) := by
  have hl : (O.take j).length = j := by simp; omega
  unfold gap
  rw [List.getElem?_append_left (by omega), List.getElem?_take, if_pos hi]
theorem gap_down (O : List (Int × Int)) (j : Nat) (h : j + 1 ≤ O.length) : gap O (j + 1) (O[j]?.getD (0, 0)) = gap O j (O[j]?.getD (0, 0)) := by
  unfold gap
  have hj : j < O.length := by omega
  rw [List.take_add_one, List.getElem?_eq_getElem hj, List.append_assoc, List.drop_eq_getElem_cons hj]
  simp
end Pl
end Go.Proofs.YtmenmlkclggjjaaDoor
