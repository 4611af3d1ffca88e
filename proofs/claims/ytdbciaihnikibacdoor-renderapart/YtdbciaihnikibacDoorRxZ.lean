import Derived.Test.YtdbciaihnikibacDoorRxW
import Derived.Test.YtdbciaihnikibacDoorRxX
import Derived.Test.YtdbciaihnikibacDoorRxY
/- The text of an operation: the document's own. -/
namespace Go.Proofs.YtdbciaihnikibacDoor
open Go.RowKit
end Go.Proofs.YtdbciaihnikibacDoor


/- The text of an expression: the document's own, whole. -/
namespace Go.Proofs.YtdbciaihnikibacDoor
open Go.RowKit

theorem Rn.prt_two (n : Nat) (op z : Int) (nm : List UInt8) (d1 d2 : Sx.Tr) : Rn.prt (n + 1) (Sx.tE op nm z [d1, d2]) = 1 + (Rn.prt n d1 + Rn.prt n d2) := by
  show 1 + Sx.wE (n + 1) [d1, d2] = _
  rw [Rn.wE_prt]
  rfl
theorem Rn.prt_one (n : Nat) (op z : Int) (nm : List UInt8) (d1 : Sx.Tr) : Rn.prt (n + 1) (Sx.tE op nm z [d1]) = 1 + Rn.prt n d1 := by
  show 1 + Sx.wE (n + 1) [d1] = _
  rw [Rn.wE_prt]
  rfl
end Go.Proofs.YtdbciaihnikibacDoor


/- Texts of statements: what the document's own reckoning is held against. -/
namespace Go.Proofs.YtdbciaihnikibacDoor
open Go.RowKit

theorem Rn.blt_small {n k : Nat} {w : World} {P : Nat → Prop} {l : List Sx.Tr} {v : Value} (h : SL w P n l v) (ho : Rn.okB n l) (hk : k + n ≤ 1500000) (hw : Sx.wS n l ≤ 1000000) : (Rn.blt n k l).length ≤ 5000000000000 := by
  have h1 := Rn.blt_len n w P l v k 4600000 h ho (by omega)
  have h2 : Sx.wS n l * 4600000 ≤ 1000000 * 4600000 := Nat.mul_le_mul_right _ hw
  omega
/-- Expressions with commas between, and a blank ahead where it is no spawn. -/
def Rn.el (sp : Bool) (l : List (List UInt8)) : List UInt8 := (if sp || l.isEmpty then [] else [32]) ++ Rn.com l
theorem Rn.el_take {sp : Bool} {l : List (List UInt8)} {i : Nat} {s : List UInt8} (h : l[i]? = some s) : Rn.el sp (l.take (i + 1)) = Rn.el sp (l.take i) ++ ((if i = 0 then [] else [44]) ++ (if i = 0 ∧ sp = true then [] else [32]) ++ s) := by
  have hi : i < l.length := (List.getElem?_eq_some_iff.1 h).1
  unfold Rn.el
  rw [Rn.com_take h]
  have e1 : (l.take (i + 1)).isEmpty = false := by cases l with
    | nil => simp at hi
    | cons a r => rfl
  rw [e1]
  by_cases h0 : i = 0
  · subst h0
    cases sp <;> simp [Rn.com]
  · have e2 : (l.take i).isEmpty = false := by cases l with
      | nil => simp at hi
      | cons a r => cases i with
        | zero => exact absurd rfl h0
        | succ i => rfl
    rw [e2]
    cases sp <;> simp [h0]
theorem Rn.el_len (sp : Bool) (l : List (List UInt8)) : (Rn.el sp l).length ≤ (Rn.com l).length + 1 := by
  unfold Rn.el
  rw [List.length_append]
  split <;> simp
  omega
theorem Rn.com_few {n : Nat} {D : Int} {A B T : List UInt8} {N : Int} {E body els : List Sx.Tr} (h : Rn.Okf n D A B T N E body els) (i : Nat) : (Rn.com ((E.map (Rn.xt n 0)).take i)).length ≤ 3700 := by
  refine Nat.le_trans (Rn.com_take_le _ i) ?_
  have := Rn.com_len (c := 600) (E.map (Rn.xt n 0)) (by
    intro s hs
    obtain ⟨d, hd, rfl⟩ := List.mem_map.1 hs
    obtain ⟨i, hi⟩ := List.getElem?_of_mem hd
    have h1 := Rn.xt_len n 0 d (h.xs i d hi)
    have h2 := h.prt i d hi
    omega)
  rw [List.length_map] at this
  have h6 := h.few
  have : E.length * (600 + 2) ≤ 6 * 602 := Nat.mul_le_mul_right 602 h6
  omega
theorem Rn.isN_ne {l : List UInt8} (h : Tk.isN l = true) : ((bs l).toList == []) = false := by
  rw [bsl]
  cases l with
  | nil => cases h
  | cons a r => rfl
end Go.Proofs.YtdbciaihnikibacDoor
