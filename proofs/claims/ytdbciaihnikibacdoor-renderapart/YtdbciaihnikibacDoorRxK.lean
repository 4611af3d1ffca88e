import Derived.Test.YtdbciaihnikibacDoorRxG
import Derived.Lib.ItoaMem
import Derived.BigQuiet
import Derived.Deep.RegionHeldLaw
/- The document's own reckoning: the form of a statement. -/
namespace Go.Proofs.YtdbciaihnikibacDoor
open Go.RowKit

theorem Rn.z_of (h : Bool) (l : UInt8) (hl : l ≠ 45) (b : Bool) : ([if h then l else 45] != [45] || b) = (h || b) := by
  cases h with
  | true => have : ([l] != [45]) = true := by simpa using hl
            simp only [if_true, this, Bool.true_or]
  | false => rfl
theorem dec_ne (u : Nat) : Lib.decDigits u ≠ [] := by
  rw [Lib.decDigits]
  split
  · simp
  · simp
theorem itoa_digit (n c : Nat) (hc : c < 10) : (Lib.itoa n == [UInt8.ofNat (48 + c)]) = (n == c) := by
  rw [Lib.itoa_nonneg]
  by_cases h : n < 10
  · rw [Lib.decDigits_one h]
    by_cases e : n = c
    · subst e; simp
    · have e1 : (n == c) = false := by simpa using e
      rw [e1]
      apply beq_eq_false_iff_ne.2
      intro hh
      have := congrArg (fun l : List UInt8 => (l.headD 0).toNat) hh
      simp [UInt8.toNat_ofNat'] at this
      omega
  · have e1 : (n == c) = false := by simp; omega
    rw [e1, Lib.decDigits, dif_neg h]
    apply beq_eq_false_iff_ne.2
    intro hh
    have := congrArg List.length hh
    simp at this
    exact dec_ne _ this

end Go.Proofs.YtdbciaihnikibacDoor


/- The form of a statement, the document's own reckoning: a part. -/
namespace Go.Proofs.YtdbciaihnikibacDoor
open Go.RowKit
end Go.Proofs.YtdbciaihnikibacDoor


/- The form of a statement, the document's own reckoning: a part. -/
namespace Go.Proofs.YtdbciaihnikibacDoor
open Go.RowKit
end Go.Proofs.YtdbciaihnikibacDoor


/- The form of a statement, the document's own reckoning: a part. -/
namespace Go.Proofs.YtdbciaihnikibacDoor
open Go.RowKit
end Go.Proofs.YtdbciaihnikibacDoor
