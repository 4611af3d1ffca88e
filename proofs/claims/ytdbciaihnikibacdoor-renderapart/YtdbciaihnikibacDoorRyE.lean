import Derived.Test.YtdbciaihnikibacDoorRyA
import Derived.Test.YtdbciaihnikibacDoorRyB
import Derived.Test.YtdbciaihnikibacDoorRyC
import Derived.Test.YtdbciaihnikibacDoorRyD
import Derived.BigQuiet
/- Texts of statements and blocks: the document's own, whole. -/
namespace Go.Proofs.YtdbciaihnikibacDoor
open Go.RowKit
theorem Rn.tabs_succ (k : Nat) : bs (Rn.tabs k) ++ ⟨#[9]⟩ = bs (Rn.tabs (k + 1)) := by
  rw [show (⟨#[9]⟩ : ByteArray) = bs [9] from rfl, bs_append, Rn.tabs, Rn.tabs, List.replicate_succ']
end Go.Proofs.YtdbciaihnikibacDoor


/- The text of a program: the document's own. -/
namespace Go.Proofs.YtdbciaihnikibacDoor
open Go.RowKit

theorem Rn.hf_par {g : Sx.Tr} (h : Rn.hf g = 0) : Tk.isN (Sx.gN g) = true ∧ ∀ p ∈ Sx.gP g, Tk.isN (Sx.pH p).1 = true ∧ Rn.isT (Sx.pH p).2 3 = true := by
  unfold Rn.hf at h
  split at h
  · cases h
  rename_i h1
  split at h
  · cases h
  refine ⟨?_, fun p hp => ?_⟩
  · cases hh : Tk.isN (Sx.gN g) with
    | true => rfl
    | false => exact absurd hh h1
  · have h3 := Rn.firstOf_zero h p hp
    split at h3
    · cases h3
    rename_i h4
    split at h3
    · cases h3
    rename_i h5
    refine ⟨?_, ?_⟩
    · cases hh : Tk.isN (Sx.pH p).1 with
      | true => rfl
      | false => exact absurd hh h4
    · cases hh : Rn.isT (Sx.pH p).2 3 with
      | true => rfl
      | false => exact absurd hh h5
theorem Rn.isT_len {t : List UInt8} (h : Rn.isT t 3 = true) : t.length ≤ 4 := by
  unfold Rn.isT at h
  simp only [Bool.and_eq_true, decide_eq_true_eq] at h
  omega
end Go.Proofs.YtdbciaihnikibacDoor


/- What is told of a program: the document's own. -/
namespace Go.Proofs.YtdbciaihnikibacDoor
open Go.RowKit
end Go.Proofs.YtdbciaihnikibacDoor
