import Derived.Test.YtdbciaihnikibacDoorRxV
import Derived.Test.YtdbciaihnikibacDoorRenBm
import Derived.Deep.RegionHeldLaw
/- The text of a type: the document's own. -/
namespace Go.Proofs.YtdbciaihnikibacDoor
open Go.RowKit

theorem bs_append (a b : List UInt8) : bs a ++ bs b = bs (a ++ b) := by
  apply ByteArray.ext
  show (bs a ++ bs b).data = _
  rw [ByteArray.data_append]
  simp [bs]
/-- A type is sides, then the letter i. -/
theorem Rn.isT_cut {t : List UInt8} {ends : Int} (h : Rn.isT t ends = true) : ∃ r, t = r ++ [105] ∧ ∀ b ∈ r, b = 115 ∨ b = 114 := by
  rcases List.eq_nil_or_concat t with rfl | ⟨r, c, rfl⟩
  · cases h
  · rw [List.concat_eq_append] at h ⊢
    rw [Rn.isT_cat] at h
    simp only [Bool.and_eq_true, List.all_eq_true, Bool.or_eq_true, beq_iff_eq] at h
    obtain ⟨⟨h1, rfl⟩, _⟩ := h
    exact ⟨r, rfl, h1⟩
end Go.Proofs.YtdbciaihnikibacDoor


/- The text of an expression: the document's own. -/
namespace Go.Proofs.YtdbciaihnikibacDoor
open Go.RowKit

/-- How tightly it must bind, in the document's numbers. -/
def Rn.mR (m : Nat) : Nat := if m = 0 then 0 else m + 1
def Rn.bi (op : Int) : Nat := if op = 1 ∨ op = 2 then 9 else if op = 3 then 4 else if op = 4 ∨ op = 5 then 2 else if op = 6 then 3 else 1
theorem Rn.bi_must {op : Int} {must : Nat} (h1 : 1 ≤ op) (h2 : op ≤ 8) (hm : must ≤ 3) : decide ((Rn.bi op : Int) < (Rn.mR must : Int)) = decide (Rn.holds op < must) := by
  have h : op = 1 ∨ op = 2 ∨ op = 3 ∨ op = 4 ∨ op = 5 ∨ op = 6 ∨ op = 7 ∨ op = 8 := by omega
  have hm' : must = 0 ∨ must = 1 ∨ must = 2 ∨ must = 3 := by omega
  rcases h with rfl | rfl | rfl | rfl | rfl | rfl | rfl | rfl <;> rcases hm' with rfl | rfl | rfl | rfl <;> rfl
theorem wr_0 : IntKind.i64.wrap 0 = 0 := by decide
theorem wr_1 : IntKind.i64.wrap 1 = 1 := by decide
theorem wr_2 : IntKind.i64.wrap 2 = 2 := by decide
theorem wr_3 : IntKind.i64.wrap 3 = 3 := by decide
theorem wr_4 : IntKind.i64.wrap 4 = 4 := by decide
theorem Rn.brk_false (x : List UInt8) : Rn.brk false x = x := rfl
theorem Rn.brk_true (x : List UInt8) : Rn.brk true x = [40] ++ x ++ [41] := rfl

end Go.Proofs.YtdbciaihnikibacDoor
