/- The law TokenScans: it answers true at every text. -/
import Derived.Test.YtlipncdfmloijaaDoorLawScansW
import Derived.Test.YtlipncdfmloijaaDoorTokV
namespace Go.Proofs.YtlipncdfmloijaaDoor
open Go.RowKit

/-- What a call of the document's own Scan leaves. -/
theorem rscan_row (s : ByteArray) (w : World) (hs : s.size ≤ 20000) :
    Calls Tryd.prog 26 #[.string s] w fun e w' => ∃ a c, e = .returned (.tuple #[.slice a (Tk.scan s.data.toList).1.length c, .agg #[.int .i64 (Tk.scan s.data.toList).2.1, .int .i64 (Tk.scan s.data.toList).2.2]]) ∧ Hid (RowT w' a (Tk.scan s.data.toList).1) ∧ Hid (Below w.heap.size w w') := by
  by_cases hb : 12000 < s.size
  · refine (rscan_huge s w (by unfold maxLen; omega) hb).mono ?_
    rintro e w' ⟨rfl, hb2⟩
    rw [scan_big _ (by rw [← Lib.size_eq]; exact hb)]
    exact ⟨none, 0, rfl, (fun h => by cases h), hb2⟩
  · refine (rscan_in s w (by omega)).mono ?_
    rintro e w' ⟨v, rfl, hown, hb⟩
    obtain ⟨a, c, rfl, hr⟩ := rowT_of_own hown
    exact ⟨a, c, rfl, hr, hb⟩

theorem scans_any (s : ByteArray) (w : World) (hw : WTab w) (hs : s.size ≤ maxLen) :
    Calls Tryd.prog 7 #[.string s] w fun e w' => e = .returned (.bool true) ∧ Below w.heap.size w w' := by
  by_cases hbig : 20000 < s.size
  · exact scans_huge s w hw hs hbig
  · exact scans_in s w hw (by omega) (hide (fun w => rscan_row s w (by omega)))
end Go.Proofs.YtlipncdfmloijaaDoor
