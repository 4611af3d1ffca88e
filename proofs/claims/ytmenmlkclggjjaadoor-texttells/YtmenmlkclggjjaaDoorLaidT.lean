/- What the list of TextTells gives: the table of words holds its eighteen words, the table of powers its twenty, and four blocks lie there at least. -/
import Derived.Test.YtmenmlkclggjjaaDoorLaid
import Derived.Test.YtmenmlkclggjjaaDoorTellF
import Derived.Lib.LaidTab
namespace Go.Proofs.YtmenmlkclggjjaaDoor
open Go.ChangeShapes Go.WideShapes Go.ChangeAt Go.WideMaps Go.WideElems Go.RowKit

theorem gBits : Tryd.prog.globalNamed "math/bits.deBruijn64tab" = some 3 := by kernel_rfl
theorem tPow : (Tryd.prog.globals[1]?).map (·.type) = some 96 := by kernel_rfl
theorem cells77 : Tryd.prog.cellsOf 77 = 1 := by kernel_rfl
theorem cells96 : Tryd.prog.cellsOf 96 = 20 := by kernel_rfl
theorem laid_pow : (Rows.laid_internal_strconv_uint64pow10 : DataW Unit) = Lib.tabData .u64 Lib.pow10Tab := by rfl

theorem tabs_of_laid {W : World} (h : laidMetH Tryd.prog Rows.textTellsRow.laid W) : Tabs W := by
  rw [MakeChecks.laidMetH_plain _ _ _ (by kernel_rfl)] at h
  obtain ⟨ps, ⟨_, _, _, _, _, _, _, _, _, _, ⟨g1, t1, cs1, f1, p1, q1, hg1, _, hv1, _, ⟨g2, t2, cs2, f2, p2, q2, hg2, ht2, hv2, hd2, ⟨g0, t0, cs0, f0, p0, q0, hg0, ht0, hv0, hd0, _, _⟩, _⟩, _⟩, _⟩, _, _⟩ := h
  obtain rfl := Option.some.inj (gWords.symm.trans hg0)
  obtain rfl := Option.some.inj (tWords.symm.trans ht0)
  obtain rfl := Option.some.inj (gPow.symm.trans hg2)
  obtain rfl := Option.some.inj (tPow.symm.trans ht2)
  refine ⟨?_, ?_, ?_⟩
  · intro i b hb
    have h1 := cells_of_strs (bs := wordTab) Tryd.underlying57 Tryd.underlying9 cells9 hd0 i b hb
    have h2 := World.var?_cell hg0 hv0 i
    rw [h2]
    simpa using h1
  · have h1 := Lib.cells_of_tab (zs := Lib.pow10Tab) (k := .u64) Tryd.underlying96 Tryd.underlying77 cells77 cells96 (by rw [← laid_pow]; exact hd2)
    unfold Lib.TabIs
    rw [hv2, ← h1]
  · unfold World.var? at hv1
    rw [gBits] at hv1
    simp only [Option.bind_some] at hv1
    rcases Nat.lt_or_ge 3 W.heap.size with h' | h'
    · omega
    · rw [Array.getElem?_eq_none h'] at hv1; cases hv1
end Go.Proofs.YtmenmlkclggjjaaDoor
