import Derived.Test.YtdnlnpdaplonfabDoorRows
import Derived.Test.YtdnlnpdaplonfabDoorTkA
import Derived.ProofKit
import Derived.LaidMore
import Derived.OpenShut
import Derived.Stop.Joined
/- What the rows' list gives: the table of the words holds its nineteen words. -/
namespace Go.Proofs.YtdnlnpdaplonfabDoor
open Go.ChangeShapes Go.WideShapes Go.ChangeAt Go.WideMaps Go.WideElems Go.RowKit

theorem own : ownKnob Tryd.prog.godebug = none := by kernel_rfl
theorem gWords : Tryd.prog.globalNamed "pipewright/token.words" = some 0 := by kernel_rfl
theorem tWords : (Tryd.prog.globals[0]?).map (·.type) = some 77 := by kernel_rfl
theorem cells9 : Tryd.prog.cellsOf 9 = 1 := by kernel_rfl

theorem cells_of_strs {H : Type} {enc : TypeId × Value → H} {P : Program} {w : World} {base : Nat} {sp : Nat → Bool} {held : Bool} {fuel : Nat} {t e : TypeId} {n : Nat} {cs : List Value} {bs : List (List UInt8)} {p : List MemPlace}
    (ht : P.underlying t = some (.array n e)) (he : P.underlying e = some .string) (hce : P.cellsOf e = 1)
    (h : DataW.trod enc P w base sp held fuel t cs = some (.agg (bs.map fun (b : List UInt8) => DataW.lit (.string b)), p)) : ∀ (i : Nat) (b : List UInt8), bs[i]? = some b → cs[i]? = some (Value.string ⟨b.toArray⟩) := by
  intro i b hb
  obtain ⟨xs, m, _, hx, _, hn, hel⟩ := DataW.trod_array ht h
  simp only [Prod.mk.injEq, DataW.agg.injEq] at hx
  have hxs := hx.1
  have hi : i < bs.length := (List.getElem?_eq_some_iff.1 hb).1
  have hl : bs.length = xs.length := by
    have := congrArg List.length hxs
    simpa using this
  have h1 := hel i (by omega)
  rw [hce] at h1
  have hix : i < xs.length := by omega
  rw [List.getElem?_eq_getElem hix] at h1
  obtain ⟨s, hc, hxe, _⟩ := DataW.trod_string he h1
  have h2 : (bs.map fun b => (DataW.lit (.string b) : DataW H))[i]? = (xs.map (·.1))[i]? := by rw [hxs]
  rw [List.getElem?_map, List.getElem?_map, hb, List.getElem?_eq_getElem hix, hxe] at h2
  simp at h2
  have h3 : cs[i]? = some (.string s) := by
    have := congrArg (·[0]?) hc
    simpa [List.getElem?_take, List.getElem?_drop] using this
  rw [h3, h2]

theorem wtab_of_laid {W : World} (h : laidMetH Tryd.prog [("pipewright/token.words", Rows.laid_pipewright_token_words)] W) : WTab W := by
  rw [MakeChecks.laidMetH_plain _ _ _ (by kernel_rfl)] at h
  obtain ⟨ps, ⟨g0, t0, cs0, f0, p0, q0, hg0, ht0, hv0, hd0, _, _⟩, _, _⟩ := h
  obtain rfl := Option.some.inj (gWords.symm.trans hg0)
  obtain rfl := Option.some.inj (tWords.symm.trans ht0)
  have hw : ∀ (i : Nat) b, Tk.words[i]? = some b → W.cell? ⟨0, i, none⟩ = some (.string (bs b)) := by
    intro i b hb
    have h1 := cells_of_strs (bs := Tk.words) Tryd.underlying77 Tryd.underlying9 cells9 hd0 i b hb
    have h2 := World.var?_cell hg0 hv0 i
    rw [h2]
    simpa [bs] using h1
  exact ⟨World.block_lt_of_cell? W ⟨0, 5, none⟩ (hw 5 _ rfl), hw⟩
end Go.Proofs.YtdnlnpdaplonfabDoor
