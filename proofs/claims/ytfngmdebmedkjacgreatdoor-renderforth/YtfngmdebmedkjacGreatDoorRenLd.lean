import Derived.Test.YtfngmdebmedkjacGreatDoorRows
import Derived.Test.YtfngmdebmedkjacGreatDoorRxG
import Derived.ProofKit
import Derived.LaidMore
import Derived.OpenShut
import Derived.Stop.Joined
import Derived.Lib.LaidTab
/- What the card's list gives: the tables that render reads. -/
namespace Go.Proofs.YtfngmdebmedkjacGreatDoor
open Go.ChangeShapes Go.WideShapes Go.ChangeAt Go.WideMaps Go.WideElems Go.RowKit

theorem own : ownKnob Tryz.prog.godebug = none := by kernel_rfl
theorem gWordsIs : Tryz.prog.globalNamed "pipewright/token.words" = some 1 := by kernel_rfl
theorem tWordsIs : (Tryz.prog.globals[1]?).map (·.type) = some 191 := by kernel_rfl
theorem gFormsIs : Tryz.prog.globalNamed "pipewright/render.forms" = some 0 := by kernel_rfl
theorem tFormsIs : (Tryz.prog.globals[0]?).map (·.type) = some 177 := by kernel_rfl
theorem gOperIs : Tryz.prog.globalNamed "pipewright/render.operations" = some 4 := by kernel_rfl
theorem tOperIs : (Tryz.prog.globals[4]?).map (·.type) = some 215 := by kernel_rfl
theorem tPowIs : (Tryz.prog.globals[6]?).map (·.type) = some 227 := by kernel_rfl
theorem gBitsIs : Tryz.prog.globalNamed "math/bits.deBruijn64tab" = some 8 := by kernel_rfl
theorem cells9 : Tryz.prog.cellsOf 9 = 1 := by kernel_rfl
theorem cells3 : Tryz.prog.cellsOf 3 = 1 := by kernel_rfl
theorem cellsOper : Tryz.prog.cellsOf 214 = 5 := by kernel_rfl
theorem cellsUlong : Tryz.prog.cellsOf 217 = 1 := by kernel_rfl
theorem cellsPow : Tryz.prog.cellsOf 227 = 20 := by kernel_rfl
theorem laid_pow : (Rows.laid_internal_strconv_uint64pow10 : DataW Unit) = Lib.tabData .u64 Lib.pow10Tab := by rfl

theorem cells_of_strs {H : Type} {enc : TypeId × Value → H} {P : Program} {w : World} {base : Nat} {sp : Nat → Bool} {held : Bool} {fuel : Nat} {t e : TypeId} {n : Nat} {cs : List Value} {bs : List (List UInt8)} {p : List MemPlace}
    (ht : P.underlying t = some (.array n e)) (he : P.underlying e = some .string) (hce : P.cellsOf e = 1)
    (h : DataW.trod enc P w base sp held fuel t cs = some (.agg (bs.map fun (b : List UInt8) => DataW.lit (.string b)), p)) : ∀ (i : Nat) (b : List UInt8), bs[i]? = some b → cs[i]? = some (Value.string ⟨b.toArray⟩) := by
  intro i b hb
  obtain ⟨xs, m, _, hx, _, hn, hel⟩ := DataW.trod_array ht h
  simp only [Prod.mk.injEq, DataW.agg.injEq] at hx
  have hxs := hx.1
  have hi : i < bs.length := (List.getElem?_eq_some_iff.1 hb).1
  have hl : bs.length = xs.length := by
    have := congrArg List.length hxs
    simpa using this
  have h1 := hel i (by omega)
  rw [hce] at h1
  have hix : i < xs.length := by omega
  rw [List.getElem?_eq_getElem hix] at h1
  obtain ⟨s, hc, hxe, _⟩ := DataW.trod_string he h1
  have h2 : (bs.map fun b => (DataW.lit (.string b) : DataW H))[i]? = (xs.map (·.1))[i]? := by rw [hxs]
  rw [List.getElem?_map, List.getElem?_map, hb, List.getElem?_eq_getElem hix, hxe] at h2
  simp at h2
  have h3 : cs[i]? = some (.string s) := by
    have := congrArg (·[0]?) hc
    simpa [List.getElem?_take, List.getElem?_drop] using this
  rw [h3, h2]
/-- An operation, as the list has it. -/
def Rn.opD {H : Type} (o : Int × List UInt8 × Int × Int × Int) : DataW H := .agg [.lit (.int .i64 o.1), .lit (.string o.2.1), .lit (.int .i64 o.2.2.1), .lit (.int .i64 o.2.2.2.1), .lit (.int .i64 o.2.2.2.2)]
theorem laid_oper : (Rows.laid_pipewright_render_operations : DataW Unit) = .agg (Rn.opers.map Rn.opD) := by rfl
theorem cells_of_opers {W : World} {base : Nat} {sp : Nat → Bool} {held : Bool} {fuel : Nat} {cs : List Value} {p : List MemPlace} {enc : TypeId × Value → Unit}
    (h : DataW.trod enc Tryz.prog W base sp held fuel 215 cs = some (.agg (Rn.opers.map Rn.opD), p)) : ∀ (i : Nat) o, Rn.opers[i]? = some o → cs[i * 5]? = some (.int .i64 o.1) ∧ cs[i * 5 + 1]? = some (.string (bs o.2.1)) ∧ cs[i * 5 + 2]? = some (.int .i64 o.2.2.1) ∧ cs[i * 5 + 3]? = some (.int .i64 o.2.2.2.1) ∧ cs[i * 5 + 4]? = some (.int .i64 o.2.2.2.2) := by
  intro i o hb
  obtain ⟨xs, m, _, hx, _, hn, hel⟩ := DataW.trod_array Tryz.underlying215 h
  simp only [Prod.mk.injEq, DataW.agg.injEq] at hx
  have hxs := hx.1
  have hi : i < Rn.opers.length := (List.getElem?_eq_some_iff.1 hb).1
  have hl : Rn.opers.length = xs.length := by
    have := congrArg List.length hxs
    simpa using this
  have h1 := hel i (by omega)
  rw [cellsOper] at h1
  have hix : i < xs.length := by omega
  rw [List.getElem?_eq_getElem hix] at h1
  have h2 : (Rn.opers.map (Rn.opD (H := Unit)))[i]? = (xs.map (·.1))[i]? := by rw [hxs]
  rw [List.getElem?_map, List.getElem?_map, hb, List.getElem?_eq_getElem hix] at h2
  have h3 : Rn.opD o = xs[i].1 := by simpa using h2
  obtain ⟨ys, n, _, hy, _, hlen, hf⟩ := DataW.trod_struct Tryz.underlying214 h1
  have hlen5 : ys.length = 5 := hlen
  rw [hy] at h3
  match ys, hlen5 with
  | [y0, y1, y2, y3, y4], _ =>
    simp only [Rn.opD, List.map_cons, List.map_nil, DataW.agg.injEq, List.cons.injEq, and_true] at h3
    obtain ⟨e0, e1, e2, e3, e4⟩ := h3
    have g0 : DataW.trod enc Tryz.prog W base sp held n 3 ((((cs.drop (i * 5)).take 5).drop 0).take (Tryz.prog.cellsOf 3)) = some y0 := hf 0 _ rfl
    rw [cells3] at g0
    have g1 : DataW.trod enc Tryz.prog W base sp held n 9 ((((cs.drop (i * 5)).take 5).drop 1).take (Tryz.prog.cellsOf 9)) = some y1 := hf 1 _ rfl
    rw [cells9] at g1
    have g2 : DataW.trod enc Tryz.prog W base sp held n 3 ((((cs.drop (i * 5)).take 5).drop 2).take (Tryz.prog.cellsOf 3)) = some y2 := hf 2 _ rfl
    rw [cells3] at g2
    have g3 : DataW.trod enc Tryz.prog W base sp held n 3 ((((cs.drop (i * 5)).take 5).drop 3).take (Tryz.prog.cellsOf 3)) = some y3 := hf 3 _ rfl
    rw [cells3] at g3
    have g4 : DataW.trod enc Tryz.prog W base sp held n 3 ((((cs.drop (i * 5)).take 5).drop 4).take (Tryz.prog.cellsOf 3)) = some y4 := hf 4 _ rfl
    rw [cells3] at g4
    obtain ⟨k0, c0, d0, _⟩ := DataW.trod_int Tryz.underlying3 g0
    obtain ⟨k1, c1, d1, _⟩ := DataW.trod_string Tryz.underlying9 g1
    obtain ⟨k2, c2, d2, _⟩ := DataW.trod_int Tryz.underlying3 g2
    obtain ⟨k3, c3, d3, _⟩ := DataW.trod_int Tryz.underlying3 g3
    obtain ⟨k4, c4, d4, _⟩ := DataW.trod_int Tryz.underlying3 g4
    rw [d0] at e0
    rw [d1] at e1
    rw [d2] at e2
    rw [d3] at e3
    rw [d4] at e4
    simp only [DataW.lit.injEq, Lit.int.injEq, Lit.string.injEq, true_and] at e0 e1 e2 e3 e4
    have q0 := congrArg (·[0]?) c0
    have q1 := congrArg (·[0]?) c1
    have q2 := congrArg (·[0]?) c2
    have q3 := congrArg (·[0]?) c3
    have q4 := congrArg (·[0]?) c4
    simp [List.getElem?_drop] at q0 q1 q2 q3 q4
    rw [q0, q1, q2, q3, q4, e0, e1, e2, e3, e4]
    simp [bs]
theorem laid_forms : (Rows.laid_pipewright_render_forms : DataW Unit) = .agg (Rn.forms.map fun (b : List UInt8) => DataW.lit (.string b)) := by rfl
theorem laid_words : (Rows.laid_pipewright_token_words : DataW Unit) = .agg (Tk.words.map fun (b : List UInt8) => DataW.lit (.string b)) := by rfl
theorem tb_of_laid {W : World} (h : laidMetH Tryz.prog [("math/bits.deBruijn32tab", Rows.laid_math_bits_deBruijn32tab), ("math/bits.deBruijn64tab", Rows.laid_math_bits_deBruijn64tab), ("internal/strconv.uint64pow10", Rows.laid_internal_strconv_uint64pow10), ("unicode/utf8.acceptRanges", Rows.laid_unicode_utf8_acceptRanges), ("pipewright/token.words", Rows.laid_pipewright_token_words), ("pipewright/render.forms", Rows.laid_pipewright_render_forms), ("pipewright/render.operations", Rows.laid_pipewright_render_operations), ("unicode/utf8.first", Rows.laid_unicode_utf8_first)] W) : Tb W := by
  rw [MakeChecks.laidMetH_plain _ _ _ (by kernel_rfl)] at h
  obtain ⟨ps, ⟨_, _, _, _, _, _, _, _, _, _, ⟨g1, t1, cs1, f1, p1, q1, hg1, ht1, hv1, hd1, ⟨g2, t2, cs2, f2, p2, q2, hg2, ht2, hv2, hd2, ⟨_, _, _, _, _, _, _, _, _, _, ⟨g4, t4, cs4, f4, p4, q4, hg4, ht4, hv4, hd4, ⟨g5, t5, cs5, f5, p5, q5, hg5, ht5, hv5, hd5, ⟨g6, t6, cs6, f6, p6, q6, hg6, ht6, hv6, hd6, _, _⟩, _⟩, _⟩, _⟩, _⟩, _⟩, _⟩, _⟩ := h
  obtain rfl := Option.some.inj (gPowIs.symm.trans hg2)
  obtain rfl := Option.some.inj (tPowIs.symm.trans ht2)
  obtain rfl := Option.some.inj (gWordsIs.symm.trans hg4)
  obtain rfl := Option.some.inj (tWordsIs.symm.trans ht4)
  obtain rfl := Option.some.inj (gFormsIs.symm.trans hg5)
  obtain rfl := Option.some.inj (tFormsIs.symm.trans ht5)
  obtain rfl := Option.some.inj (gOperIs.symm.trans hg6)
  obtain rfl := Option.some.inj (tOperIs.symm.trans ht6)
  have hw : ∀ (i : Nat) b, Tk.words[i]? = some b → W.cell? ⟨1, i, none⟩ = some (.string (bs b)) := by
    intro i b hb
    have h1 := cells_of_strs (bs := Tk.words) Tryz.underlying191 Tryz.underlying9 cells9 (by rw [← laid_words]; exact hd4) i b hb
    have h2 := World.var?_cell hg4 hv4 i
    rw [h2]
    simpa [bs] using h1
  refine ⟨⟨World.block_lt_of_cell? W ⟨1, 5, none⟩ (hw 5 _ rfl), hw⟩, ?_, ?_, ?_, ?_⟩
  · unfold World.var? at hv1
    rw [gBitsIs] at hv1
    simp only [Option.bind_some] at hv1
    rcases Nat.lt_or_ge 8 W.heap.size with h' | h'
    · omega
    · rw [Array.getElem?_eq_none h'] at hv1; cases hv1
  · have h1 := Lib.cells_of_tab (zs := Lib.pow10Tab) (k := .u64) Tryz.underlying227 Tryz.underlying217 cellsUlong cellsPow (by rw [← laid_pow]; exact hd2)
    unfold Lib.TabIs
    rw [hv2, ← h1]
  · intro i b hb
    have h1 := cells_of_strs (bs := Rn.forms) Tryz.underlying177 Tryz.underlying9 cells9 (by rw [← laid_forms]; exact hd5) i b hb
    have h2 := World.var?_cell hg5 hv5 i
    rw [h2]
    simpa [bs] using h1
  · intro i o ho
    obtain ⟨a0, a1, a2, a3, a4⟩ := cells_of_opers (by rw [← laid_oper]; exact hd6) i o ho
    exact ⟨by rw [World.var?_cell hg6 hv6]; simpa using a0, by rw [World.var?_cell hg6 hv6]; simpa using a1, by rw [World.var?_cell hg6 hv6]; simpa using a2, by rw [World.var?_cell hg6 hv6]; simpa using a3, by rw [World.var?_cell hg6 hv6]; simpa using a4⟩
end Go.Proofs.YtfngmdebmedkjacGreatDoor
