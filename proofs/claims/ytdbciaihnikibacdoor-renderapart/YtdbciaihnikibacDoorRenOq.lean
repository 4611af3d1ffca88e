import Derived.Test.YtdbciaihnikibacDoorRenLd
import Derived.Lay
import Derived.Test.YtdbciaihnikibacDoorRenLq
import Derived.Test.YtdbciaihnikibacDoorRxF
import Derived.Test.YtdbciaihnikibacDoorCards
import Derived.Test.YtdbciaihnikibacDoorTie
/- At every two programs the law RenderApart answers true: what may stand as a text has the same text as another one just if they are the same. Conditions: the tables are as the program's text lays them (tied by the card); programs of any size, whose memory does not lead round to itself. -/
namespace Go.Proofs.YtdbciaihnikibacDoor.RenderApart
open Go.ChangeShapes Go.WideShapes Go.ChangeAt Go.WideMaps Go.WideElems Go.RowKit
open Go.ChangeMaps (setBlock shut_map_nil open_string shut_string keptBut_setBlock frozen?_setBlock heap_setBlock_same)

theorem laidOut : laidOutB Tryd.prog = true := by kernel_rfl
theorem cPr : Tryd.prog.cellsOf 24 = 1 := by kernel_rfl
theorem open_prog {H : Type} {enc : TypeId × Value → H} {W : World} {spare : Nat → Bool} {c : Array Value} {d : DataW H} {p : List MemPlace} (h : DataW.Trod enc Tryd.prog W 0 spare true 24 (.agg c) d p) :
    ∃ n u y, c = #[u] ∧ DataW.trod enc Tryd.prog W 0 spare true n 22 [u] = some y := by
  obtain ⟨fuel, hf⟩ := h
  obtain ⟨hl, n, -, hfld⟩ := field_at Tryd.underlying24 hf
  rw [cPr] at hl hfld
  obtain ⟨u, y, g, t⟩ := hfld 0 _ rfl rfl cGs (by decide)
  refine ⟨n, u, y, ?_, t⟩
  have hc : (Value.agg c).cells = c := rfl
  rw [hc] at hl g
  obtain ⟨l⟩ := c
  match l, hl with
  | [z], _ => simp at g; rw [g]

theorem door_met (os : Os) (args : Array Value) : laidMetH Tryd.prog Rows.renderApartRow.laid ((World.laidAll Tryd.prog os Rows.renderApartRow.laid).forCall (fun _ _ => 0) ⟨#[], args, []⟩).memory := by
  rw [MakeChecks.laidMetH_plain _ _ _ (by kernel_rfl)]
  exact laidMet_laidAll _ (by kernel_rfl) (by kernel_rfl)

set_option maxRecDepth 100000 in
theorem lifted (os : Os) (started : os.Started) (H : Type) (enc : TypeId × Value → H) :
    ReturnsInHanded {} Tryd.checked os 3 .any (fun w args => (Rows.renderApartSpec.pre enc Tryd.prog Tryd.f3 [] false w args ∧ laidMetH Tryd.prog Rows.renderApartRow.laid w) ∧ sizedMet enc Tryd.prog Tryd.f3 (OpenSpec.ofChange Rows.renderApartSpec) false w args)
      (Rows.renderApartSpec.post enc Tryd.prog Tryd.f3 false true false false) := by
  refine returnsInHanded_of_change_and (C := Tryd.checked) (X := fun w _ => laidMetH Tryd.prog Rows.renderApartRow.laid w) (fun _ _ _ hh h => h.of_heap hh) own started (by kernel_rfl) Tryd.func3
    (ChangeSpec.witness_shaped (enc := enc) (C := Tryd.checked) (os := os) (X := fun w _ => laidMetH Tryd.prog Rows.renderApartRow.laid w) false (World.laidAll Tryd.prog os Rows.renderApartRow.laid) #[.agg #[.slice none 0 0], .agg #[.slice none 0 0]] 8 rfl (World.shaped_of_ZipB (by kernel_rfl) (by kernel_rfl)) (by kernel_rfl) (by kernel_rfl) (by kernel_rfl) (door_met os _)) ?_
  intro W base args ds gs before hval0 hW _ _ hL _
  have hval : ∀ (j : Nat) t v, Tryd.f3.params[j]? = some t → args[j]? = some v → Value.okWide Tryd.prog W .any base t v := hval0
  have hW' := hW
  obtain ⟨p, q, hA0, hV, rfl, hfz, hnd⟩ := hW
  have hA : DataW.TrodAll enc Tryd.prog W 0 (fun _ => true) true Tryd.f3.params.toList args.toList ds p := hA0
  rw [Tryd.params3] at hA hval
  obtain ⟨v0, v1, d0, d1, p0, p1, rfl, rfl, rfl, h0, h1⟩ := trodAll_two hA
  obtain ⟨rfl, rfl⟩ := trodVars_none hV
  obtain ⟨c0, rfl, hz0⟩ := okWide_struct Tryd.underlying24 (hval 0 24 v0 rfl rfl)
  obtain ⟨c1, rfl, hz1⟩ := okWide_struct Tryd.underlying24 (hval 1 24 v1 rfl rfl)
  have k0 := h0
  have k1 := h1
  have lt0 : ∀ x ∈ p0, x.block < W.heap.size := by obtain ⟨m, hm⟩ := k0; exact DataW.trod_lt m _ _ _ hm
  have lt1 : ∀ x ∈ p1, x.block < W.heap.size := by obtain ⟨m, hm⟩ := k1; exact DataW.trod_lt m _ _ _ hm
  obtain ⟨f0, u0, y0, e0, t0⟩ := open_prog h0
  obtain ⟨f1, u1, y1, e1, t1⟩ := open_prog h1
  subst e0 e1
  obtain ⟨l, hl, hlb⟩ := open_GL f0 (f0 + f1 + 1000003) (by omega) u0 y0 t0
  obtain ⟨m, hm, hmb⟩ := open_GL f1 (f0 + f1 + 1000003) (by omega) u1 y1 t1
  obtain ⟨a, cap, rfl, -⟩ := id hl
  obtain ⟨a2, cap2, rfl, -⟩ := id hm
  have hT := tb_of_laid hL
  clear hA0 hval0
  simp only [List.append_nil] at hW'
  refine (apart_any (f0 + f1 + 1000003) (by omega) W hT _ _ l m a a2 cap cap2 hl hlb hm hmb).mono fun e W' ⟨he, hk⟩ => ?_
  have hb := hk.below
  subst he
  exact ⟨_, rfl, _, _, _, [], _, [], hW', trodAll_mk1 (shut_bool Tryd.underlying4 _), trodAll_mk2 (Below.trod laidOut (by kernel_rfl) (of_decide_eq_true (by kernel_rfl)) k0 hb lt0) (Below.trod laidOut (by kernel_rfl) (of_decide_eq_true (by kernel_rfl)) k1 hb lt1), rfl, hb.frame _, fun h => by cases h⟩

theorem said : Rows.RenderApartSaid :=
  OpenClaim.holds_of_wide 3 Tryd.f3 rfl rfl rfl rfl rfl rfl rfl ⟨rfl, rfl, rfl, rfl, rfl⟩ rfl rfl rfl rfl rfl (by kernel_rfl) Tryd.func3 (by kernel_rfl)
    (of_decide_eq_true (by kernel_rfl)) (by unfold Func.isWrapper; first | (rw [if_pos (by decide +kernel)]; kernel_rfl) | (rw [if_neg (by decide +kernel)]; exact ⟨rfl, rfl⟩))
    (fun os started H enc _ => lifted os started H enc)

theorem plain (lk : Bool) (hlk : lk = Tryd.pinned.checked.prog.looks []) (f : FuncId) (fn : Func) (hf : Tryd.pinned.checked.prog.funcNamed "pipewright/pipewrightlaw.RenderApart" = some f) (hfn : Tryd.pinned.checked.prog.funcs[f]? = some fn) :
    lk = Tryd.pinned.checked.prog.looks [] ∧ ∀ (j : Nat) t, fn.params[j]? = some t → Tryd.pinned.checked.prog.wantsStandIn t = false := by
  obtain rfl : f = 3 := Option.some.inj ((show Tryd.prog.funcNamed "pipewright/pipewrightlaw.RenderApart" = some 3 by kernel_rfl).symm.trans hf) |>.symm
  obtain rfl : fn = Tryd.f3 := (Option.some.inj (Tryd.func3.symm.trans hfn)).symm
  refine ⟨hlk, fun j t ht => ?_⟩
  rw [Tryd.params3] at ht
  have hm : t ∈ [24, 24] := by simpa using Array.mem_of_getElem? ht
  have hall : ([24, 24].all fun u => !Tryd.prog.wantsStandIn u) = true := by kernel_rfl
  exact (show Tryd.prog.wantsStandIn t = false by simpa using List.all_eq_true.1 hall t hm)

theorem card : Rows.RenderApartCardSaid :=
  Claim7.holds_tied_plain_at .later [] _ _ _ _ said (fun _ h => by cases h) (by kernel_rfl) (fun _ h => by cases h) renderApart_row_tie rfl ⟨rfl, rfl⟩ (by kernel_rfl) rfl (plain _ (by kernel_rfl)) (by kernel_rfl)
end Go.Proofs.YtdbciaihnikibacDoor.RenderApart
namespace Go.Proofs.YtdbciaihnikibacDoor
theorem renderApart_card : Rows.RenderApartCardSaid := RenderApart.card
#print axioms renderApart_card
end Go.Proofs.YtdbciaihnikibacDoor
