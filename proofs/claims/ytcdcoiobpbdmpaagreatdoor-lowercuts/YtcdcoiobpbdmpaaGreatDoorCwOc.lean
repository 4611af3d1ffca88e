import Derived.Test.YtcdcoiobpbdmpaaGreatDoorNx
import Derived.Test.YtcdcoiobpbdmpaaGreatDoorCards
import Derived.Test.YtcdcoiobpbdmpaaGreatDoorTie
import Derived.Lay
/- At every program and all whole numbers the law LowerCuts answers true: code that may be run, an instruction of which is turned into one that is none, may not be run, and it is told which. Conditions: the tables are as the program's text lays them (tied by the card); programs of any size, whose memory does not lead round to itself. -/
namespace Go.Proofs.YtcdcoiobpbdmpaaGreatDoor.LowerCuts
open Go.ChangeShapes Go.WideShapes Go.ChangeAt Go.WideMaps Go.WideElems Go.RowKit
open Go.ChangeMaps (setBlock shut_map_nil open_string shut_string keptBut_setBlock frozen?_setBlock heap_setBlock_same)

theorem laidOut : laidOutB Tryz.prog = true := by kernel_rfl
theorem cPr : Tryz.prog.cellsOf 24 = 1 := by kernel_rfl
theorem open_prog {H : Type} {enc : TypeId × Value → H} {W : World} {spare : Nat → Bool} {c : Array Value} {d : DataW H} {p : List MemPlace} (h : DataW.Trod enc Tryz.prog W 0 spare true 24 (.agg c) d p) :
    ∃ n u y, c = #[u] ∧ DataW.trod enc Tryz.prog W 0 spare true n 22 [u] = some y := by
  obtain ⟨fuel, hf⟩ := h
  obtain ⟨hl, n, -, hfld⟩ := field_at Tryz.underlying24 hf
  rw [cPr] at hl hfld
  obtain ⟨u, y, g, t⟩ := hfld 0 _ rfl rfl cGs (by decide)
  refine ⟨n, u, y, ?_, t⟩
  have hc : (Value.agg c).cells = c := rfl
  rw [hc] at hl g
  obtain ⟨l⟩ := c
  match l, hl with
  | [z], _ => simp at g; rw [g]

theorem door_met (os : Os) (args : Array Value) : laidMetH Tryz.prog Rows.lowerCutsRow.laid ((World.laidAll Tryz.prog os Rows.lowerCutsRow.laid).forCall (fun _ _ => 0) ⟨#[], args, []⟩).memory := by
  rw [MakeChecks.laidMetH_plain _ _ _ (by kernel_rfl)]
  exact laidMet_laidAll _ (by kernel_rfl) (by kernel_rfl)

set_option maxRecDepth 100000 in
theorem lifted (os : Os) (started : os.Started) (H : Type) (enc : TypeId × Value → H) :
    ReturnsInHanded {} Tryz.checked os 4 .any (fun w args => (Rows.lowerCutsSpec.pre enc Tryz.prog Tryz.f4 [] false w args ∧ laidMetH Tryz.prog Rows.lowerCutsRow.laid w) ∧ sizedMet enc Tryz.prog Tryz.f4 (OpenSpec.ofChange Rows.lowerCutsSpec) false w args)
      (Rows.lowerCutsSpec.post enc Tryz.prog Tryz.f4 false true false false) := by
  refine returnsInHanded_of_change_and (C := Tryz.checked) (X := fun w _ => laidMetH Tryz.prog Rows.lowerCutsRow.laid w) (fun _ _ _ hh h => h.of_heap hh) own started (by kernel_rfl) Tryz.func4
    (ChangeSpec.witness_shaped (enc := enc) (C := Tryz.checked) (os := os) (X := fun w _ => laidMetH Tryz.prog Rows.lowerCutsRow.laid w) false (World.laidAll Tryz.prog os Rows.lowerCutsRow.laid) #[.agg #[.slice none 0 0], .int .i64 0, .int .i64 0] 8 rfl (World.shaped_of_ZipB (by kernel_rfl) (by kernel_rfl)) (by kernel_rfl) (by kernel_rfl) (by kernel_rfl) (door_met os _)) ?_
  intro W base args ds gs before hval0 hW _ _ hL _
  have hval : ∀ (j : Nat) t v, Tryz.f4.params[j]? = some t → args[j]? = some v → Value.okWide Tryz.prog W .any base t v := hval0
  have hW' := hW
  obtain ⟨p, q, hA0, hV, rfl, hfz, hnd⟩ := hW
  have hA : DataW.TrodAll enc Tryz.prog W 0 (fun _ => true) true Tryz.f4.params.toList args.toList ds p := hA0
  rw [Tryz.params4] at hA hval
  obtain ⟨v0, v1, v2, d0, d1, d2, p0, p1, p2, rfl, rfl, rfl, h0, h1, h2⟩ := trodAll_three hA
  obtain ⟨rfl, rfl⟩ := trodVars_none hV
  obtain ⟨c0, rfl, hz0⟩ := okWide_struct Tryz.underlying24 (hval 0 24 v0 rfl rfl)
  obtain ⟨x1, rfl, rfl, rfl, wx1⟩ := open_int Tryz.underlying3 (hval 1 3 v1 rfl rfl) h1
  obtain ⟨x2, rfl, rfl, rfl, wx2⟩ := open_int Tryz.underlying3 (hval 2 3 v2 rfl rfl) h2
  have k0 := h0
  have lt0 : ∀ x ∈ p0, x.block < W.heap.size := by obtain ⟨m, hm⟩ := k0; exact DataW.trod_lt m _ _ _ hm
  obtain ⟨f0, u0, y0, e0, t0⟩ := open_prog h0
  subst e0
  obtain ⟨l, hl, hlb⟩ := open_GL f0 (f0 + 1000003) (by omega) u0 y0 t0
  obtain ⟨a, cap, rfl, -⟩ := id hl
  have hT := tb_of_laid hL
  clear hA0 hval0
  simp only [List.append_nil] at hW'
  have walk := lcuts_any (f0 + 1000003) (by omega) W hT (fun b => b < W.heap.size) l a cap (gl_low hl) hlb (fun b hb => hb) x1 x2
  refine walk.mono fun e W' ⟨he, hk⟩ => ?_
  have hb := hk.below
  subst he
  exact ⟨_, rfl, _, _, _, [], _, [], hW', trodAll_mk1 (shut_bool Tryz.underlying4 _), trodAll_mk3 (Below.trod laidOut (by kernel_rfl) (of_decide_eq_true (by kernel_rfl)) k0 hb lt0) (shut_int Tryz.underlying3 wx1) (shut_int Tryz.underlying3 wx2), rfl, hb.frame _, fun h => by cases h⟩

theorem said : Rows.LowerCutsSaid :=
  OpenClaim.holds_of_wide 4 Tryz.f4 rfl rfl rfl rfl rfl rfl rfl ⟨rfl, rfl, rfl, rfl, rfl⟩ rfl rfl rfl rfl rfl (by kernel_rfl) Tryz.func4 (by kernel_rfl)
    (of_decide_eq_true (by kernel_rfl)) (by unfold Func.isWrapper; first | (rw [if_pos (by decide +kernel)]; kernel_rfl) | (rw [if_neg (by decide +kernel)]; exact ⟨rfl, rfl⟩))
    (fun os started H enc _ => lifted os started H enc)

theorem plain (lk : Bool) (hlk : lk = Tryz.pinned.checked.prog.looks []) (f : FuncId) (fn : Func) (hf : Tryz.pinned.checked.prog.funcNamed "pipewright/pipewrightlaw.LowerCuts" = some f) (hfn : Tryz.pinned.checked.prog.funcs[f]? = some fn) :
    lk = Tryz.pinned.checked.prog.looks [] ∧ ∀ (j : Nat) t, fn.params[j]? = some t → Tryz.pinned.checked.prog.wantsStandIn t = false := by
  obtain rfl : f = 4 := Option.some.inj ((show Tryz.prog.funcNamed "pipewright/pipewrightlaw.LowerCuts" = some 4 by kernel_rfl).symm.trans hf) |>.symm
  obtain rfl : fn = Tryz.f4 := (Option.some.inj (Tryz.func4.symm.trans hfn)).symm
  refine ⟨hlk, fun j t ht => ?_⟩
  rw [Tryz.params4] at ht
  have hm : t ∈ [24, 3, 3] := by simpa using Array.mem_of_getElem? ht
  have hall : ([24, 3, 3].all fun u => !Tryz.prog.wantsStandIn u) = true := by kernel_rfl
  exact (show Tryz.prog.wantsStandIn t = false by simpa using List.all_eq_true.1 hall t hm)

theorem card : Rows.LowerCutsCardSaid :=
  Claim7.holds_tied_plain_at .later [] _ _ _ _ said (fun _ h => by cases h) (by kernel_rfl) (fun _ h => by cases h) lowerCuts_row_tie rfl ⟨rfl, rfl⟩ (by kernel_rfl) rfl (plain _ (by kernel_rfl)) (by kernel_rfl)
end Go.Proofs.YtcdcoiobpbdmpaaGreatDoor.LowerCuts
namespace Go.Proofs.YtcdcoiobpbdmpaaGreatDoor
theorem lowerCuts_card : Rows.LowerCutsCardSaid := LowerCuts.card
#print axioms lowerCuts_card
end Go.Proofs.YtcdcoiobpbdmpaaGreatDoor
