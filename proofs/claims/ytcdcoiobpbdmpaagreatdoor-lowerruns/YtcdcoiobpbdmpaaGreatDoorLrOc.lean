/- At every program the law LowerRuns answers true: what is lowered may be run, has as many stages as the program, main is main, and each stage has no more instructions than the document allows and ends with an exit. Conditions: the tables are as the program's text lays them (tied by the card); programs of any size, whose memory does not lead round to itself. -/
import Derived.Test.YtcdcoiobpbdmpaaGreatDoorMag
import Derived.Lay
import Derived.Test.YtcdcoiobpbdmpaaGreatDoorMbz
import Derived.Test.YtcdcoiobpbdmpaaGreatDoorMbs
import Derived.Test.YtcdcoiobpbdmpaaGreatDoorCards
import Derived.Test.YtcdcoiobpbdmpaaGreatDoorTie
namespace Go.Proofs.YtcdcoiobpbdmpaaGreatDoor.LowerRuns
open Go.ChangeShapes Go.WideShapes Go.ChangeAt Go.WideMaps Go.WideElems Go.RowKit
open Go.ChangeMaps (setBlock shut_map_nil open_string shut_string keptBut_setBlock frozen?_setBlock heap_setBlock_same)

theorem laidOut : laidOutB Tryz.prog = true := by kernel_rfl
theorem cPr : Tryz.prog.cellsOf 24 = 1 := by kernel_rfl
theorem open_prog {H : Type} {enc : TypeId × Value → H} {W : World} {spare : Nat → Bool} {c : Array Value} {d : DataW H} {p : List MemPlace} (h : DataW.Trod enc Tryz.prog W 0 spare true 24 (.agg c) d p) :
    ∃ n u y, c = #[u] ∧ DataW.trod enc Tryz.prog W 0 spare true n 22 [u] = some y := by
  obtain ⟨fuel, hf⟩ := h
  obtain ⟨hl, n, -, hfld⟩ := field_at Tryz.underlying24 hf
  rw [cPr] at hl hfld
  obtain ⟨u, y, g, t⟩ := hfld 0 _ rfl rfl cGs (by decide)
  refine ⟨n, u, y, ?_, t⟩
  have hc : (Value.agg c).cells = c := rfl
  rw [hc] at hl g
  obtain ⟨l⟩ := c
  match l, hl with
  | [z], _ => simp at g; rw [g]

theorem door_met (os : Os) (args : Array Value) : laidMetH Tryz.prog Rows.lowerRunsRow.laid ((World.laidAll Tryz.prog os Rows.lowerRunsRow.laid).forCall (fun _ _ => 0) ⟨#[], args, []⟩).memory := by
  rw [MakeChecks.laidMetH_plain _ _ _ (by kernel_rfl)]
  exact laidMet_laidAll _ (by kernel_rfl) (by kernel_rfl)

set_option maxRecDepth 100000 in
theorem lifted (os : Os) (started : os.Started) (H : Type) (enc : TypeId × Value → H) :
    ReturnsInHanded {} Tryz.checked os 3 .any (fun w args => (Rows.lowerRunsSpec.pre enc Tryz.prog Tryz.f3 [] false w args ∧ laidMetH Tryz.prog Rows.lowerRunsRow.laid w) ∧ sizedMet enc Tryz.prog Tryz.f3 (OpenSpec.ofChange Rows.lowerRunsSpec) false w args)
      (Rows.lowerRunsSpec.post enc Tryz.prog Tryz.f3 false true false false) := by
  refine returnsInHanded_of_change_and (C := Tryz.checked) (X := fun w _ => laidMetH Tryz.prog Rows.lowerRunsRow.laid w) (fun _ _ _ hh h => h.of_heap hh) own started (by kernel_rfl) Tryz.func3
    (ChangeSpec.witness_shaped (enc := enc) (C := Tryz.checked) (os := os) (X := fun w _ => laidMetH Tryz.prog Rows.lowerRunsRow.laid w) false (World.laidAll Tryz.prog os Rows.lowerRunsRow.laid) #[.agg #[.slice none 0 0]] 8 rfl (World.shaped_of_ZipB (by kernel_rfl) (by kernel_rfl)) (by kernel_rfl) (by kernel_rfl) (by kernel_rfl) (door_met os _)) ?_
  intro W base args ds gs before hval0 hW _ _ hL _
  have hval : ∀ (j : Nat) t v, Tryz.f3.params[j]? = some t → args[j]? = some v → Value.okWide Tryz.prog W .any base t v := hval0
  have hW' := hW
  obtain ⟨p, q, hA0, hV, rfl, hfz, hnd⟩ := hW
  have hA : DataW.TrodAll enc Tryz.prog W 0 (fun _ => true) true Tryz.f3.params.toList args.toList ds p := hA0
  rw [Tryz.params3] at hA hval
  obtain ⟨v0, d0, rfl, rfl, h0⟩ := trodAll_one hA
  obtain ⟨rfl, rfl⟩ := trodVars_none hV
  obtain ⟨c0, rfl, hz0⟩ := okWide_struct Tryz.underlying24 (hval 0 24 v0 rfl rfl)
  have k0 := h0
  have lt0 : ∀ x ∈ p, x.block < W.heap.size := by obtain ⟨m, hm⟩ := k0; exact DataW.trod_lt m _ _ _ hm
  obtain ⟨f0, u0, y0, e0, t0⟩ := open_prog h0
  subst e0
  obtain ⟨l, hl, hlb⟩ := open_GL f0 (f0 + 1000003) (by omega) u0 y0 t0
  obtain ⟨a, cap, rfl, -⟩ := id hl
  have hT := tb_of_laid hL
  clear hA0 hval0
  simp only [List.append_nil] at hW'
  have hcap : l.length ≤ cap := by
    rcases DataW.trod_slice Tryz.underlying22 t0 with ⟨h0, -⟩ | ⟨a2, len2, cap2, elems, rest, n2, hf2, h0, -, -, hlc, -⟩
    · simp at h0
      rw [h0.2.1]
      exact Nat.zero_le _
    · simp at h0
      obtain ⟨-, e1, e2⟩ := h0
      rw [e1, e2]
      exact hlc
  have walk := lruns_any (f0 + 1000003) (by omega) W hT (fun b => b < W.heap.size) l a cap (gl_low hl) hlb (fun b hb => hb) hcap
  refine walk.mono fun e W' ⟨he, hk⟩ => ?_
  have hb := hk.below
  subst he
  exact ⟨_, rfl, _, _, _, [], _, [], hW', trodAll_mk1 (shut_bool Tryz.underlying4 _), trodAll_mk1 (Below.trod laidOut (by kernel_rfl) (of_decide_eq_true (by kernel_rfl)) k0 hb lt0), rfl, hb.frame _, fun h => by cases h⟩

theorem said : Rows.LowerRunsSaid :=
  OpenClaim.holds_of_wide 3 Tryz.f3 rfl rfl rfl rfl rfl rfl rfl ⟨rfl, rfl, rfl, rfl, rfl⟩ rfl rfl rfl rfl rfl (by kernel_rfl) Tryz.func3 (by kernel_rfl)
    (of_decide_eq_true (by kernel_rfl)) (by unfold Func.isWrapper; first | (rw [if_pos (by decide +kernel)]; kernel_rfl) | (rw [if_neg (by decide +kernel)]; exact ⟨rfl, rfl⟩))
    (fun os started H enc _ => lifted os started H enc)

theorem plain (lk : Bool) (hlk : lk = Tryz.pinned.checked.prog.looks []) (f : FuncId) (fn : Func) (hf : Tryz.pinned.checked.prog.funcNamed "pipewright/pipewrightlaw.LowerRuns" = some f) (hfn : Tryz.pinned.checked.prog.funcs[f]? = some fn) :
    lk = Tryz.pinned.checked.prog.looks [] ∧ ∀ (j : Nat) t, fn.params[j]? = some t → Tryz.pinned.checked.prog.wantsStandIn t = false := by
  obtain rfl : f = 3 := Option.some.inj ((show Tryz.prog.funcNamed "pipewright/pipewrightlaw.LowerRuns" = some 3 by kernel_rfl).symm.trans hf) |>.symm
  obtain rfl : fn = Tryz.f3 := (Option.some.inj (Tryz.func3.symm.trans hfn)).symm
  refine ⟨hlk, fun j t ht => ?_⟩
  rw [Tryz.params3] at ht
  have hm : t ∈ [24] := by simpa using Array.mem_of_getElem? ht
  have hall : ([24].all fun u => !Tryz.prog.wantsStandIn u) = true := by kernel_rfl
  exact (show Tryz.prog.wantsStandIn t = false by simpa using List.all_eq_true.1 hall t hm)

theorem card : Rows.LowerRunsCardSaid :=
  Claim7.holds_tied_plain_at .later [] _ _ _ _ said (fun _ h => by cases h) (by kernel_rfl) (fun _ h => by cases h) lowerRuns_row_tie rfl ⟨rfl, rfl⟩ (by kernel_rfl) rfl (plain _ (by kernel_rfl)) (by kernel_rfl)
end Go.Proofs.YtcdcoiobpbdmpaaGreatDoor.LowerRuns
namespace Go.Proofs.YtcdcoiobpbdmpaaGreatDoor
theorem lowerRuns_card : Rows.LowerRunsCardSaid := LowerRuns.card
#print axioms lowerRuns_card
end Go.Proofs.YtcdcoiobpbdmpaaGreatDoor
