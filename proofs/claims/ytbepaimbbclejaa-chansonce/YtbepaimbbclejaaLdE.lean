import Derived.Test.YtbepaimbbclejaaLdD
import Derived.Deep.RegionLaw
/- The document's Use; how the laws begin. -/
namespace Go.Proofs.Ytbepaimbbclejaa
open Go.RowKit
theorem step_call_w {P : Program} {ops : Array Oper} {o : Oper} {a : Act} {w : World} {K : Act → World → Prop} {Q : Exit → Act → World → Prop} {E : Prop} (hw : Region.wanted o (yielded ops a.tmps) = true) (f : FuncId) (args : Array Value) (hrun : (execOp a.eval o).run P w = .ok (.enter f args) w)
    {R : Value → World → Prop} (hC : Calls P f args w fun e w' => ∃ v, e = .returned v ∧ R v w') (hK : ∀ v w', R v w' → K (a.put o.dst v) w') : if Region.wanted o (yielded ops a.tmps) = true then Oper.wp P o a w K Q else E := by
  rw [if_pos hw]
  unfold Oper.wp
  rw [hrun]
  show Calls P f args w _
  refine hC.mono ?_
  rintro e w' ⟨v, rfl, hr⟩
  exact hK v w' hr
end Go.Proofs.Ytbepaimbbclejaa
