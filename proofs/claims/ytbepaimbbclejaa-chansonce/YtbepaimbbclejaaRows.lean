/-
  No cell of these rows narrows 'for every input' (looked for: loops, veiled, ifaces, maps, wideKeys, modest, calm, conditions, laid).
  DERIVED. THE GIVEN ROWS OF THIS SEAT. 2 by the template 'for every input the law returns true; each argument reads behind the call as it read before'; 0 by the template 'total and deterministic' (their statements: YtbepaimbbclejaaTotals.lean).
  GIVEN WITH THE SEED: the statements are not yours to turn. If you find one false, say at which input.
  Laid BY PROGRAM, IN A SANDBOX (cutbox-rows.mjs): the forced cells as the released guide's own fill.sh prints them over the translation 7b6b5f88157699bf… (all of the seat's roots in one cut). By AI agents, Wed Nov 11 2026. No macro, syntax, notation, axiom, sorry.
-/
import Derived.Test.YtbepaimbbclejaaChecked
import GoSem.Claim
import GoSem.ClaimJoined
import GoSem.ClaimMapViews
import Derived.JoinedTies
import Derived.KernelRfl
namespace Go.Proofs.Ytbepaimbbclejaa
/- THE CELL 'sum', in the pinned program and in every row, IS THE sha256 OF THE DUMP (.gsa) THAT YtbepaimbbclejaaProg.lean LOADS. Nothing in Lean hashes anything: it is a label: what it is worth is what the hold of that sum in a sandbox is worth. -/
noncomputable def Try.pinned : Pinned := { name := "ytbepaimbbclejaa", sum := "7b6b5f88157699bf16ad74294afe12d653aceb3a29d3a8287397519ace7609d2", checked := Try.checked }
namespace Rows
def none {H : Type} : Left H := { results := [], args := [] }

/-- 'pipewrightlaw.ChansDoes': WHATEVER THE INPUT: true; the input reads as it did. -/
def chansDoesSpec : ChangeSpec := { name := "chansDoes", fn := fun _ => fun
  | [d] => { results := [.lit (.bool true)], args := [d] }
  | _ => none }
def chansDoesRow : OpenClaim := { program := "ytbepaimbbclejaa", sum := "7b6b5f88157699bf16ad74294afe12d653aceb3a29d3a8287397519ace7609d2", func := "pipewright/pipewrightlaw.ChansDoes", spec := "chansDoes", recurses := true, apart := false }
def ChansDoesSaid : Prop := chansDoesRow.holds Try.pinned (OpenSpec.ofChange chansDoesSpec)

/-- ITS FALSE NEIGHBOUR: 'it returns false'. Refute it at one input. -/
def chansDoesWrong : ChangeSpec := { name := "chansDoes", fn := fun _ => fun
  | [d] => { results := [.lit (.bool false)], args := [d] }
  | _ => none }
def ChansDoesWrongFalsely : Prop := chansDoesRow.holds Try.pinned (OpenSpec.ofChange chansDoesWrong)

/-- 'pipewrightlaw.ChansOnce': WHATEVER THE INPUT: true; the input reads as it did. -/
def chansOnceSpec : ChangeSpec := { name := "chansOnce", fn := fun _ => fun
  | [d] => { results := [.lit (.bool true)], args := [d] }
  | _ => none }
def chansOnceRow : OpenClaim := { program := "ytbepaimbbclejaa", sum := "7b6b5f88157699bf16ad74294afe12d653aceb3a29d3a8287397519ace7609d2", func := "pipewright/pipewrightlaw.ChansOnce", spec := "chansOnce", recurses := true, apart := false }
def ChansOnceSaid : Prop := chansOnceRow.holds Try.pinned (OpenSpec.ofChange chansOnceSpec)

/-- ITS FALSE NEIGHBOUR: 'it returns false'. Refute it at one input. -/
def chansOnceWrong : ChangeSpec := { name := "chansOnce", fn := fun _ => fun
  | [d] => { results := [.lit (.bool false)], args := [d] }
  | _ => none }
def ChansOnceWrongFalsely : Prop := chansOnceRow.holds Try.pinned (OpenSpec.ofChange chansOnceWrong)

/- THE SECOND FORM. 'bulk': how many values and letters a reading holds, each counted each time it is reached (what is shared counts as often as it is met; a slice's spare places count too). A statement '..UptoSaid' is the law's where the arguments, and the package variables that the reading takes, are together of bulk at most 1048576: NARROWER than '..Said'. Prove '..Said' where nothing that the law and all that it calls make is longer than what came in: it says more and counts as full. Else prove '..UptoSaid'. A law counts once. -/
mutual
def uptoBulk {H : Type} : DataW H → Nat
  | .lit (.string bytes) => bytes.length + 1
  | .lit _ => 1
  | .nil => 1
  | .ptr d => uptoBulk d + 1
  | .slice elems spare => uptoBulkAll elems + uptoBulkAll spare + 1
  | .agg parts => uptoBulkAll parts + 1
  | .iface _ d => uptoBulk d + 1
  | .map entries => uptoBulkEntries entries + 1
  | .held _ => 1
def uptoBulkAll {H : Type} : List (DataW H) → Nat
  | [] => 0
  | d :: r => uptoBulk d + uptoBulkAll r
def uptoBulkEntries {H : Type} : List (Lit × DataW H) → Nat
  | [] => 0
  | x :: r => uptoBulkEntry x + uptoBulkEntries r
def uptoBulkEntry {H : Type} : Lit × DataW H → Nat
  | (.string bytes, d) => bytes.length + uptoBulk d + 1
  | (_, d) => uptoBulk d + 1
 end
def uptoSmall : (H : Type) → List (DataW H) → Bool := fun _ ds => decide (uptoBulkAll ds ≤ 1048576)
def OpenSpec.upto (s : _root_.Go.ChangeSpec) : _root_.Go.OpenSpec := { _root_.Go.OpenSpec.ofChange s with cond := some uptoSmall }

/-- 'pipewrightlaw.ChansDoes', WHERE WHAT IT READS IS OF BULK AT MOST 1048576: true; the input reads as it did. -/
def chansDoesUptoRow : OpenClaim := { program := "ytbepaimbbclejaa", sum := "7b6b5f88157699bf16ad74294afe12d653aceb3a29d3a8287397519ace7609d2", func := "pipewright/pipewrightlaw.ChansDoes", spec := "chansDoes", recurses := true, apart := false, narrowed := true }
def ChansDoesUptoSaid : Prop := chansDoesUptoRow.holds Try.pinned (OpenSpec.upto chansDoesSpec)

/-- 'pipewrightlaw.ChansOnce', WHERE WHAT IT READS IS OF BULK AT MOST 1048576: true; the input reads as it did. -/
def chansOnceUptoRow : OpenClaim := { program := "ytbepaimbbclejaa", sum := "7b6b5f88157699bf16ad74294afe12d653aceb3a29d3a8287397519ace7609d2", func := "pipewright/pipewrightlaw.ChansOnce", spec := "chansOnce", recurses := true, apart := false, narrowed := true }
def ChansOnceUptoSaid : Prop := chansOnceUptoRow.holds Try.pinned (OpenSpec.upto chansOnceSpec)

end Rows
end Go.Proofs.Ytbepaimbbclejaa
