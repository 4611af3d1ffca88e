/-
  NARROWER THAN 'FOR EVERY INPUT', by the rows' own cells (each row's printed sentence says how): TokenJoins: laid · SyntaxParses: laid · SyntaxSames: loops, laid · SyntaxJoins: laid · SyntaxStops: laid.
  DERIVED. THE GIVEN ROWS OF THIS SEAT. 5 by the template 'for every input the law returns true; each argument reads behind the call as it read before'; 0 by the template 'total and deterministic' (their statements: YtdnlnpdaplonfabDoorTotals.lean).
  GIVEN WITH THE SEED: the statements are not yours to turn. If you find one false, say at which input.
  Laid BY PROGRAM, IN A SANDBOX (cutbox-rows.mjs): the forced cells as the released guide's own fill.sh prints them over the translation 85ef45062fa1a143… (all of the seat's roots in one cut). By AI agents, Wed Nov 11 2026. No macro, syntax, notation, axiom, sorry.
-/
import Derived.Test.YtdnlnpdaplonfabDoorChecked
import GoSem.Claim
import GoSem.ClaimJoined
import GoSem.ClaimMapViews
import Derived.JoinedTies
import Derived.KernelRfl
namespace Go.Proofs.YtdnlnpdaplonfabDoor
/- THE CELL 'sum', in the pinned program and in every row, IS THE sha256 OF THE DUMP (.gsa) THAT YtdnlnpdaplonfabDoorProg.lean LOADS. Nothing in Lean hashes anything: it is a label: what it is worth is what the hold of that sum in a sandbox is worth. -/
noncomputable def Tryd.pinned : Pinned := { name := "ytdnlnpdaplonfabdoor", sum := "85ef45062fa1a14359b0e22466cb97cb13c03259eb29fcf6c4f305b800c18434", checked := Tryd.checked }
namespace Rows
def none {H : Type} : Left H := { results := [], args := [] }

/- WHAT THE LISTED PACKAGE-LEVEL VARIABLES READ AS WHEN THE CALL BEGINS. Each datum BY PROGRAM (the guide's laid-datum.mjs) off the statement by which the dump's own 'gosem.cut.vars' lays the variable. In a bare row this is a premise. The card (YtdnlnpdaplonfabDoorCards.lean) ties it to the program's text. -/
def laid_pipewright_token_words {H : Type} : DataW H := .agg [.lit (.string [97, 98, 97, 110, 100, 111, 110]), .lit (.string [99, 104, 97, 110]), .lit (.string [99, 108, 111, 110, 101]), .lit (.string [99, 108, 111, 115, 101]), .lit (.string [100, 114, 97, 105, 110]), .lit (.string [101, 108, 115, 101]), .lit (.string [101, 109, 105, 116]), .lit (.string [102, 111, 114]), .lit (.string [102, 114, 111, 109]), .lit (.string [105, 102]), .lit (.string [105, 110, 116]), .lit (.string [108, 101, 116]), .lit (.string [114, 101, 99, 118]), .lit (.string [114, 101, 112, 101, 97, 116]), .lit (.string [115, 101, 110, 100]), .lit (.string [115, 101, 116]), .lit (.string [115, 112, 97, 119, 110]), .lit (.string [115, 116, 97, 103, 101]), .lit (.string [116, 97, 107, 101])]

/-- 'pipewrightlaw.TokenJoins': WHATEVER THE INPUT: true; the input reads as it did. -/
def tokenJoinsSpec : ChangeSpec := { name := "tokenJoins", fn := fun _ => fun
  | [d1, d2] => { results := [.lit (.bool true)], args := [d1, d2] }
  | _ => none }
def tokenJoinsRow : OpenClaim := { program := "ytdnlnpdaplonfabdoor", sum := "85ef45062fa1a14359b0e22466cb97cb13c03259eb29fcf6c4f305b800c18434", func := "pipewright/pipewrightlaw.TokenJoins", spec := "tokenJoins", inPlace := ["internal/bytealg.IndexByteString"], named := ["pipewright/token.words"], apart := false, laid := [("pipewright/token.words", laid_pipewright_token_words)] }
def TokenJoinsSaid : Prop := tokenJoinsRow.holds Tryd.pinned (OpenSpec.ofChange tokenJoinsSpec)

/-- ITS FALSE NEIGHBOUR: 'it returns false'. Refute it at one input. -/
def tokenJoinsWrong : ChangeSpec := { name := "tokenJoins", fn := fun _ => fun
  | [d1, d2] => { results := [.lit (.bool false)], args := [d1, d2] }
  | _ => none }
def TokenJoinsWrongFalsely : Prop := tokenJoinsRow.holds Tryd.pinned (OpenSpec.ofChange tokenJoinsWrong)

/-- 'pipewrightlaw.SyntaxParses': WHATEVER THE INPUT: true; the input reads as it did. -/
def syntaxParsesSpec : ChangeSpec := { name := "syntaxParses", fn := fun _ => fun
  | [d] => { results := [.lit (.bool true)], args := [d] }
  | _ => none }
def syntaxParsesRow : OpenClaim := { program := "ytdnlnpdaplonfabdoor", sum := "85ef45062fa1a14359b0e22466cb97cb13c03259eb29fcf6c4f305b800c18434", func := "pipewright/pipewrightlaw.SyntaxParses", spec := "syntaxParses", inPlace := ["internal/bytealg.IndexByteString"], unfollowed := true, recurses := true, named := ["pipewright/token.words"], apart := false, laid := [("pipewright/token.words", laid_pipewright_token_words)] }
def SyntaxParsesSaid : Prop := syntaxParsesRow.holds Tryd.pinned (OpenSpec.ofChange syntaxParsesSpec)

/-- ITS FALSE NEIGHBOUR: 'it returns false'. Refute it at one input. -/
def syntaxParsesWrong : ChangeSpec := { name := "syntaxParses", fn := fun _ => fun
  | [d] => { results := [.lit (.bool false)], args := [d] }
  | _ => none }
def SyntaxParsesWrongFalsely : Prop := syntaxParsesRow.holds Tryd.pinned (OpenSpec.ofChange syntaxParsesWrong)

/-- 'pipewrightlaw.SyntaxSames': WHATEVER THE INPUT: true; the input reads as it did. -/
def syntaxSamesSpec : ChangeSpec := { name := "syntaxSames", fn := fun _ => fun
  | [d1, d2] => { results := [.lit (.bool true)], args := [d1, d2] }
  | _ => none }
def syntaxSamesRow : OpenClaim := { program := "ytdnlnpdaplonfabdoor", sum := "85ef45062fa1a14359b0e22466cb97cb13c03259eb29fcf6c4f305b800c18434", func := "pipewright/pipewrightlaw.SyntaxSames", spec := "syntaxSames", inPlace := ["internal/bytealg.IndexByteString"], unfollowed := true, recurses := true, named := ["pipewright/token.words"], loops := true, apart := false, laid := [("pipewright/token.words", laid_pipewright_token_words)] }
def SyntaxSamesSaid : Prop := syntaxSamesRow.holds Tryd.pinned (OpenSpec.ofChange syntaxSamesSpec)

/-- ITS FALSE NEIGHBOUR: 'it returns false'. Refute it at one input. -/
def syntaxSamesWrong : ChangeSpec := { name := "syntaxSames", fn := fun _ => fun
  | [d1, d2] => { results := [.lit (.bool false)], args := [d1, d2] }
  | _ => none }
def SyntaxSamesWrongFalsely : Prop := syntaxSamesRow.holds Tryd.pinned (OpenSpec.ofChange syntaxSamesWrong)

/-- 'pipewrightlaw.SyntaxJoins': WHATEVER THE INPUT: true; the input reads as it did. -/
def syntaxJoinsSpec : ChangeSpec := { name := "syntaxJoins", fn := fun _ => fun
  | [d1, d2] => { results := [.lit (.bool true)], args := [d1, d2] }
  | _ => none }
def syntaxJoinsRow : OpenClaim := { program := "ytdnlnpdaplonfabdoor", sum := "85ef45062fa1a14359b0e22466cb97cb13c03259eb29fcf6c4f305b800c18434", func := "pipewright/pipewrightlaw.SyntaxJoins", spec := "syntaxJoins", inPlace := ["internal/bytealg.IndexByteString"], unfollowed := true, recurses := true, named := ["pipewright/token.words"], apart := false, laid := [("pipewright/token.words", laid_pipewright_token_words)] }
def SyntaxJoinsSaid : Prop := syntaxJoinsRow.holds Tryd.pinned (OpenSpec.ofChange syntaxJoinsSpec)

/-- ITS FALSE NEIGHBOUR: 'it returns false'. Refute it at one input. -/
def syntaxJoinsWrong : ChangeSpec := { name := "syntaxJoins", fn := fun _ => fun
  | [d1, d2] => { results := [.lit (.bool false)], args := [d1, d2] }
  | _ => none }
def SyntaxJoinsWrongFalsely : Prop := syntaxJoinsRow.holds Tryd.pinned (OpenSpec.ofChange syntaxJoinsWrong)

/-- 'pipewrightlaw.SyntaxStops': WHATEVER THE INPUT: true; the input reads as it did. -/
def syntaxStopsSpec : ChangeSpec := { name := "syntaxStops", fn := fun _ => fun
  | [d1, d2] => { results := [.lit (.bool true)], args := [d1, d2] }
  | _ => none }
def syntaxStopsRow : OpenClaim := { program := "ytdnlnpdaplonfabdoor", sum := "85ef45062fa1a14359b0e22466cb97cb13c03259eb29fcf6c4f305b800c18434", func := "pipewright/pipewrightlaw.SyntaxStops", spec := "syntaxStops", inPlace := ["internal/bytealg.IndexByteString"], unfollowed := true, recurses := true, named := ["pipewright/token.words"], apart := false, laid := [("pipewright/token.words", laid_pipewright_token_words)] }
def SyntaxStopsSaid : Prop := syntaxStopsRow.holds Tryd.pinned (OpenSpec.ofChange syntaxStopsSpec)

/-- ITS FALSE NEIGHBOUR: 'it returns false'. Refute it at one input. -/
def syntaxStopsWrong : ChangeSpec := { name := "syntaxStops", fn := fun _ => fun
  | [d1, d2] => { results := [.lit (.bool false)], args := [d1, d2] }
  | _ => none }
def SyntaxStopsWrongFalsely : Prop := syntaxStopsRow.holds Tryd.pinned (OpenSpec.ofChange syntaxStopsWrong)

/- THE SECOND FORM. 'bulk': how many values and letters a reading holds, each counted each time it is reached (what is shared counts as often as it is met; a slice's spare places count too). A statement '..UptoSaid' is the law's where the arguments, and the package variables that the reading takes, are together of bulk at most 1048576: NARROWER than '..Said'. Prove '..Said' where nothing that the law and all that it calls make is longer than what came in: it says more and counts as full. Else prove '..UptoSaid'. A law counts once. -/
mutual
def uptoBulk {H : Type} : DataW H → Nat
  | .lit (.string bytes) => bytes.length + 1
  | .lit _ => 1
  | .nil => 1
  | .ptr d => uptoBulk d + 1
  | .slice elems spare => uptoBulkAll elems + uptoBulkAll spare + 1
  | .agg parts => uptoBulkAll parts + 1
  | .iface _ d => uptoBulk d + 1
  | .map entries => uptoBulkEntries entries + 1
  | .held _ => 1
def uptoBulkAll {H : Type} : List (DataW H) → Nat
  | [] => 0
  | d :: r => uptoBulk d + uptoBulkAll r
def uptoBulkEntries {H : Type} : List (Lit × DataW H) → Nat
  | [] => 0
  | x :: r => uptoBulkEntry x + uptoBulkEntries r
def uptoBulkEntry {H : Type} : Lit × DataW H → Nat
  | (.string bytes, d) => bytes.length + uptoBulk d + 1
  | (_, d) => uptoBulk d + 1
 end
def uptoSmall : (H : Type) → List (DataW H) → Bool := fun _ ds => decide (uptoBulkAll ds ≤ 1048576)
def OpenSpec.upto (s : _root_.Go.ChangeSpec) : _root_.Go.OpenSpec := { _root_.Go.OpenSpec.ofChange s with cond := some uptoSmall }

/-- 'pipewrightlaw.TokenJoins', WHERE WHAT IT READS IS OF BULK AT MOST 1048576: true; the input reads as it did. -/
def tokenJoinsUptoRow : OpenClaim := { program := "ytdnlnpdaplonfabdoor", sum := "85ef45062fa1a14359b0e22466cb97cb13c03259eb29fcf6c4f305b800c18434", func := "pipewright/pipewrightlaw.TokenJoins", spec := "tokenJoins", inPlace := ["internal/bytealg.IndexByteString"], named := ["pipewright/token.words"], apart := false, laid := [("pipewright/token.words", laid_pipewright_token_words)], narrowed := true }
def TokenJoinsUptoSaid : Prop := tokenJoinsUptoRow.holds Tryd.pinned (OpenSpec.upto tokenJoinsSpec)

/-- 'pipewrightlaw.SyntaxParses', WHERE WHAT IT READS IS OF BULK AT MOST 1048576: true; the input reads as it did. -/
def syntaxParsesUptoRow : OpenClaim := { program := "ytdnlnpdaplonfabdoor", sum := "85ef45062fa1a14359b0e22466cb97cb13c03259eb29fcf6c4f305b800c18434", func := "pipewright/pipewrightlaw.SyntaxParses", spec := "syntaxParses", inPlace := ["internal/bytealg.IndexByteString"], unfollowed := true, recurses := true, named := ["pipewright/token.words"], apart := false, laid := [("pipewright/token.words", laid_pipewright_token_words)], narrowed := true }
def SyntaxParsesUptoSaid : Prop := syntaxParsesUptoRow.holds Tryd.pinned (OpenSpec.upto syntaxParsesSpec)

/-- 'pipewrightlaw.SyntaxSames', WHERE WHAT IT READS IS OF BULK AT MOST 1048576: true; the input reads as it did. -/
def syntaxSamesUptoRow : OpenClaim := { program := "ytdnlnpdaplonfabdoor", sum := "85ef45062fa1a14359b0e22466cb97cb13c03259eb29fcf6c4f305b800c18434", func := "pipewright/pipewrightlaw.SyntaxSames", spec := "syntaxSames", inPlace := ["internal/bytealg.IndexByteString"], unfollowed := true, recurses := true, named := ["pipewright/token.words"], loops := true, apart := false, laid := [("pipewright/token.words", laid_pipewright_token_words)], narrowed := true }
def SyntaxSamesUptoSaid : Prop := syntaxSamesUptoRow.holds Tryd.pinned (OpenSpec.upto syntaxSamesSpec)

/-- 'pipewrightlaw.SyntaxJoins', WHERE WHAT IT READS IS OF BULK AT MOST 1048576: true; the input reads as it did. -/
def syntaxJoinsUptoRow : OpenClaim := { program := "ytdnlnpdaplonfabdoor", sum := "85ef45062fa1a14359b0e22466cb97cb13c03259eb29fcf6c4f305b800c18434", func := "pipewright/pipewrightlaw.SyntaxJoins", spec := "syntaxJoins", inPlace := ["internal/bytealg.IndexByteString"], unfollowed := true, recurses := true, named := ["pipewright/token.words"], apart := false, laid := [("pipewright/token.words", laid_pipewright_token_words)], narrowed := true }
def SyntaxJoinsUptoSaid : Prop := syntaxJoinsUptoRow.holds Tryd.pinned (OpenSpec.upto syntaxJoinsSpec)

/-- 'pipewrightlaw.SyntaxStops', WHERE WHAT IT READS IS OF BULK AT MOST 1048576: true; the input reads as it did. -/
def syntaxStopsUptoRow : OpenClaim := { program := "ytdnlnpdaplonfabdoor", sum := "85ef45062fa1a14359b0e22466cb97cb13c03259eb29fcf6c4f305b800c18434", func := "pipewright/pipewrightlaw.SyntaxStops", spec := "syntaxStops", inPlace := ["internal/bytealg.IndexByteString"], unfollowed := true, recurses := true, named := ["pipewright/token.words"], apart := false, laid := [("pipewright/token.words", laid_pipewright_token_words)], narrowed := true }
def SyntaxStopsUptoSaid : Prop := syntaxStopsUptoRow.holds Tryd.pinned (OpenSpec.upto syntaxStopsSpec)

end Rows
end Go.Proofs.YtdnlnpdaplonfabDoor
