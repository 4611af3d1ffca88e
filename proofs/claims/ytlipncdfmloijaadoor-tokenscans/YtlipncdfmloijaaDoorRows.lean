/-
  NARROWER THAN 'FOR EVERY INPUT', by the rows' own cells (each row's printed sentence says how): TextPlaces: laid · TextTells: laid · TextBack: laid · TextOrders: laid · TokenScans: laid · TokenCovers: laid.
  DERIVED. THE GIVEN ROWS OF THIS SEAT. 6 by the template 'for every input the law returns true; each argument reads behind the call as it read before'; 0 by the template 'total and deterministic' (their statements: YtlipncdfmloijaaDoorTotals.lean).
  GIVEN WITH THE SEED: the statements are not yours to turn. If you find one false, say at which input.
  Laid BY PROGRAM, IN A SANDBOX (cutbox-rows.mjs): the forced cells as the released guide's own fill.sh prints them over the translation 1a245dc0a13997aa… (all of the seat's roots in one cut). By AI agents, Wed Nov 11 2026. No macro, syntax, notation, axiom, sorry.
-/
import Derived.Test.YtlipncdfmloijaaDoorChecked
import GoSem.Claim
import GoSem.ClaimJoined
import GoSem.ClaimMapViews
import Derived.JoinedTies
import Derived.KernelRfl
namespace Go.Proofs.YtlipncdfmloijaaDoor
/- THE CELL 'sum', in the pinned program and in every row, IS THE sha256 OF THE DUMP (.gsa) THAT YtlipncdfmloijaaDoorProg.lean LOADS. Nothing in Lean hashes anything: it is a label: what it is worth is what the hold of that sum in a sandbox is worth. -/
noncomputable def Tryd.pinned : Pinned := { name := "ytlipncdfmloijaadoor", sum := "1a245dc0a13997aae91b4edf4ddaf4e576f9d25c4a5b4a5174910ec7a9d8f406", checked := Tryd.checked }
namespace Rows
def none {H : Type} : Left H := { results := [], args := [] }

/- WHAT THE LISTED PACKAGE-LEVEL VARIABLES READ AS WHEN THE CALL BEGINS. Each datum BY PROGRAM (the guide's laid-datum.mjs) off the statement by which the dump's own 'gosem.cut.vars' lays the variable. In a bare row this is a premise. The card (YtlipncdfmloijaaDoorCards.lean) ties it to the program's text. -/
def laid_pipewright_text_words {H : Type} : DataW H := .agg [.lit (.string []), .lit (.string [115, 105, 122, 101]), .lit (.string [116, 101, 120, 116]), .lit (.string [110, 117, 109, 98, 101, 114]), .lit (.string [110, 97, 109, 101]), .lit (.string [102, 111, 114, 109]), .lit (.string [115, 104, 111, 114, 116]), .lit (.string [100, 101, 101, 112]), .lit (.string [109, 97, 110, 121]), .lit (.string [116, 119, 105, 99, 101]), .lit (.string [110, 111, 110, 101]), .lit (.string [116, 121, 112, 101]), .lit (.string [115, 116, 97, 103, 101]), .lit (.string [109, 97, 105, 110]), .lit (.string [114, 97, 110, 103, 101]), .lit (.string [99, 111, 117, 110, 116]), .lit (.string [99, 111, 100, 101]), .lit (.string [114, 111, 117, 110, 100])]
def laid_math_bits_deBruijn32tab {H : Type} : DataW H := .agg [.lit (.int .u8 0), .lit (.int .u8 1), .lit (.int .u8 28), .lit (.int .u8 2), .lit (.int .u8 29), .lit (.int .u8 14), .lit (.int .u8 24), .lit (.int .u8 3), .lit (.int .u8 30), .lit (.int .u8 22), .lit (.int .u8 20), .lit (.int .u8 15), .lit (.int .u8 25), .lit (.int .u8 17), .lit (.int .u8 4), .lit (.int .u8 8), .lit (.int .u8 31), .lit (.int .u8 27), .lit (.int .u8 13), .lit (.int .u8 23), .lit (.int .u8 21), .lit (.int .u8 19), .lit (.int .u8 16), .lit (.int .u8 7), .lit (.int .u8 26), .lit (.int .u8 12), .lit (.int .u8 18), .lit (.int .u8 6), .lit (.int .u8 11), .lit (.int .u8 5), .lit (.int .u8 10), .lit (.int .u8 9)]
def laid_math_bits_deBruijn64tab {H : Type} : DataW H := .agg [.lit (.int .u8 0), .lit (.int .u8 1), .lit (.int .u8 56), .lit (.int .u8 2), .lit (.int .u8 57), .lit (.int .u8 49), .lit (.int .u8 28), .lit (.int .u8 3), .lit (.int .u8 61), .lit (.int .u8 58), .lit (.int .u8 42), .lit (.int .u8 50), .lit (.int .u8 38), .lit (.int .u8 29), .lit (.int .u8 17), .lit (.int .u8 4), .lit (.int .u8 62), .lit (.int .u8 47), .lit (.int .u8 59), .lit (.int .u8 36), .lit (.int .u8 45), .lit (.int .u8 43), .lit (.int .u8 51), .lit (.int .u8 22), .lit (.int .u8 53), .lit (.int .u8 39), .lit (.int .u8 33), .lit (.int .u8 30), .lit (.int .u8 24), .lit (.int .u8 18), .lit (.int .u8 12), .lit (.int .u8 5), .lit (.int .u8 63), .lit (.int .u8 55), .lit (.int .u8 48), .lit (.int .u8 27), .lit (.int .u8 60), .lit (.int .u8 41), .lit (.int .u8 37), .lit (.int .u8 16), .lit (.int .u8 46), .lit (.int .u8 35), .lit (.int .u8 44), .lit (.int .u8 21), .lit (.int .u8 52), .lit (.int .u8 32), .lit (.int .u8 23), .lit (.int .u8 11), .lit (.int .u8 54), .lit (.int .u8 26), .lit (.int .u8 40), .lit (.int .u8 15), .lit (.int .u8 34), .lit (.int .u8 20), .lit (.int .u8 31), .lit (.int .u8 10), .lit (.int .u8 25), .lit (.int .u8 14), .lit (.int .u8 19), .lit (.int .u8 9), .lit (.int .u8 13), .lit (.int .u8 8), .lit (.int .u8 7), .lit (.int .u8 6)]
def laid_internal_strconv_uint64pow10 {H : Type} : DataW H := .agg [.lit (.int .u64 1), .lit (.int .u64 10), .lit (.int .u64 100), .lit (.int .u64 1000), .lit (.int .u64 10000), .lit (.int .u64 100000), .lit (.int .u64 1000000), .lit (.int .u64 10000000), .lit (.int .u64 100000000), .lit (.int .u64 1000000000), .lit (.int .u64 10000000000), .lit (.int .u64 100000000000), .lit (.int .u64 1000000000000), .lit (.int .u64 10000000000000), .lit (.int .u64 100000000000000), .lit (.int .u64 1000000000000000), .lit (.int .u64 10000000000000000), .lit (.int .u64 100000000000000000), .lit (.int .u64 1000000000000000000), .lit (.int .u64 10000000000000000000)]
def laid_pipewright_token_words {H : Type} : DataW H := .agg [.lit (.string [97, 98, 97, 110, 100, 111, 110]), .lit (.string [99, 104, 97, 110]), .lit (.string [99, 108, 111, 110, 101]), .lit (.string [99, 108, 111, 115, 101]), .lit (.string [100, 114, 97, 105, 110]), .lit (.string [101, 108, 115, 101]), .lit (.string [101, 109, 105, 116]), .lit (.string [102, 111, 114]), .lit (.string [102, 114, 111, 109]), .lit (.string [105, 102]), .lit (.string [105, 110, 116]), .lit (.string [108, 101, 116]), .lit (.string [114, 101, 99, 118]), .lit (.string [114, 101, 112, 101, 97, 116]), .lit (.string [115, 101, 110, 100]), .lit (.string [115, 101, 116]), .lit (.string [115, 112, 97, 119, 110]), .lit (.string [115, 116, 97, 103, 101]), .lit (.string [116, 97, 107, 101])]

/-- 'pipewrightlaw.TextPlaces': WHATEVER THE INPUT: true; the input reads as it did. -/
def textPlacesSpec : ChangeSpec := { name := "textPlaces", fn := fun _ => fun
  | [d1, d2] => { results := [.lit (.bool true)], args := [d1, d2] }
  | _ => none }
def textPlacesRow : OpenClaim := { program := "ytlipncdfmloijaadoor", sum := "1a245dc0a13997aae91b4edf4ddaf4e576f9d25c4a5b4a5174910ec7a9d8f406", func := "pipewright/pipewrightlaw.TextPlaces", spec := "textPlaces", unfollowed := true, recurses := true, named := ["pipewright/text.words"], apart := false, laid := [("pipewright/text.words", laid_pipewright_text_words)] }
def TextPlacesSaid : Prop := textPlacesRow.holds Tryd.pinned (OpenSpec.ofChange textPlacesSpec)

/-- ITS FALSE NEIGHBOUR: 'it returns false'. Refute it at one input. -/
def textPlacesWrong : ChangeSpec := { name := "textPlaces", fn := fun _ => fun
  | [d1, d2] => { results := [.lit (.bool false)], args := [d1, d2] }
  | _ => none }
def TextPlacesWrongFalsely : Prop := textPlacesRow.holds Tryd.pinned (OpenSpec.ofChange textPlacesWrong)

/-- 'pipewrightlaw.TextTells': WHATEVER THE INPUT: true; the input reads as it did. -/
def textTellsSpec : ChangeSpec := { name := "textTells", fn := fun _ => fun
  | [d1, d2, d3] => { results := [.lit (.bool true)], args := [d1, d2, d3] }
  | _ => none }
def textTellsRow : OpenClaim := { program := "ytlipncdfmloijaadoor", sum := "1a245dc0a13997aae91b4edf4ddaf4e576f9d25c4a5b4a5174910ec7a9d8f406", func := "pipewright/pipewrightlaw.TextTells", spec := "textTells", inPlace := ["internal/abi.NoEscape"], unfollowed := true, recurses := true, named := ["pipewright/text.words", "internal/strconv.uint64pow10", "math/bits.deBruijn32tab", "math/bits.deBruijn64tab"], apart := false, laid := [("math/bits.deBruijn32tab", laid_math_bits_deBruijn32tab), ("math/bits.deBruijn64tab", laid_math_bits_deBruijn64tab), ("internal/strconv.uint64pow10", laid_internal_strconv_uint64pow10), ("pipewright/text.words", laid_pipewright_text_words)] }
def TextTellsSaid : Prop := textTellsRow.holds Tryd.pinned (OpenSpec.ofChange textTellsSpec)

/-- ITS FALSE NEIGHBOUR: 'it returns false'. Refute it at one input. -/
def textTellsWrong : ChangeSpec := { name := "textTells", fn := fun _ => fun
  | [d1, d2, d3] => { results := [.lit (.bool false)], args := [d1, d2, d3] }
  | _ => none }
def TextTellsWrongFalsely : Prop := textTellsRow.holds Tryd.pinned (OpenSpec.ofChange textTellsWrong)

/-- 'pipewrightlaw.TextBack': WHATEVER THE INPUT: true; the input reads as it did. -/
def textBackSpec : ChangeSpec := { name := "textBack", fn := fun _ => fun
  | [d1, d2, d3] => { results := [.lit (.bool true)], args := [d1, d2, d3] }
  | _ => none }
def textBackRow : OpenClaim := { program := "ytlipncdfmloijaadoor", sum := "1a245dc0a13997aae91b4edf4ddaf4e576f9d25c4a5b4a5174910ec7a9d8f406", func := "pipewright/pipewrightlaw.TextBack", spec := "textBack", unfollowed := true, recurses := true, named := ["pipewright/text.words"], apart := false, laid := [("pipewright/text.words", laid_pipewright_text_words)] }
def TextBackSaid : Prop := textBackRow.holds Tryd.pinned (OpenSpec.ofChange textBackSpec)

/-- ITS FALSE NEIGHBOUR: 'it returns false'. Refute it at one input. -/
def textBackWrong : ChangeSpec := { name := "textBack", fn := fun _ => fun
  | [d1, d2, d3] => { results := [.lit (.bool false)], args := [d1, d2, d3] }
  | _ => none }
def TextBackWrongFalsely : Prop := textBackRow.holds Tryd.pinned (OpenSpec.ofChange textBackWrong)

/-- 'pipewrightlaw.TextOrders': WHATEVER THE INPUT: true; the input reads as it did. -/
def textOrdersSpec : ChangeSpec := { name := "textOrders", fn := fun _ => fun
  | [d] => { results := [.lit (.bool true)], args := [d] }
  | _ => none }
def textOrdersRow : OpenClaim := { program := "ytlipncdfmloijaadoor", sum := "1a245dc0a13997aae91b4edf4ddaf4e576f9d25c4a5b4a5174910ec7a9d8f406", func := "pipewright/pipewrightlaw.TextOrders", spec := "textOrders", unfollowed := true, recurses := true, named := ["pipewright/text.words"], apart := false, laid := [("pipewright/text.words", laid_pipewright_text_words)] }
def TextOrdersSaid : Prop := textOrdersRow.holds Tryd.pinned (OpenSpec.ofChange textOrdersSpec)

/-- ITS FALSE NEIGHBOUR: 'it returns false'. Refute it at one input. -/
def textOrdersWrong : ChangeSpec := { name := "textOrders", fn := fun _ => fun
  | [d] => { results := [.lit (.bool false)], args := [d] }
  | _ => none }
def TextOrdersWrongFalsely : Prop := textOrdersRow.holds Tryd.pinned (OpenSpec.ofChange textOrdersWrong)

/-- 'pipewrightlaw.TokenScans': WHATEVER THE INPUT: true; the input reads as it did. -/
def tokenScansSpec : ChangeSpec := { name := "tokenScans", fn := fun _ => fun
  | [d] => { results := [.lit (.bool true)], args := [d] }
  | _ => none }
def tokenScansRow : OpenClaim := { program := "ytlipncdfmloijaadoor", sum := "1a245dc0a13997aae91b4edf4ddaf4e576f9d25c4a5b4a5174910ec7a9d8f406", func := "pipewright/pipewrightlaw.TokenScans", spec := "tokenScans", inPlace := ["internal/bytealg.IndexByteString"], named := ["pipewright/token.words"], apart := false, laid := [("pipewright/token.words", laid_pipewright_token_words)] }
def TokenScansSaid : Prop := tokenScansRow.holds Tryd.pinned (OpenSpec.ofChange tokenScansSpec)

/-- ITS FALSE NEIGHBOUR: 'it returns false'. Refute it at one input. -/
def tokenScansWrong : ChangeSpec := { name := "tokenScans", fn := fun _ => fun
  | [d] => { results := [.lit (.bool false)], args := [d] }
  | _ => none }
def TokenScansWrongFalsely : Prop := tokenScansRow.holds Tryd.pinned (OpenSpec.ofChange tokenScansWrong)

/-- 'pipewrightlaw.TokenCovers': WHATEVER THE INPUT: true; the input reads as it did. -/
def tokenCoversSpec : ChangeSpec := { name := "tokenCovers", fn := fun _ => fun
  | [d] => { results := [.lit (.bool true)], args := [d] }
  | _ => none }
def tokenCoversRow : OpenClaim := { program := "ytlipncdfmloijaadoor", sum := "1a245dc0a13997aae91b4edf4ddaf4e576f9d25c4a5b4a5174910ec7a9d8f406", func := "pipewright/pipewrightlaw.TokenCovers", spec := "tokenCovers", inPlace := ["internal/bytealg.IndexByteString"], named := ["pipewright/token.words"], apart := false, laid := [("pipewright/token.words", laid_pipewright_token_words)] }
def TokenCoversSaid : Prop := tokenCoversRow.holds Tryd.pinned (OpenSpec.ofChange tokenCoversSpec)

/-- ITS FALSE NEIGHBOUR: 'it returns false'. Refute it at one input. -/
def tokenCoversWrong : ChangeSpec := { name := "tokenCovers", fn := fun _ => fun
  | [d] => { results := [.lit (.bool false)], args := [d] }
  | _ => none }
def TokenCoversWrongFalsely : Prop := tokenCoversRow.holds Tryd.pinned (OpenSpec.ofChange tokenCoversWrong)

/- THE SECOND FORM. 'bulk': how many values and letters a reading holds, each counted each time it is reached (what is shared counts as often as it is met; a slice's spare places count too). A statement '..UptoSaid' is the law's where the arguments, and the package variables that the reading takes, are together of bulk at most 1048576: NARROWER than '..Said'. Prove '..Said' where nothing that the law and all that it calls make is longer than what came in: it says more and counts as full. Else prove '..UptoSaid'. A law counts once. -/
mutual
def uptoBulk {H : Type} : DataW H → Nat
  | .lit (.string bytes) => bytes.length + 1
  | .lit _ => 1
  | .nil => 1
  | .ptr d => uptoBulk d + 1
  | .slice elems spare => uptoBulkAll elems + uptoBulkAll spare + 1
  | .agg parts => uptoBulkAll parts + 1
  | .iface _ d => uptoBulk d + 1
  | .map entries => uptoBulkEntries entries + 1
  | .held _ => 1
def uptoBulkAll {H : Type} : List (DataW H) → Nat
  | [] => 0
  | d :: r => uptoBulk d + uptoBulkAll r
def uptoBulkEntries {H : Type} : List (Lit × DataW H) → Nat
  | [] => 0
  | x :: r => uptoBulkEntry x + uptoBulkEntries r
def uptoBulkEntry {H : Type} : Lit × DataW H → Nat
  | (.string bytes, d) => bytes.length + uptoBulk d + 1
  | (_, d) => uptoBulk d + 1
 end
def uptoSmall : (H : Type) → List (DataW H) → Bool := fun _ ds => decide (uptoBulkAll ds ≤ 1048576)
def OpenSpec.upto (s : _root_.Go.ChangeSpec) : _root_.Go.OpenSpec := { _root_.Go.OpenSpec.ofChange s with cond := some uptoSmall }

/-- 'pipewrightlaw.TextPlaces', WHERE WHAT IT READS IS OF BULK AT MOST 1048576: true; the input reads as it did. -/
def textPlacesUptoRow : OpenClaim := { program := "ytlipncdfmloijaadoor", sum := "1a245dc0a13997aae91b4edf4ddaf4e576f9d25c4a5b4a5174910ec7a9d8f406", func := "pipewright/pipewrightlaw.TextPlaces", spec := "textPlaces", unfollowed := true, recurses := true, named := ["pipewright/text.words"], apart := false, laid := [("pipewright/text.words", laid_pipewright_text_words)], narrowed := true }
def TextPlacesUptoSaid : Prop := textPlacesUptoRow.holds Tryd.pinned (OpenSpec.upto textPlacesSpec)

/-- 'pipewrightlaw.TextTells', WHERE WHAT IT READS IS OF BULK AT MOST 1048576: true; the input reads as it did. -/
def textTellsUptoRow : OpenClaim := { program := "ytlipncdfmloijaadoor", sum := "1a245dc0a13997aae91b4edf4ddaf4e576f9d25c4a5b4a5174910ec7a9d8f406", func := "pipewright/pipewrightlaw.TextTells", spec := "textTells", inPlace := ["internal/abi.NoEscape"], unfollowed := true, recurses := true, named := ["pipewright/text.words", "internal/strconv.uint64pow10", "math/bits.deBruijn32tab", "math/bits.deBruijn64tab"], apart := false, laid := [("math/bits.deBruijn32tab", laid_math_bits_deBruijn32tab), ("math/bits.deBruijn64tab", laid_math_bits_deBruijn64tab), ("internal/strconv.uint64pow10", laid_internal_strconv_uint64pow10), ("pipewright/text.words", laid_pipewright_text_words)], narrowed := true }
def TextTellsUptoSaid : Prop := textTellsUptoRow.holds Tryd.pinned (OpenSpec.upto textTellsSpec)

/-- 'pipewrightlaw.TextBack', WHERE WHAT IT READS IS OF BULK AT MOST 1048576: true; the input reads as it did. -/
def textBackUptoRow : OpenClaim := { program := "ytlipncdfmloijaadoor", sum := "1a245dc0a13997aae91b4edf4ddaf4e576f9d25c4a5b4a5174910ec7a9d8f406", func := "pipewright/pipewrightlaw.TextBack", spec := "textBack", unfollowed := true, recurses := true, named := ["pipewright/text.words"], apart := false, laid := [("pipewright/text.words", laid_pipewright_text_words)], narrowed := true }
def TextBackUptoSaid : Prop := textBackUptoRow.holds Tryd.pinned (OpenSpec.upto textBackSpec)

/-- 'pipewrightlaw.TextOrders', WHERE WHAT IT READS IS OF BULK AT MOST 1048576: true; the input reads as it did. -/
def textOrdersUptoRow : OpenClaim := { program := "ytlipncdfmloijaadoor", sum := "1a245dc0a13997aae91b4edf4ddaf4e576f9d25c4a5b4a5174910ec7a9d8f406", func := "pipewright/pipewrightlaw.TextOrders", spec := "textOrders", unfollowed := true, recurses := true, named := ["pipewright/text.words"], apart := false, laid := [("pipewright/text.words", laid_pipewright_text_words)], narrowed := true }
def TextOrdersUptoSaid : Prop := textOrdersUptoRow.holds Tryd.pinned (OpenSpec.upto textOrdersSpec)

/-- 'pipewrightlaw.TokenScans', WHERE WHAT IT READS IS OF BULK AT MOST 1048576: true; the input reads as it did. -/
def tokenScansUptoRow : OpenClaim := { program := "ytlipncdfmloijaadoor", sum := "1a245dc0a13997aae91b4edf4ddaf4e576f9d25c4a5b4a5174910ec7a9d8f406", func := "pipewright/pipewrightlaw.TokenScans", spec := "tokenScans", inPlace := ["internal/bytealg.IndexByteString"], named := ["pipewright/token.words"], apart := false, laid := [("pipewright/token.words", laid_pipewright_token_words)], narrowed := true }
def TokenScansUptoSaid : Prop := tokenScansUptoRow.holds Tryd.pinned (OpenSpec.upto tokenScansSpec)

/-- 'pipewrightlaw.TokenCovers', WHERE WHAT IT READS IS OF BULK AT MOST 1048576: true; the input reads as it did. -/
def tokenCoversUptoRow : OpenClaim := { program := "ytlipncdfmloijaadoor", sum := "1a245dc0a13997aae91b4edf4ddaf4e576f9d25c4a5b4a5174910ec7a9d8f406", func := "pipewright/pipewrightlaw.TokenCovers", spec := "tokenCovers", inPlace := ["internal/bytealg.IndexByteString"], named := ["pipewright/token.words"], apart := false, laid := [("pipewright/token.words", laid_pipewright_token_words)], narrowed := true }
def TokenCoversUptoSaid : Prop := tokenCoversUptoRow.holds Tryd.pinned (OpenSpec.upto tokenCoversSpec)

end Rows
end Go.Proofs.YtlipncdfmloijaaDoor
