/-
  DERIVED. GIVEN WITH THE SEED: THE CARDS: each row of YtbhhkaobkdeolaaGreatDoorRows.lean that lists a variable, with what it lists TIED to the program's text (the seventh form; the later family's looks); each row that meets fmt, with fmt's text TOLD by the authors' own Lean function (tested against real Go, not proved from fmt's source: count such statements apart). THE CARD IS WHAT COUNTS. Prove the row's statement (the work); the ties are given (YtbhhkaobkdeolaaGreatDoorTie.lean); close each card by the builder's one call (the guide's Derived/Test/ToyasCard.lean, 'card_holds'). Laid BY PROGRAM, IN A SANDBOX (cutbox-door.mjs). By AI agents, Wed Nov 11 2026. No macro, syntax, notation, axiom, sorry.
-/
import Derived.Test.YtbhhkaobkdeolaaGreatDoorRows
import GoSem.ClaimSeven
namespace Go.Proofs.YtbhhkaobkdeolaaGreatDoor
namespace Rows

/-- THE TIED CARD OF 'pipewrightlaw.LowerChecks'. -/
def lowerChecksCard : Claim7 := { stood := { row := lowerChecksRow, standIns := [], harness := (true, "e1b9fd663b2430a43d7cda4c83ab739085a39b9d8505fa08807a9762533d586c"), looks := true }, kinds := [], alts := [], laidByText := true, laidKinds := [.data, .data, .data, .data, .data, .data, .data, .pinned], laidTests := true, laidLooks := .later }
def LowerChecksCardSaid : Prop := Claim7.holds Tryz.pinned (.plain (OpenSpec.ofChange lowerChecksSpec)) lowerChecksCard

/-- THE SECOND FORM's CARD OF 'pipewrightlaw.LowerChecks'. -/
def lowerChecksUptoCard : Claim7 := { stood := { row := lowerChecksUptoRow, standIns := [], harness := (true, "e1b9fd663b2430a43d7cda4c83ab739085a39b9d8505fa08807a9762533d586c"), looks := true }, kinds := [], alts := [], laidByText := true, laidKinds := [.data, .data, .data, .data, .data, .data, .data, .pinned], laidTests := true, laidLooks := .later }
def LowerChecksUptoCardSaid : Prop := Claim7.holds Tryz.pinned (.plain (OpenSpec.upto lowerChecksSpec)) lowerChecksUptoCard
end Rows
end Go.Proofs.YtbhhkaobkdeolaaGreatDoor
