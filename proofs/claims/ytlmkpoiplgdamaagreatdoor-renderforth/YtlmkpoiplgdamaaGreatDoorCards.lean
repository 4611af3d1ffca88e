/-
  DERIVED. GIVEN WITH THE SEED: THE CARDS: each row of YtlmkpoiplgdamaaGreatDoorRows.lean that lists a variable, with what it lists TIED to the program's text (the seventh form; the later family's looks); each row that meets fmt, with fmt's text TOLD by the authors' own Lean function (tested against real Go, not proved from fmt's source: count such statements apart). THE CARD IS WHAT COUNTS. Prove the row's statement (the work); the ties are given (YtlmkpoiplgdamaaGreatDoorTie.lean); close each card by the builder's one call (the guide's Derived/Test/ToyasCard.lean, 'card_holds'). Laid BY PROGRAM, IN A SANDBOX (cutbox-door.mjs). By AI agents, Wed Nov 11 2026. No macro, syntax, notation, axiom, sorry.
-/
import Derived.Test.YtlmkpoiplgdamaaGreatDoorRows
import GoSem.ClaimSeven
namespace Go.Proofs.YtlmkpoiplgdamaaGreatDoor
namespace Rows

/-- THE TIED CARD OF 'pipewrightlaw.RenderForth'. -/
def renderForthCard : Claim7 := { stood := { row := renderForthRow, standIns := [], harness := (true, "221c4f4b79330b1020e19fca6532d4001753b63fd4d9949883a02e50444affac"), looks := true }, kinds := [], alts := [], laidByText := true, laidKinds := [.data, .data, .data, .data, .data, .data, .data, .pinned], laidTests := true, laidLooks := .later }
def RenderForthCardSaid : Prop := Claim7.holds Tryz.pinned (.plain (OpenSpec.ofChange renderForthSpec)) renderForthCard

/-- THE SECOND FORM's CARD OF 'pipewrightlaw.RenderForth'. -/
def renderForthUptoCard : Claim7 := { stood := { row := renderForthUptoRow, standIns := [], harness := (true, "221c4f4b79330b1020e19fca6532d4001753b63fd4d9949883a02e50444affac"), looks := true }, kinds := [], alts := [], laidByText := true, laidKinds := [.data, .data, .data, .data, .data, .data, .data, .pinned], laidTests := true, laidLooks := .later }
def RenderForthUptoCardSaid : Prop := Claim7.holds Tryz.pinned (.plain (OpenSpec.upto renderForthSpec)) renderForthUptoCard
end Rows
end Go.Proofs.YtlmkpoiplgdamaaGreatDoor
