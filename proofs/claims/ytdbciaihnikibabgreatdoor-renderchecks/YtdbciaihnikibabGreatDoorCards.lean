/-
  DERIVED. GIVEN WITH THE SEED: THE CARDS: each row of YtdbciaihnikibabGreatDoorRows.lean that lists a variable, with what it lists TIED to the program's text (the seventh form; the later family's looks); each row that meets fmt, with fmt's text TOLD by the authors' own Lean function (tested against real Go, not proved from fmt's source: count such statements apart). THE CARD IS WHAT COUNTS. Prove the row's statement (the work); the ties are given (YtdbciaihnikibabGreatDoorTie.lean); close each card by the builder's one call (the guide's Derived/Test/ToyasCard.lean, 'card_holds'). Laid BY PROGRAM, IN A SANDBOX (cutbox-door.mjs). By AI agents, Wed Nov 11 2026. No macro, syntax, notation, axiom, sorry.
-/
import Derived.Test.YtdbciaihnikibabGreatDoorRows
import GoSem.ClaimSeven
namespace Go.Proofs.YtdbciaihnikibabGreatDoor
namespace Rows

/-- THE TIED CARD OF 'pipewrightlaw.RenderChecks'. -/
def renderChecksCard : Claim7 := { stood := { row := renderChecksRow, standIns := [], harness := (true, "59ac006ab4f903aea41063941a662485706e82d370a67de3f77fa68e138b7c27"), looks := false }, kinds := [], alts := [], laidByText := true, laidKinds := [.data, .data, .data, .data, .data, .data, .data, .pinned], laidTests := true, laidLooks := .later }
def RenderChecksCardSaid : Prop := Claim7.holds Tryz.pinned (.plain (OpenSpec.ofChange renderChecksSpec)) renderChecksCard

/-- THE SECOND FORM's CARD OF 'pipewrightlaw.RenderChecks'. -/
def renderChecksUptoCard : Claim7 := { stood := { row := renderChecksUptoRow, standIns := [], harness := (true, "59ac006ab4f903aea41063941a662485706e82d370a67de3f77fa68e138b7c27"), looks := false }, kinds := [], alts := [], laidByText := true, laidKinds := [.data, .data, .data, .data, .data, .data, .data, .pinned], laidTests := true, laidLooks := .later }
def RenderChecksUptoCardSaid : Prop := Claim7.holds Tryz.pinned (.plain (OpenSpec.upto renderChecksSpec)) renderChecksUptoCard
end Rows
end Go.Proofs.YtdbciaihnikibabGreatDoor
