/-
  DERIVED. GIVEN WITH THE SEED: THE CARDS: each row of YteeocekjekclbaaGreatDoorRows.lean that lists a variable, with what it lists TIED to the program's text (the seventh form; the later family's looks); each row that meets fmt, with fmt's text TOLD by the authors' own Lean function (tested against real Go, not proved from fmt's source: count such statements apart). THE CARD IS WHAT COUNTS. Prove the row's statement (the work); the ties are given (YteeocekjekclbaaGreatDoorTie.lean); close each card by the builder's one call (the guide's Derived/Test/ToyasCard.lean, 'card_holds'). Laid BY PROGRAM, IN A SANDBOX (cutbox-door.mjs). By AI agents, Wed Nov 11 2026. No macro, syntax, notation, axiom, sorry.
-/
import Derived.Test.YteeocekjekclbaaGreatDoorRows
import GoSem.ClaimSeven
namespace Go.Proofs.YteeocekjekclbaaGreatDoor
namespace Rows

/-- THE TIED CARD OF 'pipewrightlaw.OwnActs'. -/
def ownActsCard : Claim7 := { stood := { row := ownActsRow, standIns := [], harness := (true, "6e92c02cab667906bba61a9ccb564fe212735a6906215f1741d08bcf44d2c2ac"), looks := true }, kinds := [], alts := [], laidByText := true, laidKinds := [.data, .data, .data, .data, .data, .data, .data, .pinned], laidTests := true, laidLooks := .later }
def OwnActsCardSaid : Prop := Claim7.holds Tryz.pinned (.plain (OpenSpec.ofChange ownActsSpec)) ownActsCard

/-- THE SECOND FORM's CARD OF 'pipewrightlaw.OwnActs'. -/
def ownActsUptoCard : Claim7 := { stood := { row := ownActsUptoRow, standIns := [], harness := (true, "6e92c02cab667906bba61a9ccb564fe212735a6906215f1741d08bcf44d2c2ac"), looks := true }, kinds := [], alts := [], laidByText := true, laidKinds := [.data, .data, .data, .data, .data, .data, .data, .pinned], laidTests := true, laidLooks := .later }
def OwnActsUptoCardSaid : Prop := Claim7.holds Tryz.pinned (.plain (OpenSpec.upto ownActsSpec)) ownActsUptoCard
end Rows
end Go.Proofs.YteeocekjekclbaaGreatDoor
