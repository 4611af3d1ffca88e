/-
  DERIVED. GIVEN WITH THE SEED: THE CARDS: each row of YtcdcoiobpbdmpaaGreatDoorRows.lean that lists a variable, with what it lists TIED to the program's text (the seventh form; the later family's looks); each row that meets fmt, with fmt's text TOLD by the authors' own Lean function (tested against real Go, not proved from fmt's source: count such statements apart). THE CARD IS WHAT COUNTS. Prove the row's statement (the work); the ties are given (YtcdcoiobpbdmpaaGreatDoorTie.lean); close each card by the builder's one call (the guide's Derived/Test/ToyasCard.lean, 'card_holds'). Laid BY PROGRAM, IN A SANDBOX (cutbox-door.mjs). By AI agents, Wed Nov 11 2026. No macro, syntax, notation, axiom, sorry.
-/
import Derived.Test.YtcdcoiobpbdmpaaGreatDoorRows
import GoSem.ClaimSeven
namespace Go.Proofs.YtcdcoiobpbdmpaaGreatDoor
namespace Rows

/-- THE TIED CARD OF 'pipewrightlaw.LowerRuns'. -/
def lowerRunsCard : Claim7 := { stood := { row := lowerRunsRow, standIns := [], harness := (true, "22b7f63ee14da447ec5a0ae4d3e1e08cadd468f34b24677ed5d9e4cb39193fb2"), looks := true }, kinds := [], alts := [], laidByText := true, laidKinds := [.data, .data, .data, .data, .data, .data, .data, .pinned], laidTests := true, laidLooks := .later }
def LowerRunsCardSaid : Prop := Claim7.holds Tryz.pinned (.plain (OpenSpec.ofChange lowerRunsSpec)) lowerRunsCard

/-- THE TIED CARD OF 'pipewrightlaw.LowerCuts'. -/
def lowerCutsCard : Claim7 := { stood := { row := lowerCutsRow, standIns := [], harness := (true, "22b7f63ee14da447ec5a0ae4d3e1e08cadd468f34b24677ed5d9e4cb39193fb2"), looks := true }, kinds := [], alts := [], laidByText := true, laidKinds := [.data, .data, .data, .data, .data, .data, .data, .pinned], laidTests := true, laidLooks := .later }
def LowerCutsCardSaid : Prop := Claim7.holds Tryz.pinned (.plain (OpenSpec.ofChange lowerCutsSpec)) lowerCutsCard

/-- THE SECOND FORM's CARD OF 'pipewrightlaw.LowerRuns'. -/
def lowerRunsUptoCard : Claim7 := { stood := { row := lowerRunsUptoRow, standIns := [], harness := (true, "22b7f63ee14da447ec5a0ae4d3e1e08cadd468f34b24677ed5d9e4cb39193fb2"), looks := true }, kinds := [], alts := [], laidByText := true, laidKinds := [.data, .data, .data, .data, .data, .data, .data, .pinned], laidTests := true, laidLooks := .later }
def LowerRunsUptoCardSaid : Prop := Claim7.holds Tryz.pinned (.plain (OpenSpec.upto lowerRunsSpec)) lowerRunsUptoCard

/-- THE SECOND FORM's CARD OF 'pipewrightlaw.LowerCuts'. -/
def lowerCutsUptoCard : Claim7 := { stood := { row := lowerCutsUptoRow, standIns := [], harness := (true, "22b7f63ee14da447ec5a0ae4d3e1e08cadd468f34b24677ed5d9e4cb39193fb2"), looks := true }, kinds := [], alts := [], laidByText := true, laidKinds := [.data, .data, .data, .data, .data, .data, .data, .pinned], laidTests := true, laidLooks := .later }
def LowerCutsUptoCardSaid : Prop := Claim7.holds Tryz.pinned (.plain (OpenSpec.upto lowerCutsSpec)) lowerCutsUptoCard
end Rows
end Go.Proofs.YtcdcoiobpbdmpaaGreatDoor
