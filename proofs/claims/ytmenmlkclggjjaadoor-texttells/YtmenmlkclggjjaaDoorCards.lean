/-
  DERIVED. GIVEN WITH THE SEED: THE CARDS: each row of YtmenmlkclggjjaaDoorRows.lean that lists a variable, with what it lists TIED to the program's text (the seventh form; the later family's looks); each row that meets fmt, with fmt's text TOLD by the authors' own Lean function (tested against real Go, not proved from fmt's source: count such statements apart). THE CARD IS WHAT COUNTS. Prove the row's statement (the work); the ties are given (YtmenmlkclggjjaaDoorTie.lean); close each card by the builder's one call (the guide's Derived/Test/ToyasCard.lean, 'card_holds'). Laid BY PROGRAM, IN A SANDBOX (cutbox-door.mjs). By AI agents, Wed Nov 11 2026. No macro, syntax, notation, axiom, sorry.
-/
import Derived.Test.YtmenmlkclggjjaaDoorRows
import GoSem.ClaimSeven
namespace Go.Proofs.YtmenmlkclggjjaaDoor
namespace Rows

/-- THE TIED CARD OF 'pipewrightlaw.TextPlaces'. -/
def textPlacesCard : Claim7 := { stood := { row := textPlacesRow, standIns := [], harness := (true, "6a8fab5ea53dabd2a3a99f197b6fa09ea06a0f6735bd4b87101c6b37ce48bad1"), looks := false }, kinds := [], alts := [], laidByText := true, laidKinds := [.data], laidTests := true, laidLooks := .later }
def TextPlacesCardSaid : Prop := Claim7.holds Tryd.pinned (.plain (OpenSpec.ofChange textPlacesSpec)) textPlacesCard

/-- THE TIED CARD OF 'pipewrightlaw.TextTells'. -/
def textTellsCard : Claim7 := { stood := { row := textTellsRow, standIns := [], harness := (true, "6a8fab5ea53dabd2a3a99f197b6fa09ea06a0f6735bd4b87101c6b37ce48bad1"), looks := false }, kinds := [], alts := [], laidByText := true, laidKinds := [.data, .data, .data, .data], laidTests := true, laidLooks := .later }
def TextTellsCardSaid : Prop := Claim7.holds Tryd.pinned (.plain (OpenSpec.ofChange textTellsSpec)) textTellsCard

/-- THE TIED CARD OF 'pipewrightlaw.TextBack'. -/
def textBackCard : Claim7 := { stood := { row := textBackRow, standIns := [], harness := (true, "6a8fab5ea53dabd2a3a99f197b6fa09ea06a0f6735bd4b87101c6b37ce48bad1"), looks := false }, kinds := [], alts := [], laidByText := true, laidKinds := [.data], laidTests := true, laidLooks := .later }
def TextBackCardSaid : Prop := Claim7.holds Tryd.pinned (.plain (OpenSpec.ofChange textBackSpec)) textBackCard

/-- THE TIED CARD OF 'pipewrightlaw.TextOrders'. -/
def textOrdersCard : Claim7 := { stood := { row := textOrdersRow, standIns := [], harness := (true, "6a8fab5ea53dabd2a3a99f197b6fa09ea06a0f6735bd4b87101c6b37ce48bad1"), looks := false }, kinds := [], alts := [], laidByText := true, laidKinds := [.data], laidTests := true, laidLooks := .later }
def TextOrdersCardSaid : Prop := Claim7.holds Tryd.pinned (.plain (OpenSpec.ofChange textOrdersSpec)) textOrdersCard

/-- THE SECOND FORM's CARD OF 'pipewrightlaw.TextPlaces'. -/
def textPlacesUptoCard : Claim7 := { stood := { row := textPlacesUptoRow, standIns := [], harness := (true, "6a8fab5ea53dabd2a3a99f197b6fa09ea06a0f6735bd4b87101c6b37ce48bad1"), looks := false }, kinds := [], alts := [], laidByText := true, laidKinds := [.data], laidTests := true, laidLooks := .later }
def TextPlacesUptoCardSaid : Prop := Claim7.holds Tryd.pinned (.plain (OpenSpec.upto textPlacesSpec)) textPlacesUptoCard

/-- THE SECOND FORM's CARD OF 'pipewrightlaw.TextTells'. -/
def textTellsUptoCard : Claim7 := { stood := { row := textTellsUptoRow, standIns := [], harness := (true, "6a8fab5ea53dabd2a3a99f197b6fa09ea06a0f6735bd4b87101c6b37ce48bad1"), looks := false }, kinds := [], alts := [], laidByText := true, laidKinds := [.data, .data, .data, .data], laidTests := true, laidLooks := .later }
def TextTellsUptoCardSaid : Prop := Claim7.holds Tryd.pinned (.plain (OpenSpec.upto textTellsSpec)) textTellsUptoCard

/-- THE SECOND FORM's CARD OF 'pipewrightlaw.TextBack'. -/
def textBackUptoCard : Claim7 := { stood := { row := textBackUptoRow, standIns := [], harness := (true, "6a8fab5ea53dabd2a3a99f197b6fa09ea06a0f6735bd4b87101c6b37ce48bad1"), looks := false }, kinds := [], alts := [], laidByText := true, laidKinds := [.data], laidTests := true, laidLooks := .later }
def TextBackUptoCardSaid : Prop := Claim7.holds Tryd.pinned (.plain (OpenSpec.upto textBackSpec)) textBackUptoCard

/-- THE SECOND FORM's CARD OF 'pipewrightlaw.TextOrders'. -/
def textOrdersUptoCard : Claim7 := { stood := { row := textOrdersUptoRow, standIns := [], harness := (true, "6a8fab5ea53dabd2a3a99f197b6fa09ea06a0f6735bd4b87101c6b37ce48bad1"), looks := false }, kinds := [], alts := [], laidByText := true, laidKinds := [.data], laidTests := true, laidLooks := .later }
def TextOrdersUptoCardSaid : Prop := Claim7.holds Tryd.pinned (.plain (OpenSpec.upto textOrdersSpec)) textOrdersUptoCard
end Rows
end Go.Proofs.YtmenmlkclggjjaaDoor
