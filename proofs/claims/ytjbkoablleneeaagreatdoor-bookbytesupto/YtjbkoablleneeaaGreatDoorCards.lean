/-
  DERIVED. GIVEN WITH THE SEED: THE CARDS: each row of YtjbkoablleneeaaGreatDoorRows.lean that lists a variable, with what it lists TIED to the program's text (the seventh form; the later family's looks); each row that meets fmt, with fmt's text TOLD by the authors' own Lean function (tested against real Go, not proved from fmt's source: count such statements apart). THE CARD IS WHAT COUNTS. Prove the row's statement (the work); the ties are given (YtjbkoablleneeaaGreatDoorTie.lean); close each card by the builder's one call (the guide's Derived/Test/ToyasCard.lean, 'card_holds'). Laid BY PROGRAM, IN A SANDBOX (cutbox-door.mjs). By AI agents, Wed Nov 11 2026. No macro, syntax, notation, axiom, sorry.
-/
import Derived.Test.YtjbkoablleneeaaGreatDoorRows
import GoSem.ClaimSeven
namespace Go.Proofs.YtjbkoablleneeaaGreatDoor
namespace Rows

/-- THE TIED CARD OF 'joustlaw19.BookBytes'. -/
def bookBytesCard : Claim7 := { stood := { row := bookBytesRow, standIns := [], harness := (true, "8d3f8a00d1ecf343086a7dbc55cf83a68d4db35e422a621f604ad359226a7c7e"), looks := true }, kinds := [], alts := [], laidByText := true, laidKinds := [.data, .data, .data, .data], laidTests := true, laidLooks := .later }
def BookBytesCardSaid : Prop := Claim7.holds Tryz.pinned (.plain (OpenSpec.ofChange bookBytesSpec)) bookBytesCard

/-- THE TIED CARD OF 'joustlaw19.BookSound'. -/
def bookSoundCard : Claim7 := { stood := { row := bookSoundRow, standIns := [], harness := (true, "8d3f8a00d1ecf343086a7dbc55cf83a68d4db35e422a621f604ad359226a7c7e"), looks := true }, kinds := [], alts := [], laidByText := true, laidKinds := [.data, .data], laidTests := true, laidLooks := .later }
def BookSoundCardSaid : Prop := Claim7.holds Tryz.pinned (.plain (OpenSpec.ofChange bookSoundSpec)) bookSoundCard

/-- THE TIED CARD OF 'joustlaw19.BookLabels'. -/
def bookLabelsCard : Claim7 := { stood := { row := bookLabelsRow, standIns := [], harness := (true, "8d3f8a00d1ecf343086a7dbc55cf83a68d4db35e422a621f604ad359226a7c7e"), looks := true }, kinds := [], alts := [], laidByText := true, laidKinds := [.data, .data], laidTests := true, laidLooks := .later }
def BookLabelsCardSaid : Prop := Claim7.holds Tryz.pinned (.plain (OpenSpec.ofChange bookLabelsSpec)) bookLabelsCard

/-- THE SECOND FORM's CARD OF 'joustlaw19.BookBytes'. -/
def bookBytesUptoCard : Claim7 := { stood := { row := bookBytesUptoRow, standIns := [], harness := (true, "8d3f8a00d1ecf343086a7dbc55cf83a68d4db35e422a621f604ad359226a7c7e"), looks := true }, kinds := [], alts := [], laidByText := true, laidKinds := [.data, .data, .data, .data], laidTests := true, laidLooks := .later }
def BookBytesUptoCardSaid : Prop := Claim7.holds Tryz.pinned (.plain (OpenSpec.upto bookBytesSpec)) bookBytesUptoCard

/-- THE SECOND FORM's CARD OF 'joustlaw19.BookSound'. -/
def bookSoundUptoCard : Claim7 := { stood := { row := bookSoundUptoRow, standIns := [], harness := (true, "8d3f8a00d1ecf343086a7dbc55cf83a68d4db35e422a621f604ad359226a7c7e"), looks := true }, kinds := [], alts := [], laidByText := true, laidKinds := [.data, .data], laidTests := true, laidLooks := .later }
def BookSoundUptoCardSaid : Prop := Claim7.holds Tryz.pinned (.plain (OpenSpec.upto bookSoundSpec)) bookSoundUptoCard

/-- THE SECOND FORM's CARD OF 'joustlaw19.BookLabels'. -/
def bookLabelsUptoCard : Claim7 := { stood := { row := bookLabelsUptoRow, standIns := [], harness := (true, "8d3f8a00d1ecf343086a7dbc55cf83a68d4db35e422a621f604ad359226a7c7e"), looks := true }, kinds := [], alts := [], laidByText := true, laidKinds := [.data, .data], laidTests := true, laidLooks := .later }
def BookLabelsUptoCardSaid : Prop := Claim7.holds Tryz.pinned (.plain (OpenSpec.upto bookLabelsSpec)) bookLabelsUptoCard
end Rows
end Go.Proofs.YtjbkoablleneeaaGreatDoor
