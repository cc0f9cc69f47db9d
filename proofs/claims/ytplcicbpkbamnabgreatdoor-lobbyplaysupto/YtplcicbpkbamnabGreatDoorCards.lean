/-
  DERIVED. GIVEN WITH THE SEED: THE CARDS: each row of YtplcicbpkbamnabGreatDoorRows.lean that lists a variable, with what it lists TIED to the program's text (the seventh form; the later family's looks); each row that meets fmt, with fmt's text TOLD by the authors' own Lean function (tested against real Go, not proved from fmt's source: count such statements apart). THE CARD IS WHAT COUNTS. Prove the row's statement (the work); the ties are given (YtplcicbpkbamnabGreatDoorTie.lean); close each card by the builder's one call (the guide's Derived/Test/ToyasCard.lean, 'card_holds'). Laid BY PROGRAM, IN A SANDBOX (cutbox-door.mjs). By AI agents, Wed Nov 11 2026. No macro, syntax, notation, axiom, sorry.
-/
import Derived.Test.YtplcicbpkbamnabGreatDoorRows
import GoSem.ClaimSeven
namespace Go.Proofs.YtplcicbpkbamnabGreatDoor
namespace Rows

/-- THE TIED CARD OF 'joustlaw12.LobbyPlays'. -/
def lobbyPlaysCard : Claim7 := { stood := { row := lobbyPlaysRow, standIns := [], harness := (true, "eb46aa8e24c901e9821c8d99596fd963eee162dcbfcec029d5b1c25e2f283e5a"), looks := false }, kinds := [], alts := [], laidByText := true, laidKinds := [.data, .data, .data, .data], laidTests := true, laidLooks := .later }
def LobbyPlaysCardSaid : Prop := Claim7.holds Tryz.pinned (.plain (OpenSpec.ofChange lobbyPlaysSpec)) lobbyPlaysCard

/-- THE SECOND FORM's CARD OF 'joustlaw12.LobbyPlays'. -/
def lobbyPlaysUptoCard : Claim7 := { stood := { row := lobbyPlaysUptoRow, standIns := [], harness := (true, "eb46aa8e24c901e9821c8d99596fd963eee162dcbfcec029d5b1c25e2f283e5a"), looks := false }, kinds := [], alts := [], laidByText := true, laidKinds := [.data, .data, .data, .data], laidTests := true, laidLooks := .later }
def LobbyPlaysUptoCardSaid : Prop := Claim7.holds Tryz.pinned (.plain (OpenSpec.upto lobbyPlaysSpec)) lobbyPlaysUptoCard
end Rows
end Go.Proofs.YtplcicbpkbamnabGreatDoor
