/-
  DERIVED. GIVEN WITH THE SEED: THE CARDS: each row of YtplcicbpkbamnaaGreatDoorRows.lean that lists a variable, with what it lists TIED to the program's text (the seventh form; the later family's looks); each row that meets fmt, with fmt's text TOLD by the authors' own Lean function (tested against real Go, not proved from fmt's source: count such statements apart). THE CARD IS WHAT COUNTS. Prove the row's statement (the work); the ties are given (YtplcicbpkbamnaaGreatDoorTie.lean); close each card by the builder's one call (the guide's Derived/Test/ToyasCard.lean, 'card_holds'). Laid BY PROGRAM, IN A SANDBOX (cutbox-door.mjs). By AI agents, Wed Nov 11 2026. No macro, syntax, notation, axiom, sorry.
-/
import Derived.Test.YtplcicbpkbamnaaGreatDoorRows
import GoSem.ClaimSeven
namespace Go.Proofs.YtplcicbpkbamnaaGreatDoor
namespace Rows

/-- THE TIED CARD OF 'joustlaw12.LobbyNews'. -/
def lobbyNewsCard : Claim7 := { stood := { row := lobbyNewsRow, standIns := [], harness := (true, "023daf99f20f52313a8a712ce1c0c1ef0155b317c8510a4f660ccc4236293e64"), looks := false }, kinds := [], alts := [], laidByText := true, laidKinds := [.data, .data], laidTests := true, laidLooks := .later }
def LobbyNewsCardSaid : Prop := Claim7.holds Tryz.pinned (.plain (OpenSpec.ofChange lobbyNewsSpec)) lobbyNewsCard

/-- THE SECOND FORM's CARD OF 'joustlaw12.LobbyNews'. -/
def lobbyNewsUptoCard : Claim7 := { stood := { row := lobbyNewsUptoRow, standIns := [], harness := (true, "023daf99f20f52313a8a712ce1c0c1ef0155b317c8510a4f660ccc4236293e64"), looks := false }, kinds := [], alts := [], laidByText := true, laidKinds := [.data, .data], laidTests := true, laidLooks := .later }
def LobbyNewsUptoCardSaid : Prop := Claim7.holds Tryz.pinned (.plain (OpenSpec.upto lobbyNewsSpec)) lobbyNewsUptoCard
end Rows
end Go.Proofs.YtplcicbpkbamnaaGreatDoor
