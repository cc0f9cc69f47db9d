/-
  DERIVED. GIVEN WITH THE SEED: THE CARDS: each row of YtplcicbpkbamnaaDoorRows.lean that lists a variable, with what it lists TIED to the program's text (the seventh form; the later family's looks); each row that meets fmt, with fmt's text TOLD by the authors' own Lean function (tested against real Go, not proved from fmt's source: count such statements apart). THE CARD IS WHAT COUNTS. Prove the row's statement (the work); the ties are given (YtplcicbpkbamnaaDoorTie.lean); close each card by the builder's one call (the guide's Derived/Test/ToyasCard.lean, 'card_holds'). Laid BY PROGRAM, IN A SANDBOX (cutbox-door.mjs). By AI agents, Wed Nov 11 2026. No macro, syntax, notation, axiom, sorry.
-/
import Derived.Test.YtplcicbpkbamnaaDoorRows
import GoSem.ClaimSeven
namespace Go.Proofs.YtplcicbpkbamnaaDoor
namespace Rows

/-- THE TIED CARD OF 'joustlaw12.LobbyMemory'. -/
def lobbyMemoryCard : Claim7 := { stood := { row := lobbyMemoryRow, standIns := [], harness := (true, "bada2712f5a880b812d9b2d23070c444b5104c3bc59405b670d8d7f2b9169e52"), looks := false }, kinds := [], alts := [], laidByText := true, laidKinds := [.data, .data], laidTests := true, laidLooks := .later }
def LobbyMemoryCardSaid : Prop := Claim7.holds Tryd.pinned (.plain (OpenSpec.ofChange lobbyMemorySpec)) lobbyMemoryCard

/-- THE TIED CARD OF 'joustlaw12.LobbyKeys'. -/
def lobbyKeysCard : Claim7 := { stood := { row := lobbyKeysRow, standIns := [], harness := (true, "bada2712f5a880b812d9b2d23070c444b5104c3bc59405b670d8d7f2b9169e52"), looks := false }, kinds := [], alts := [], laidByText := true, laidKinds := [.data, .data], laidTests := true, laidLooks := .later }
def LobbyKeysCardSaid : Prop := Claim7.holds Tryd.pinned (.plain (OpenSpec.ofChange lobbyKeysSpec)) lobbyKeysCard

/-- THE TIED CARD OF 'joustlaw12.LobbyOnce'. -/
def lobbyOnceCard : Claim7 := { stood := { row := lobbyOnceRow, standIns := [], harness := (true, "bada2712f5a880b812d9b2d23070c444b5104c3bc59405b670d8d7f2b9169e52"), looks := false }, kinds := [], alts := [], laidByText := true, laidKinds := [.data, .data], laidTests := true, laidLooks := .later }
def LobbyOnceCardSaid : Prop := Claim7.holds Tryd.pinned (.plain (OpenSpec.ofChange lobbyOnceSpec)) lobbyOnceCard

/-- THE TIED CARD OF 'joustlaw12.LobbyApart'. -/
def lobbyApartCard : Claim7 := { stood := { row := lobbyApartRow, standIns := [], harness := (true, "bada2712f5a880b812d9b2d23070c444b5104c3bc59405b670d8d7f2b9169e52"), looks := false }, kinds := [], alts := [], laidByText := true, laidKinds := [.data, .data], laidTests := true, laidLooks := .later }
def LobbyApartCardSaid : Prop := Claim7.holds Tryd.pinned (.plain (OpenSpec.ofChange lobbyApartSpec)) lobbyApartCard

/-- THE TIED CARD OF 'joustlaw12.LobbyBounds'. -/
def lobbyBoundsCard : Claim7 := { stood := { row := lobbyBoundsRow, standIns := [], harness := (true, "bada2712f5a880b812d9b2d23070c444b5104c3bc59405b670d8d7f2b9169e52"), looks := false }, kinds := [], alts := [], laidByText := true, laidKinds := [.data, .data], laidTests := true, laidLooks := .later }
def LobbyBoundsCardSaid : Prop := Claim7.holds Tryd.pinned (.plain (OpenSpec.ofChange lobbyBoundsSpec)) lobbyBoundsCard

/-- THE SECOND FORM's CARD OF 'joustlaw12.LobbyMemory'. -/
def lobbyMemoryUptoCard : Claim7 := { stood := { row := lobbyMemoryUptoRow, standIns := [], harness := (true, "bada2712f5a880b812d9b2d23070c444b5104c3bc59405b670d8d7f2b9169e52"), looks := false }, kinds := [], alts := [], laidByText := true, laidKinds := [.data, .data], laidTests := true, laidLooks := .later }
def LobbyMemoryUptoCardSaid : Prop := Claim7.holds Tryd.pinned (.plain (OpenSpec.upto lobbyMemorySpec)) lobbyMemoryUptoCard

/-- THE SECOND FORM's CARD OF 'joustlaw12.LobbyKeys'. -/
def lobbyKeysUptoCard : Claim7 := { stood := { row := lobbyKeysUptoRow, standIns := [], harness := (true, "bada2712f5a880b812d9b2d23070c444b5104c3bc59405b670d8d7f2b9169e52"), looks := false }, kinds := [], alts := [], laidByText := true, laidKinds := [.data, .data], laidTests := true, laidLooks := .later }
def LobbyKeysUptoCardSaid : Prop := Claim7.holds Tryd.pinned (.plain (OpenSpec.upto lobbyKeysSpec)) lobbyKeysUptoCard

/-- THE SECOND FORM's CARD OF 'joustlaw12.LobbyOnce'. -/
def lobbyOnceUptoCard : Claim7 := { stood := { row := lobbyOnceUptoRow, standIns := [], harness := (true, "bada2712f5a880b812d9b2d23070c444b5104c3bc59405b670d8d7f2b9169e52"), looks := false }, kinds := [], alts := [], laidByText := true, laidKinds := [.data, .data], laidTests := true, laidLooks := .later }
def LobbyOnceUptoCardSaid : Prop := Claim7.holds Tryd.pinned (.plain (OpenSpec.upto lobbyOnceSpec)) lobbyOnceUptoCard

/-- THE SECOND FORM's CARD OF 'joustlaw12.LobbyApart'. -/
def lobbyApartUptoCard : Claim7 := { stood := { row := lobbyApartUptoRow, standIns := [], harness := (true, "bada2712f5a880b812d9b2d23070c444b5104c3bc59405b670d8d7f2b9169e52"), looks := false }, kinds := [], alts := [], laidByText := true, laidKinds := [.data, .data], laidTests := true, laidLooks := .later }
def LobbyApartUptoCardSaid : Prop := Claim7.holds Tryd.pinned (.plain (OpenSpec.upto lobbyApartSpec)) lobbyApartUptoCard

/-- THE SECOND FORM's CARD OF 'joustlaw12.LobbyBounds'. -/
def lobbyBoundsUptoCard : Claim7 := { stood := { row := lobbyBoundsUptoRow, standIns := [], harness := (true, "bada2712f5a880b812d9b2d23070c444b5104c3bc59405b670d8d7f2b9169e52"), looks := false }, kinds := [], alts := [], laidByText := true, laidKinds := [.data, .data], laidTests := true, laidLooks := .later }
def LobbyBoundsUptoCardSaid : Prop := Claim7.holds Tryd.pinned (.plain (OpenSpec.upto lobbyBoundsSpec)) lobbyBoundsUptoCard
end Rows
end Go.Proofs.YtplcicbpkbamnaaDoor
