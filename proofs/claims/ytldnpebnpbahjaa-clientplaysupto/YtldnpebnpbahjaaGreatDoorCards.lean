/-
  DERIVED. GIVEN WITH THE SEED: THE CARDS: each row of YtldnpebnpbahjaaGreatDoorRows.lean that lists a variable, with what it lists TIED to the program's text (the seventh form; the later family's looks); each row that meets fmt, with fmt's text TOLD by the authors' own Lean function (tested against real Go, not proved from fmt's source: count such statements apart). THE CARD IS WHAT COUNTS. Prove the row's statement (the work); the ties are given (YtldnpebnpbahjaaGreatDoorTie.lean); close each card by the builder's one call (the guide's Derived/Test/ToyasCard.lean, 'card_holds'). Laid BY PROGRAM, IN A SANDBOX (cutbox-door.mjs). By AI agents, Wed Nov 11 2026. No macro, syntax, notation, axiom, sorry.
-/
import Derived.Test.YtldnpebnpbahjaaGreatDoorRows
import GoSem.ClaimSeven
namespace Go.Proofs.YtldnpebnpbahjaaGreatDoor
namespace Rows

/-- THE TIED CARD OF 'joustlaw24.ClientFresh'. -/
def clientFreshCard : Claim7 := { stood := { row := clientFreshRow, standIns := [], harness := (true, "8e32c183d0ac61a882f5765dc51aa2b1e0dd06bedd30c4c1125b221c6fddd826"), looks := false }, kinds := [], alts := [], laidByText := true, laidKinds := [.data, .data], laidTests := true, laidLooks := .later }
def ClientFreshCardSaid : Prop := Claim7.holds Tryz.pinned (.plain (OpenSpec.ofChange clientFreshSpec)) clientFreshCard

/-- THE TIED CARD OF 'joustlaw24.ClientStale'. -/
def clientStaleCard : Claim7 := { stood := { row := clientStaleRow, standIns := [], harness := (true, "8e32c183d0ac61a882f5765dc51aa2b1e0dd06bedd30c4c1125b221c6fddd826"), looks := false }, kinds := [], alts := [], laidByText := true, laidKinds := [.data, .data], laidTests := true, laidLooks := .later }
def ClientStaleCardSaid : Prop := Claim7.holds Tryz.pinned (.plain (OpenSpec.ofChange clientStaleSpec)) clientStaleCard

/-- THE TIED CARD OF 'joustlaw24.ClientDeaf'. -/
def clientDeafCard : Claim7 := { stood := { row := clientDeafRow, standIns := [], harness := (true, "8e32c183d0ac61a882f5765dc51aa2b1e0dd06bedd30c4c1125b221c6fddd826"), looks := false }, kinds := [], alts := [], laidByText := true, laidKinds := [.data, .data], laidTests := true, laidLooks := .later }
def ClientDeafCardSaid : Prop := Claim7.holds Tryz.pinned (.plain (OpenSpec.ofChange clientDeafSpec)) clientDeafCard

/-- THE TIED CARD OF 'joustlaw24.ClientPlays'. -/
def clientPlaysCard : Claim7 := { stood := { row := clientPlaysRow, standIns := [], harness := (true, "8e32c183d0ac61a882f5765dc51aa2b1e0dd06bedd30c4c1125b221c6fddd826"), looks := false }, kinds := [], alts := [], laidByText := true, laidKinds := [.data, .data, .data, .data], laidTests := true, laidLooks := .later }
def ClientPlaysCardSaid : Prop := Claim7.holds Tryz.pinned (.plain (OpenSpec.ofChange clientPlaysSpec)) clientPlaysCard

/-- THE SECOND FORM's CARD OF 'joustlaw24.ClientFresh'. -/
def clientFreshUptoCard : Claim7 := { stood := { row := clientFreshUptoRow, standIns := [], harness := (true, "8e32c183d0ac61a882f5765dc51aa2b1e0dd06bedd30c4c1125b221c6fddd826"), looks := false }, kinds := [], alts := [], laidByText := true, laidKinds := [.data, .data], laidTests := true, laidLooks := .later }
def ClientFreshUptoCardSaid : Prop := Claim7.holds Tryz.pinned (.plain (OpenSpec.upto clientFreshSpec)) clientFreshUptoCard

/-- THE SECOND FORM's CARD OF 'joustlaw24.ClientStale'. -/
def clientStaleUptoCard : Claim7 := { stood := { row := clientStaleUptoRow, standIns := [], harness := (true, "8e32c183d0ac61a882f5765dc51aa2b1e0dd06bedd30c4c1125b221c6fddd826"), looks := false }, kinds := [], alts := [], laidByText := true, laidKinds := [.data, .data], laidTests := true, laidLooks := .later }
def ClientStaleUptoCardSaid : Prop := Claim7.holds Tryz.pinned (.plain (OpenSpec.upto clientStaleSpec)) clientStaleUptoCard

/-- THE SECOND FORM's CARD OF 'joustlaw24.ClientDeaf'. -/
def clientDeafUptoCard : Claim7 := { stood := { row := clientDeafUptoRow, standIns := [], harness := (true, "8e32c183d0ac61a882f5765dc51aa2b1e0dd06bedd30c4c1125b221c6fddd826"), looks := false }, kinds := [], alts := [], laidByText := true, laidKinds := [.data, .data], laidTests := true, laidLooks := .later }
def ClientDeafUptoCardSaid : Prop := Claim7.holds Tryz.pinned (.plain (OpenSpec.upto clientDeafSpec)) clientDeafUptoCard

/-- THE SECOND FORM's CARD OF 'joustlaw24.ClientPlays'. -/
def clientPlaysUptoCard : Claim7 := { stood := { row := clientPlaysUptoRow, standIns := [], harness := (true, "8e32c183d0ac61a882f5765dc51aa2b1e0dd06bedd30c4c1125b221c6fddd826"), looks := false }, kinds := [], alts := [], laidByText := true, laidKinds := [.data, .data, .data, .data], laidTests := true, laidLooks := .later }
def ClientPlaysUptoCardSaid : Prop := Claim7.holds Tryz.pinned (.plain (OpenSpec.upto clientPlaysSpec)) clientPlaysUptoCard
end Rows
end Go.Proofs.YtldnpebnpbahjaaGreatDoor
