/-
  DERIVED. GIVEN WITH THE SEED: THE CARDS: each row of YtkdjcknikhgfkabGreatDoorRows.lean that lists a variable, with what it lists TIED to the program's text (the seventh form; the later family's looks); each row that meets fmt, with fmt's text TOLD by the authors' own Lean function (tested against real Go, not proved from fmt's source: count such statements apart). THE CARD IS WHAT COUNTS. Prove the row's statement (the work); the ties are given (YtkdjcknikhgfkabGreatDoorTie.lean); close each card by the builder's one call (the guide's Derived/Test/ToyasCard.lean, 'card_holds'). Laid BY PROGRAM, IN A SANDBOX (cutbox-door.mjs). By AI agents, Wed Nov 11 2026. No macro, syntax, notation, axiom, sorry.
-/
import Derived.Test.YtkdjcknikhgfkabGreatDoorRows
import GoSem.ClaimSeven
namespace Go.Proofs.YtkdjcknikhgfkabGreatDoor
namespace Rows

/-- THE TIED CARD OF 'joustlaw22.SnapWrites'. -/
def snapWritesCard : Claim7 := { stood := { row := snapWritesRow, standIns := [], harness := (true, "e66ad7f9407bb6b9588a7e96f458be02bf333ecd108b1ce3a5bcfdc91513bfae"), looks := false }, kinds := [], alts := [], laidByText := true, laidKinds := [.data, .data, .data], laidTests := true, laidLooks := .later }
def SnapWritesCardSaid : Prop := Claim7.holds Tryz.pinned (.plain (OpenSpec.ofChange snapWritesSpec)) snapWritesCard

/-- THE SECOND FORM's CARD OF 'joustlaw22.SnapWrites'. -/
def snapWritesUptoCard : Claim7 := { stood := { row := snapWritesUptoRow, standIns := [], harness := (true, "e66ad7f9407bb6b9588a7e96f458be02bf333ecd108b1ce3a5bcfdc91513bfae"), looks := false }, kinds := [], alts := [], laidByText := true, laidKinds := [.data, .data, .data], laidTests := true, laidLooks := .later }
def SnapWritesUptoCardSaid : Prop := Claim7.holds Tryz.pinned (.plain (OpenSpec.upto snapWritesSpec)) snapWritesUptoCard
end Rows
end Go.Proofs.YtkdjcknikhgfkabGreatDoor
