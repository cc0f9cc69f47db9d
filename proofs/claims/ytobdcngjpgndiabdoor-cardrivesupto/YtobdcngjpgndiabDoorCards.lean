/-
  DERIVED. GIVEN WITH THE SEED: THE CARDS: each row of YtobdcngjpgndiabDoorRows.lean that lists a variable, with what it lists TIED to the program's text (the seventh form; the later family's looks); each row that meets fmt, with fmt's text TOLD by the authors' own Lean function (tested against real Go, not proved from fmt's source: count such statements apart). THE CARD IS WHAT COUNTS. Prove the row's statement (the work); the ties are given (YtobdcngjpgndiabDoorTie.lean); close each card by the builder's one call (the guide's Derived/Test/ToyasCard.lean, 'card_holds'). Laid BY PROGRAM, IN A SANDBOX (cutbox-door.mjs). By AI agents, Wed Nov 11 2026. No macro, syntax, notation, axiom, sorry.
-/
import Derived.Test.YtobdcngjpgndiabDoorRows
import GoSem.ClaimSeven
namespace Go.Proofs.YtobdcngjpgndiabDoor
namespace Rows

/-- THE TIED CARD OF 'joustlaw15.CarDrives'. -/
def carDrivesCard : Claim7 := { stood := { row := carDrivesRow, standIns := [], harness := (true, "7136f789b8921006cddbf7bd0803b7284a3b88591e6dbcf2bff651854a3cbcb0"), looks := false }, kinds := [], alts := [], laidByText := true, laidKinds := [.data], laidTests := true, laidLooks := .later }
def CarDrivesCardSaid : Prop := Claim7.holds Tryd.pinned (.plain (OpenSpec.ofChange carDrivesSpec)) carDrivesCard

/-- THE SECOND FORM's CARD OF 'joustlaw15.CarDrives'. -/
def carDrivesUptoCard : Claim7 := { stood := { row := carDrivesUptoRow, standIns := [], harness := (true, "7136f789b8921006cddbf7bd0803b7284a3b88591e6dbcf2bff651854a3cbcb0"), looks := false }, kinds := [], alts := [], laidByText := true, laidKinds := [.data], laidTests := true, laidLooks := .later }
def CarDrivesUptoCardSaid : Prop := Claim7.holds Tryd.pinned (.plain (OpenSpec.upto carDrivesSpec)) carDrivesUptoCard
end Rows
end Go.Proofs.YtobdcngjpgndiabDoor
