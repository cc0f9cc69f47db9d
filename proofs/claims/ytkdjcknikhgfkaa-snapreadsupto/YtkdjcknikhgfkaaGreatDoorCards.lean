/-
  DERIVED. GIVEN WITH THE SEED: THE CARDS: each row of YtkdjcknikhgfkaaGreatDoorRows.lean that lists a variable, with what it lists TIED to the program's text (the seventh form; the later family's looks); each row that meets fmt, with fmt's text TOLD by the authors' own Lean function (tested against real Go, not proved from fmt's source: count such statements apart). THE CARD IS WHAT COUNTS. Prove the row's statement (the work); the ties are given (YtkdjcknikhgfkaaGreatDoorTie.lean); close each card by the builder's one call (the guide's Derived/Test/ToyasCard.lean, 'card_holds'). Laid BY PROGRAM, IN A SANDBOX (cutbox-door.mjs). By AI agents, Wed Nov 11 2026. No macro, syntax, notation, axiom, sorry.
-/
import Derived.Test.YtkdjcknikhgfkaaGreatDoorRows
import GoSem.ClaimSeven
namespace Go.Proofs.YtkdjcknikhgfkaaGreatDoor
namespace Rows

/-- THE TIED CARD OF 'joustlaw22.SnapBack'. -/
def snapBackCard : Claim7 := { stood := { row := snapBackRow, standIns := [], harness := (true, "5f93c6729e1677f789fd895b821e201e665dd2bd520d2f567951a308429bdd62"), looks := false }, kinds := [], alts := [], laidByText := true, laidKinds := [.data], laidTests := true, laidLooks := .later }
def SnapBackCardSaid : Prop := Claim7.holds Tryz.pinned (.plain (OpenSpec.ofChange snapBackSpec)) snapBackCard

/-- THE TIED CARD OF 'joustlaw22.SnapFits'. -/
def snapFitsCard : Claim7 := { stood := { row := snapFitsRow, standIns := [], harness := (true, "5f93c6729e1677f789fd895b821e201e665dd2bd520d2f567951a308429bdd62"), looks := false }, kinds := [], alts := [], laidByText := true, laidKinds := [.data], laidTests := true, laidLooks := .later }
def SnapFitsCardSaid : Prop := Claim7.holds Tryz.pinned (.plain (OpenSpec.ofChange snapFitsSpec)) snapFitsCard

/-- THE TIED CARD OF 'joustlaw22.SnapMemory'. -/
def snapMemoryCard : Claim7 := { stood := { row := snapMemoryRow, standIns := [], harness := (true, "5f93c6729e1677f789fd895b821e201e665dd2bd520d2f567951a308429bdd62"), looks := false }, kinds := [], alts := [], laidByText := true, laidKinds := [.data], laidTests := true, laidLooks := .later }
def SnapMemoryCardSaid : Prop := Claim7.holds Tryz.pinned (.plain (OpenSpec.ofChange snapMemorySpec)) snapMemoryCard

/-- THE TIED CARD OF 'joustlaw22.SnapSealed'. -/
def snapSealedCard : Claim7 := { stood := { row := snapSealedRow, standIns := [], harness := (true, "5f93c6729e1677f789fd895b821e201e665dd2bd520d2f567951a308429bdd62"), looks := false }, kinds := [], alts := [], laidByText := true, laidKinds := [.data], laidTests := true, laidLooks := .later }
def SnapSealedCardSaid : Prop := Claim7.holds Tryz.pinned (.plain (OpenSpec.ofChange snapSealedSpec)) snapSealedCard

/-- THE TIED CARD OF 'joustlaw22.SnapTurned'. -/
def snapTurnedCard : Claim7 := { stood := { row := snapTurnedRow, standIns := [], harness := (true, "5f93c6729e1677f789fd895b821e201e665dd2bd520d2f567951a308429bdd62"), looks := false }, kinds := [], alts := [], laidByText := true, laidKinds := [.data], laidTests := true, laidLooks := .later }
def SnapTurnedCardSaid : Prop := Claim7.holds Tryz.pinned (.plain (OpenSpec.ofChange snapTurnedSpec)) snapTurnedCard

/-- THE TIED CARD OF 'joustlaw22.SnapReads'. -/
def snapReadsCard : Claim7 := { stood := { row := snapReadsRow, standIns := [], harness := (true, "5f93c6729e1677f789fd895b821e201e665dd2bd520d2f567951a308429bdd62"), looks := false }, kinds := [], alts := [], laidByText := true, laidKinds := [.data, .data, .data], laidTests := true, laidLooks := .later }
def SnapReadsCardSaid : Prop := Claim7.holds Tryz.pinned (.plain (OpenSpec.ofChange snapReadsSpec)) snapReadsCard

/-- THE SECOND FORM's CARD OF 'joustlaw22.SnapBack'. -/
def snapBackUptoCard : Claim7 := { stood := { row := snapBackUptoRow, standIns := [], harness := (true, "5f93c6729e1677f789fd895b821e201e665dd2bd520d2f567951a308429bdd62"), looks := false }, kinds := [], alts := [], laidByText := true, laidKinds := [.data], laidTests := true, laidLooks := .later }
def SnapBackUptoCardSaid : Prop := Claim7.holds Tryz.pinned (.plain (OpenSpec.upto snapBackSpec)) snapBackUptoCard

/-- THE SECOND FORM's CARD OF 'joustlaw22.SnapFits'. -/
def snapFitsUptoCard : Claim7 := { stood := { row := snapFitsUptoRow, standIns := [], harness := (true, "5f93c6729e1677f789fd895b821e201e665dd2bd520d2f567951a308429bdd62"), looks := false }, kinds := [], alts := [], laidByText := true, laidKinds := [.data], laidTests := true, laidLooks := .later }
def SnapFitsUptoCardSaid : Prop := Claim7.holds Tryz.pinned (.plain (OpenSpec.upto snapFitsSpec)) snapFitsUptoCard

/-- THE SECOND FORM's CARD OF 'joustlaw22.SnapMemory'. -/
def snapMemoryUptoCard : Claim7 := { stood := { row := snapMemoryUptoRow, standIns := [], harness := (true, "5f93c6729e1677f789fd895b821e201e665dd2bd520d2f567951a308429bdd62"), looks := false }, kinds := [], alts := [], laidByText := true, laidKinds := [.data], laidTests := true, laidLooks := .later }
def SnapMemoryUptoCardSaid : Prop := Claim7.holds Tryz.pinned (.plain (OpenSpec.upto snapMemorySpec)) snapMemoryUptoCard

/-- THE SECOND FORM's CARD OF 'joustlaw22.SnapSealed'. -/
def snapSealedUptoCard : Claim7 := { stood := { row := snapSealedUptoRow, standIns := [], harness := (true, "5f93c6729e1677f789fd895b821e201e665dd2bd520d2f567951a308429bdd62"), looks := false }, kinds := [], alts := [], laidByText := true, laidKinds := [.data], laidTests := true, laidLooks := .later }
def SnapSealedUptoCardSaid : Prop := Claim7.holds Tryz.pinned (.plain (OpenSpec.upto snapSealedSpec)) snapSealedUptoCard

/-- THE SECOND FORM's CARD OF 'joustlaw22.SnapTurned'. -/
def snapTurnedUptoCard : Claim7 := { stood := { row := snapTurnedUptoRow, standIns := [], harness := (true, "5f93c6729e1677f789fd895b821e201e665dd2bd520d2f567951a308429bdd62"), looks := false }, kinds := [], alts := [], laidByText := true, laidKinds := [.data], laidTests := true, laidLooks := .later }
def SnapTurnedUptoCardSaid : Prop := Claim7.holds Tryz.pinned (.plain (OpenSpec.upto snapTurnedSpec)) snapTurnedUptoCard

/-- THE SECOND FORM's CARD OF 'joustlaw22.SnapReads'. -/
def snapReadsUptoCard : Claim7 := { stood := { row := snapReadsUptoRow, standIns := [], harness := (true, "5f93c6729e1677f789fd895b821e201e665dd2bd520d2f567951a308429bdd62"), looks := false }, kinds := [], alts := [], laidByText := true, laidKinds := [.data, .data, .data], laidTests := true, laidLooks := .later }
def SnapReadsUptoCardSaid : Prop := Claim7.holds Tryz.pinned (.plain (OpenSpec.upto snapReadsSpec)) snapReadsUptoCard
end Rows
end Go.Proofs.YtkdjcknikhgfkaaGreatDoor
