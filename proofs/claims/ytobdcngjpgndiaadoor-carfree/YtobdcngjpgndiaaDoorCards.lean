/-
  DERIVED. GIVEN WITH THE SEED: THE CARDS: each row of YtobdcngjpgndiaaDoorRows.lean that lists a variable, with what it lists TIED to the program's text (the seventh form; the later family's looks); each row that meets fmt, with fmt's text TOLD by the authors' own Lean function (tested against real Go, not proved from fmt's source: count such statements apart). THE CARD IS WHAT COUNTS. Prove the row's statement (the work); the ties are given (YtobdcngjpgndiaaDoorTie.lean); close each card by the builder's one call (the guide's Derived/Test/ToyasCard.lean, 'card_holds'). Laid BY PROGRAM, IN A SANDBOX (cutbox-door.mjs). By AI agents, Wed Nov 11 2026. No macro, syntax, notation, axiom, sorry.
-/
import Derived.Test.YtobdcngjpgndiaaDoorRows
import GoSem.ClaimSeven
namespace Go.Proofs.YtobdcngjpgndiaaDoor
namespace Rows

/-- THE TIED CARD OF 'joustlaw15.CarRound'. -/
def carRoundCard : Claim7 := { stood := { row := carRoundRow, standIns := [], harness := (true, "4485eacc89da9378c0e25446e153d25f1730855e47acd42e1a5eaf946b7a16b7"), looks := false }, kinds := [], alts := [], laidByText := true, laidKinds := [.data], laidTests := true, laidLooks := .later }
def CarRoundCardSaid : Prop := Claim7.holds Tryd.pinned (.plain (OpenSpec.ofChange carRoundSpec)) carRoundCard

/-- THE TIED CARD OF 'joustlaw15.CarFree'. -/
def carFreeCard : Claim7 := { stood := { row := carFreeRow, standIns := [], harness := (true, "4485eacc89da9378c0e25446e153d25f1730855e47acd42e1a5eaf946b7a16b7"), looks := false }, kinds := [], alts := [], laidByText := true, laidKinds := [.data], laidTests := true, laidLooks := .later }
def CarFreeCardSaid : Prop := Claim7.holds Tryd.pinned (.plain (OpenSpec.ofChange carFreeSpec)) carFreeCard

/-- THE TIED CARD OF 'joustlaw15.CarTwice'. -/
def carTwiceCard : Claim7 := { stood := { row := carTwiceRow, standIns := [], harness := (true, "4485eacc89da9378c0e25446e153d25f1730855e47acd42e1a5eaf946b7a16b7"), looks := false }, kinds := [], alts := [], laidByText := true, laidKinds := [.data], laidTests := true, laidLooks := .later }
def CarTwiceCardSaid : Prop := Claim7.holds Tryd.pinned (.plain (OpenSpec.ofChange carTwiceSpec)) carTwiceCard

/-- THE TIED CARD OF 'joustlaw15.CarComes'. -/
def carComesCard : Claim7 := { stood := { row := carComesRow, standIns := [], harness := (true, "4485eacc89da9378c0e25446e153d25f1730855e47acd42e1a5eaf946b7a16b7"), looks := false }, kinds := [], alts := [], laidByText := true, laidKinds := [.data], laidTests := true, laidLooks := .later }
def CarComesCardSaid : Prop := Claim7.holds Tryd.pinned (.plain (OpenSpec.ofChange carComesSpec)) carComesCard

/-- THE TIED CARD OF 'joustlaw15.CarRests'. -/
def carRestsCard : Claim7 := { stood := { row := carRestsRow, standIns := [], harness := (true, "4485eacc89da9378c0e25446e153d25f1730855e47acd42e1a5eaf946b7a16b7"), looks := false }, kinds := [], alts := [], laidByText := true, laidKinds := [.data], laidTests := true, laidLooks := .later }
def CarRestsCardSaid : Prop := Claim7.holds Tryd.pinned (.plain (OpenSpec.ofChange carRestsSpec)) carRestsCard

/-- THE TIED CARD OF 'joustlaw15.CarHits'. -/
def carHitsCard : Claim7 := { stood := { row := carHitsRow, standIns := [], harness := (true, "4485eacc89da9378c0e25446e153d25f1730855e47acd42e1a5eaf946b7a16b7"), looks := false }, kinds := [], alts := [], laidByText := true, laidKinds := [.data], laidTests := true, laidLooks := .later }
def CarHitsCardSaid : Prop := Claim7.holds Tryd.pinned (.plain (OpenSpec.ofChange carHitsSpec)) carHitsCard

/-- THE SECOND FORM's CARD OF 'joustlaw15.CarRound'. -/
def carRoundUptoCard : Claim7 := { stood := { row := carRoundUptoRow, standIns := [], harness := (true, "4485eacc89da9378c0e25446e153d25f1730855e47acd42e1a5eaf946b7a16b7"), looks := false }, kinds := [], alts := [], laidByText := true, laidKinds := [.data], laidTests := true, laidLooks := .later }
def CarRoundUptoCardSaid : Prop := Claim7.holds Tryd.pinned (.plain (OpenSpec.upto carRoundSpec)) carRoundUptoCard

/-- THE SECOND FORM's CARD OF 'joustlaw15.CarFree'. -/
def carFreeUptoCard : Claim7 := { stood := { row := carFreeUptoRow, standIns := [], harness := (true, "4485eacc89da9378c0e25446e153d25f1730855e47acd42e1a5eaf946b7a16b7"), looks := false }, kinds := [], alts := [], laidByText := true, laidKinds := [.data], laidTests := true, laidLooks := .later }
def CarFreeUptoCardSaid : Prop := Claim7.holds Tryd.pinned (.plain (OpenSpec.upto carFreeSpec)) carFreeUptoCard

/-- THE SECOND FORM's CARD OF 'joustlaw15.CarTwice'. -/
def carTwiceUptoCard : Claim7 := { stood := { row := carTwiceUptoRow, standIns := [], harness := (true, "4485eacc89da9378c0e25446e153d25f1730855e47acd42e1a5eaf946b7a16b7"), looks := false }, kinds := [], alts := [], laidByText := true, laidKinds := [.data], laidTests := true, laidLooks := .later }
def CarTwiceUptoCardSaid : Prop := Claim7.holds Tryd.pinned (.plain (OpenSpec.upto carTwiceSpec)) carTwiceUptoCard

/-- THE SECOND FORM's CARD OF 'joustlaw15.CarComes'. -/
def carComesUptoCard : Claim7 := { stood := { row := carComesUptoRow, standIns := [], harness := (true, "4485eacc89da9378c0e25446e153d25f1730855e47acd42e1a5eaf946b7a16b7"), looks := false }, kinds := [], alts := [], laidByText := true, laidKinds := [.data], laidTests := true, laidLooks := .later }
def CarComesUptoCardSaid : Prop := Claim7.holds Tryd.pinned (.plain (OpenSpec.upto carComesSpec)) carComesUptoCard

/-- THE SECOND FORM's CARD OF 'joustlaw15.CarRests'. -/
def carRestsUptoCard : Claim7 := { stood := { row := carRestsUptoRow, standIns := [], harness := (true, "4485eacc89da9378c0e25446e153d25f1730855e47acd42e1a5eaf946b7a16b7"), looks := false }, kinds := [], alts := [], laidByText := true, laidKinds := [.data], laidTests := true, laidLooks := .later }
def CarRestsUptoCardSaid : Prop := Claim7.holds Tryd.pinned (.plain (OpenSpec.upto carRestsSpec)) carRestsUptoCard

/-- THE SECOND FORM's CARD OF 'joustlaw15.CarHits'. -/
def carHitsUptoCard : Claim7 := { stood := { row := carHitsUptoRow, standIns := [], harness := (true, "4485eacc89da9378c0e25446e153d25f1730855e47acd42e1a5eaf946b7a16b7"), looks := false }, kinds := [], alts := [], laidByText := true, laidKinds := [.data], laidTests := true, laidLooks := .later }
def CarHitsUptoCardSaid : Prop := Claim7.holds Tryd.pinned (.plain (OpenSpec.upto carHitsSpec)) carHitsUptoCard
end Rows
end Go.Proofs.YtobdcngjpgndiaaDoor
