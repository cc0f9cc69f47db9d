/-
  DERIVED. GIVEN WITH THE SEED: THE CARDS: each row of YtkfkhjafhlafhaaDoorRows.lean that lists a variable, with what it lists TIED to the program's text (the seventh form; the later family's looks); each row that meets fmt, with fmt's text TOLD by the authors' own Lean function (tested against real Go, not proved from fmt's source: count such statements apart). THE CARD IS WHAT COUNTS. Prove the row's statement (the work); the ties are given (YtkfkhjafhlafhaaDoorTie.lean); close each card by the builder's one call (the guide's Derived/Test/ToyasCard.lean, 'card_holds'). Laid BY PROGRAM, IN A SANDBOX (cutbox-door.mjs). By AI agents, Wed Nov 11 2026. No macro, syntax, notation, axiom, sorry.
-/
import Derived.Test.YtkfkhjafhlafhaaDoorRows
import GoSem.ClaimSeven
namespace Go.Proofs.YtkfkhjafhlafhaaDoor
namespace Rows

/-- THE TIED CARD OF 'joustlaw03.FixRounds'. -/
def fixRoundsCard : Claim7 := { stood := { row := fixRoundsRow, standIns := [], harness := (true, "5fb48f54f92d6c95b6a82dfc456cfe4a90be2c73e954b2000c66ea8da51d447a"), looks := false }, kinds := [], alts := [], laidByText := true, laidKinds := [.data], laidTests := true, laidLooks := .later }
def FixRoundsCardSaid : Prop := Claim7.holds Tryd.pinned (.plain (OpenSpec.ofChange fixRoundsSpec)) fixRoundsCard

/-- THE TIED CARD OF 'joustlaw03.FixBounds'. -/
def fixBoundsCard : Claim7 := { stood := { row := fixBoundsRow, standIns := [], harness := (true, "5fb48f54f92d6c95b6a82dfc456cfe4a90be2c73e954b2000c66ea8da51d447a"), looks := false }, kinds := [], alts := [], laidByText := true, laidKinds := [.data], laidTests := true, laidLooks := .later }
def FixBoundsCardSaid : Prop := Claim7.holds Tryd.pinned (.plain (OpenSpec.ofChange fixBoundsSpec)) fixBoundsCard

/-- THE TIED CARD OF 'joustlaw03.FixTurns'. -/
def fixTurnsCard : Claim7 := { stood := { row := fixTurnsRow, standIns := [], harness := (true, "5fb48f54f92d6c95b6a82dfc456cfe4a90be2c73e954b2000c66ea8da51d447a"), looks := false }, kinds := [], alts := [], laidByText := true, laidKinds := [.data], laidTests := true, laidLooks := .later }
def FixTurnsCardSaid : Prop := Claim7.holds Tryd.pinned (.plain (OpenSpec.ofChange fixTurnsSpec)) fixTurnsCard

/-- THE TIED CARD OF 'joustlaw03.FixFloats'. -/
def fixFloatsCard : Claim7 := { stood := { row := fixFloatsRow, standIns := [], harness := (true, "5fb48f54f92d6c95b6a82dfc456cfe4a90be2c73e954b2000c66ea8da51d447a"), looks := false }, kinds := [], alts := [], laidByText := true, laidKinds := [.data], laidTests := true, laidLooks := .later }
def FixFloatsCardSaid : Prop := Claim7.holds Tryd.pinned (.plain (OpenSpec.ofChange fixFloatsSpec)) fixFloatsCard

/-- THE TIED CARD OF 'joustlaw03.FixExact'. -/
def fixExactCard : Claim7 := { stood := { row := fixExactRow, standIns := [], harness := (true, "5fb48f54f92d6c95b6a82dfc456cfe4a90be2c73e954b2000c66ea8da51d447a"), looks := false }, kinds := [], alts := [], laidByText := true, laidKinds := [.data], laidTests := true, laidLooks := .later }
def FixExactCardSaid : Prop := Claim7.holds Tryd.pinned (.plain (OpenSpec.ofChange fixExactSpec)) fixExactCard

/-- THE SECOND FORM's CARD OF 'joustlaw03.FixRounds'. -/
def fixRoundsUptoCard : Claim7 := { stood := { row := fixRoundsUptoRow, standIns := [], harness := (true, "5fb48f54f92d6c95b6a82dfc456cfe4a90be2c73e954b2000c66ea8da51d447a"), looks := false }, kinds := [], alts := [], laidByText := true, laidKinds := [.data], laidTests := true, laidLooks := .later }
def FixRoundsUptoCardSaid : Prop := Claim7.holds Tryd.pinned (.plain (OpenSpec.upto fixRoundsSpec)) fixRoundsUptoCard

/-- THE SECOND FORM's CARD OF 'joustlaw03.FixBounds'. -/
def fixBoundsUptoCard : Claim7 := { stood := { row := fixBoundsUptoRow, standIns := [], harness := (true, "5fb48f54f92d6c95b6a82dfc456cfe4a90be2c73e954b2000c66ea8da51d447a"), looks := false }, kinds := [], alts := [], laidByText := true, laidKinds := [.data], laidTests := true, laidLooks := .later }
def FixBoundsUptoCardSaid : Prop := Claim7.holds Tryd.pinned (.plain (OpenSpec.upto fixBoundsSpec)) fixBoundsUptoCard

/-- THE SECOND FORM's CARD OF 'joustlaw03.FixTurns'. -/
def fixTurnsUptoCard : Claim7 := { stood := { row := fixTurnsUptoRow, standIns := [], harness := (true, "5fb48f54f92d6c95b6a82dfc456cfe4a90be2c73e954b2000c66ea8da51d447a"), looks := false }, kinds := [], alts := [], laidByText := true, laidKinds := [.data], laidTests := true, laidLooks := .later }
def FixTurnsUptoCardSaid : Prop := Claim7.holds Tryd.pinned (.plain (OpenSpec.upto fixTurnsSpec)) fixTurnsUptoCard

/-- THE SECOND FORM's CARD OF 'joustlaw03.FixFloats'. -/
def fixFloatsUptoCard : Claim7 := { stood := { row := fixFloatsUptoRow, standIns := [], harness := (true, "5fb48f54f92d6c95b6a82dfc456cfe4a90be2c73e954b2000c66ea8da51d447a"), looks := false }, kinds := [], alts := [], laidByText := true, laidKinds := [.data], laidTests := true, laidLooks := .later }
def FixFloatsUptoCardSaid : Prop := Claim7.holds Tryd.pinned (.plain (OpenSpec.upto fixFloatsSpec)) fixFloatsUptoCard

/-- THE SECOND FORM's CARD OF 'joustlaw03.FixExact'. -/
def fixExactUptoCard : Claim7 := { stood := { row := fixExactUptoRow, standIns := [], harness := (true, "5fb48f54f92d6c95b6a82dfc456cfe4a90be2c73e954b2000c66ea8da51d447a"), looks := false }, kinds := [], alts := [], laidByText := true, laidKinds := [.data], laidTests := true, laidLooks := .later }
def FixExactUptoCardSaid : Prop := Claim7.holds Tryd.pinned (.plain (OpenSpec.upto fixExactSpec)) fixExactUptoCard
end Rows
end Go.Proofs.YtkfkhjafhlafhaaDoor
