/-
  DERIVED. GIVEN WITH THE SEED: THE CARDS: each row of YtmacmoikjgmaoaaDoorRows.lean that lists a variable, with what it lists TIED to the program's text (the seventh form; the later family's looks); each row that meets fmt, with fmt's text TOLD by the authors' own Lean function (tested against real Go, not proved from fmt's source: count such statements apart). THE CARD IS WHAT COUNTS. Prove the row's statement (the work); the ties are given (YtmacmoikjgmaoaaDoorTie.lean); close each card by the builder's one call (the guide's Derived/Test/ToyasCard.lean, 'card_holds'). Laid BY PROGRAM, IN A SANDBOX (cutbox-door.mjs). By AI agents, Wed Nov 11 2026. No macro, syntax, notation, axiom, sorry.
-/
import Derived.Test.YtmacmoikjgmaoaaDoorRows
import GoSem.ClaimSeven
namespace Go.Proofs.YtmacmoikjgmaoaaDoor
namespace Rows

/-- THE TIED CARD OF 'joustlaw16.ShotFlies'. -/
def shotFliesCard : Claim7 := { stood := { row := shotFliesRow, standIns := [], harness := (true, "81817b4f5a1d03472509320ecc5d0b907dd9a2809fa8ce0f265bdbf3f3b2f614"), looks := false }, kinds := [], alts := [], laidByText := true, laidKinds := [.data], laidTests := true, laidLooks := .later }
def ShotFliesCardSaid : Prop := Claim7.holds Tryd.pinned (.plain (OpenSpec.ofChange shotFliesSpec)) shotFliesCard

/-- THE TIED CARD OF 'joustlaw16.ShotBlind'. -/
def shotBlindCard : Claim7 := { stood := { row := shotBlindRow, standIns := [], harness := (true, "81817b4f5a1d03472509320ecc5d0b907dd9a2809fa8ce0f265bdbf3f3b2f614"), looks := false }, kinds := [], alts := [], laidByText := true, laidKinds := [.data], laidTests := true, laidLooks := .later }
def ShotBlindCardSaid : Prop := Claim7.holds Tryd.pinned (.plain (OpenSpec.ofChange shotBlindSpec)) shotBlindCard

/-- THE TIED CARD OF 'joustlaw16.ShotPays'. -/
def shotPaysCard : Claim7 := { stood := { row := shotPaysRow, standIns := [], harness := (true, "81817b4f5a1d03472509320ecc5d0b907dd9a2809fa8ce0f265bdbf3f3b2f614"), looks := false }, kinds := [], alts := [], laidByText := true, laidKinds := [.data], laidTests := true, laidLooks := .later }
def ShotPaysCardSaid : Prop := Claim7.holds Tryd.pinned (.plain (OpenSpec.ofChange shotPaysSpec)) shotPaysCard

/-- THE TIED CARD OF 'joustlaw16.ShotJumps'. -/
def shotJumpsCard : Claim7 := { stood := { row := shotJumpsRow, standIns := [], harness := (true, "81817b4f5a1d03472509320ecc5d0b907dd9a2809fa8ce0f265bdbf3f3b2f614"), looks := false }, kinds := [], alts := [], laidByText := true, laidKinds := [.data], laidTests := true, laidLooks := .later }
def ShotJumpsCardSaid : Prop := Claim7.holds Tryd.pinned (.plain (OpenSpec.ofChange shotJumpsSpec)) shotJumpsCard

/-- THE TIED CARD OF 'joustlaw16.ShotFires'. -/
def shotFiresCard : Claim7 := { stood := { row := shotFiresRow, standIns := [], harness := (true, "81817b4f5a1d03472509320ecc5d0b907dd9a2809fa8ce0f265bdbf3f3b2f614"), looks := false }, kinds := [], alts := [], laidByText := true, laidKinds := [.data], laidTests := true, laidLooks := .later }
def ShotFiresCardSaid : Prop := Claim7.holds Tryd.pinned (.plain (OpenSpec.ofChange shotFiresSpec)) shotFiresCard

/-- THE TIED CARD OF 'joustlaw16.ShotMoves'. -/
def shotMovesCard : Claim7 := { stood := { row := shotMovesRow, standIns := [], harness := (true, "81817b4f5a1d03472509320ecc5d0b907dd9a2809fa8ce0f265bdbf3f3b2f614"), looks := false }, kinds := [], alts := [], laidByText := true, laidKinds := [.data], laidTests := true, laidLooks := .later }
def ShotMovesCardSaid : Prop := Claim7.holds Tryd.pinned (.plain (OpenSpec.ofChange shotMovesSpec)) shotMovesCard

/-- THE SECOND FORM's CARD OF 'joustlaw16.ShotFlies'. -/
def shotFliesUptoCard : Claim7 := { stood := { row := shotFliesUptoRow, standIns := [], harness := (true, "81817b4f5a1d03472509320ecc5d0b907dd9a2809fa8ce0f265bdbf3f3b2f614"), looks := false }, kinds := [], alts := [], laidByText := true, laidKinds := [.data], laidTests := true, laidLooks := .later }
def ShotFliesUptoCardSaid : Prop := Claim7.holds Tryd.pinned (.plain (OpenSpec.upto shotFliesSpec)) shotFliesUptoCard

/-- THE SECOND FORM's CARD OF 'joustlaw16.ShotBlind'. -/
def shotBlindUptoCard : Claim7 := { stood := { row := shotBlindUptoRow, standIns := [], harness := (true, "81817b4f5a1d03472509320ecc5d0b907dd9a2809fa8ce0f265bdbf3f3b2f614"), looks := false }, kinds := [], alts := [], laidByText := true, laidKinds := [.data], laidTests := true, laidLooks := .later }
def ShotBlindUptoCardSaid : Prop := Claim7.holds Tryd.pinned (.plain (OpenSpec.upto shotBlindSpec)) shotBlindUptoCard

/-- THE SECOND FORM's CARD OF 'joustlaw16.ShotPays'. -/
def shotPaysUptoCard : Claim7 := { stood := { row := shotPaysUptoRow, standIns := [], harness := (true, "81817b4f5a1d03472509320ecc5d0b907dd9a2809fa8ce0f265bdbf3f3b2f614"), looks := false }, kinds := [], alts := [], laidByText := true, laidKinds := [.data], laidTests := true, laidLooks := .later }
def ShotPaysUptoCardSaid : Prop := Claim7.holds Tryd.pinned (.plain (OpenSpec.upto shotPaysSpec)) shotPaysUptoCard

/-- THE SECOND FORM's CARD OF 'joustlaw16.ShotJumps'. -/
def shotJumpsUptoCard : Claim7 := { stood := { row := shotJumpsUptoRow, standIns := [], harness := (true, "81817b4f5a1d03472509320ecc5d0b907dd9a2809fa8ce0f265bdbf3f3b2f614"), looks := false }, kinds := [], alts := [], laidByText := true, laidKinds := [.data], laidTests := true, laidLooks := .later }
def ShotJumpsUptoCardSaid : Prop := Claim7.holds Tryd.pinned (.plain (OpenSpec.upto shotJumpsSpec)) shotJumpsUptoCard

/-- THE SECOND FORM's CARD OF 'joustlaw16.ShotFires'. -/
def shotFiresUptoCard : Claim7 := { stood := { row := shotFiresUptoRow, standIns := [], harness := (true, "81817b4f5a1d03472509320ecc5d0b907dd9a2809fa8ce0f265bdbf3f3b2f614"), looks := false }, kinds := [], alts := [], laidByText := true, laidKinds := [.data], laidTests := true, laidLooks := .later }
def ShotFiresUptoCardSaid : Prop := Claim7.holds Tryd.pinned (.plain (OpenSpec.upto shotFiresSpec)) shotFiresUptoCard

/-- THE SECOND FORM's CARD OF 'joustlaw16.ShotMoves'. -/
def shotMovesUptoCard : Claim7 := { stood := { row := shotMovesUptoRow, standIns := [], harness := (true, "81817b4f5a1d03472509320ecc5d0b907dd9a2809fa8ce0f265bdbf3f3b2f614"), looks := false }, kinds := [], alts := [], laidByText := true, laidKinds := [.data], laidTests := true, laidLooks := .later }
def ShotMovesUptoCardSaid : Prop := Claim7.holds Tryd.pinned (.plain (OpenSpec.upto shotMovesSpec)) shotMovesUptoCard
end Rows
end Go.Proofs.YtmacmoikjgmaoaaDoor
