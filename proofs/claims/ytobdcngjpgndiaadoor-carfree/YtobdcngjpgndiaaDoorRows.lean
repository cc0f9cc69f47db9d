/-
  NARROWER THAN 'FOR EVERY INPUT', by the rows' own cells (each row's printed sentence says how): CarRound: laid · CarFree: laid · CarTwice: laid · CarComes: laid · CarRests: laid · CarHits: laid.
  DERIVED. THE GIVEN ROWS OF THIS SEAT. 6 by the template 'for every input the law returns true; each argument reads behind the call as it read before'; 0 by the template 'total and deterministic' (their statements: YtobdcngjpgndiaaDoorTotals.lean).
  GIVEN WITH THE SEED: the statements are not yours to turn. If you find one false, say at which input.
  Laid BY PROGRAM, IN A SANDBOX (cutbox-rows.mjs): the forced cells as the released guide's own fill.sh prints them over the translation 74d213c8b44cb21e… (all of the seat's roots in one cut). By AI agents, Wed Nov 11 2026. No macro, syntax, notation, axiom, sorry.
-/
import Derived.Test.YtobdcngjpgndiaaDoorChecked
import GoSem.Claim
import GoSem.ClaimJoined
import GoSem.ClaimMapViews
import Derived.JoinedTies
import Derived.KernelRfl
namespace Go.Proofs.YtobdcngjpgndiaaDoor
/- THE CELL 'sum', in the pinned program and in every row, IS THE sha256 OF THE DUMP (.gsa) THAT YtobdcngjpgndiaaDoorProg.lean LOADS. Nothing in Lean hashes anything: it is a label: what it is worth is what the hold of that sum in a sandbox is worth. -/
noncomputable def Tryd.pinned : Pinned := { name := "ytobdcngjpgndiaadoor", sum := "74d213c8b44cb21e5634743ef409daac866870d9b57b93709d8307e626d3e61e", checked := Tryd.checked }
namespace Rows
def none {H : Type} : Left H := { results := [], args := [] }

/- WHAT THE LISTED PACKAGE-LEVEL VARIABLES READ AS WHEN THE CALL BEGINS. Each datum BY PROGRAM (the guide's laid-datum.mjs) off the statement by which the dump's own 'gosem.cut.vars' lays the variable. In a bare row this is a premise. The card (YtobdcngjpgndiaaDoorCards.lean) ties it to the program's text. -/
def laid_joust_fix_sines {H : Type} : DataW H := .agg [.lit (.int .i32 0), .lit (.int .i32 1608), .lit (.int .i32 3216), .lit (.int .i32 4821), .lit (.int .i32 6424), .lit (.int .i32 8022), .lit (.int .i32 9616), .lit (.int .i32 11204), .lit (.int .i32 12785), .lit (.int .i32 14359), .lit (.int .i32 15924), .lit (.int .i32 17479), .lit (.int .i32 19024), .lit (.int .i32 20557), .lit (.int .i32 22078), .lit (.int .i32 23586), .lit (.int .i32 25080), .lit (.int .i32 26558), .lit (.int .i32 28020), .lit (.int .i32 29466), .lit (.int .i32 30893), .lit (.int .i32 32303), .lit (.int .i32 33692), .lit (.int .i32 35062), .lit (.int .i32 36410), .lit (.int .i32 37736), .lit (.int .i32 39040), .lit (.int .i32 40320), .lit (.int .i32 41576), .lit (.int .i32 42806), .lit (.int .i32 44011), .lit (.int .i32 45190), .lit (.int .i32 46341), .lit (.int .i32 47464), .lit (.int .i32 48559), .lit (.int .i32 49624), .lit (.int .i32 50660), .lit (.int .i32 51665), .lit (.int .i32 52639), .lit (.int .i32 53581), .lit (.int .i32 54491), .lit (.int .i32 55368), .lit (.int .i32 56212), .lit (.int .i32 57022), .lit (.int .i32 57798), .lit (.int .i32 58538), .lit (.int .i32 59244), .lit (.int .i32 59914), .lit (.int .i32 60547), .lit (.int .i32 61145), .lit (.int .i32 61705), .lit (.int .i32 62228), .lit (.int .i32 62714), .lit (.int .i32 63162), .lit (.int .i32 63572), .lit (.int .i32 63944), .lit (.int .i32 64277), .lit (.int .i32 64571), .lit (.int .i32 64827), .lit (.int .i32 65043), .lit (.int .i32 65220), .lit (.int .i32 65358), .lit (.int .i32 65457), .lit (.int .i32 65516), .lit (.int .i32 65536)]

/-- 'joustlaw15.CarRound': WHATEVER THE INPUT: true; the input reads as it did. -/
def carRoundSpec : ChangeSpec := { name := "carRound", fn := fun _ => fun
  | [d1, d2, d3] => { results := [.lit (.bool true)], args := [d1, d2, d3] }
  | _ => none }
def carRoundRow : OpenClaim := { program := "ytobdcngjpgndiaadoor", sum := "74d213c8b44cb21e5634743ef409daac866870d9b57b93709d8307e626d3e61e", func := "joust/joustlaw15.CarRound", spec := "carRound", unfollowed := true, recurses := true, named := ["joust/fix.sines"], apart := false, laid := [("joust/fix.sines", laid_joust_fix_sines)] }
def CarRoundSaid : Prop := carRoundRow.holds Tryd.pinned (OpenSpec.ofChange carRoundSpec)

/-- ITS FALSE NEIGHBOUR: 'it returns false'. Refute it at one input. -/
def carRoundWrong : ChangeSpec := { name := "carRound", fn := fun _ => fun
  | [d1, d2, d3] => { results := [.lit (.bool false)], args := [d1, d2, d3] }
  | _ => none }
def CarRoundWrongFalsely : Prop := carRoundRow.holds Tryd.pinned (OpenSpec.ofChange carRoundWrong)

/-- 'joustlaw15.CarFree': WHATEVER THE INPUT: true; the input reads as it did. -/
def carFreeSpec : ChangeSpec := { name := "carFree", fn := fun _ => fun
  | [d1, d2, d3] => { results := [.lit (.bool true)], args := [d1, d2, d3] }
  | _ => none }
def carFreeRow : OpenClaim := { program := "ytobdcngjpgndiaadoor", sum := "74d213c8b44cb21e5634743ef409daac866870d9b57b93709d8307e626d3e61e", func := "joust/joustlaw15.CarFree", spec := "carFree", unfollowed := true, recurses := true, named := ["joust/fix.sines"], apart := false, laid := [("joust/fix.sines", laid_joust_fix_sines)] }
def CarFreeSaid : Prop := carFreeRow.holds Tryd.pinned (OpenSpec.ofChange carFreeSpec)

/-- ITS FALSE NEIGHBOUR: 'it returns false'. Refute it at one input. -/
def carFreeWrong : ChangeSpec := { name := "carFree", fn := fun _ => fun
  | [d1, d2, d3] => { results := [.lit (.bool false)], args := [d1, d2, d3] }
  | _ => none }
def CarFreeWrongFalsely : Prop := carFreeRow.holds Tryd.pinned (OpenSpec.ofChange carFreeWrong)

/-- 'joustlaw15.CarTwice': WHATEVER THE INPUT: true; the input reads as it did. -/
def carTwiceSpec : ChangeSpec := { name := "carTwice", fn := fun _ => fun
  | [d1, d2, d3] => { results := [.lit (.bool true)], args := [d1, d2, d3] }
  | _ => none }
def carTwiceRow : OpenClaim := { program := "ytobdcngjpgndiaadoor", sum := "74d213c8b44cb21e5634743ef409daac866870d9b57b93709d8307e626d3e61e", func := "joust/joustlaw15.CarTwice", spec := "carTwice", unfollowed := true, recurses := true, named := ["joust/fix.sines"], apart := false, laid := [("joust/fix.sines", laid_joust_fix_sines)] }
def CarTwiceSaid : Prop := carTwiceRow.holds Tryd.pinned (OpenSpec.ofChange carTwiceSpec)

/-- ITS FALSE NEIGHBOUR: 'it returns false'. Refute it at one input. -/
def carTwiceWrong : ChangeSpec := { name := "carTwice", fn := fun _ => fun
  | [d1, d2, d3] => { results := [.lit (.bool false)], args := [d1, d2, d3] }
  | _ => none }
def CarTwiceWrongFalsely : Prop := carTwiceRow.holds Tryd.pinned (OpenSpec.ofChange carTwiceWrong)

/-- 'joustlaw15.CarComes': WHATEVER THE INPUT: true; the input reads as it did. -/
def carComesSpec : ChangeSpec := { name := "carComes", fn := fun _ => fun
  | [d1, d2] => { results := [.lit (.bool true)], args := [d1, d2] }
  | _ => none }
def carComesRow : OpenClaim := { program := "ytobdcngjpgndiaadoor", sum := "74d213c8b44cb21e5634743ef409daac866870d9b57b93709d8307e626d3e61e", func := "joust/joustlaw15.CarComes", spec := "carComes", unfollowed := true, recurses := true, named := ["joust/fix.sines"], apart := false, laid := [("joust/fix.sines", laid_joust_fix_sines)] }
def CarComesSaid : Prop := carComesRow.holds Tryd.pinned (OpenSpec.ofChange carComesSpec)

/-- ITS FALSE NEIGHBOUR: 'it returns false'. Refute it at one input. -/
def carComesWrong : ChangeSpec := { name := "carComes", fn := fun _ => fun
  | [d1, d2] => { results := [.lit (.bool false)], args := [d1, d2] }
  | _ => none }
def CarComesWrongFalsely : Prop := carComesRow.holds Tryd.pinned (OpenSpec.ofChange carComesWrong)

/-- 'joustlaw15.CarRests': WHATEVER THE INPUT: true; the input reads as it did. -/
def carRestsSpec : ChangeSpec := { name := "carRests", fn := fun _ => fun
  | [d1, d2, d3] => { results := [.lit (.bool true)], args := [d1, d2, d3] }
  | _ => none }
def carRestsRow : OpenClaim := { program := "ytobdcngjpgndiaadoor", sum := "74d213c8b44cb21e5634743ef409daac866870d9b57b93709d8307e626d3e61e", func := "joust/joustlaw15.CarRests", spec := "carRests", unfollowed := true, recurses := true, named := ["joust/fix.sines"], apart := false, laid := [("joust/fix.sines", laid_joust_fix_sines)] }
def CarRestsSaid : Prop := carRestsRow.holds Tryd.pinned (OpenSpec.ofChange carRestsSpec)

/-- ITS FALSE NEIGHBOUR: 'it returns false'. Refute it at one input. -/
def carRestsWrong : ChangeSpec := { name := "carRests", fn := fun _ => fun
  | [d1, d2, d3] => { results := [.lit (.bool false)], args := [d1, d2, d3] }
  | _ => none }
def CarRestsWrongFalsely : Prop := carRestsRow.holds Tryd.pinned (OpenSpec.ofChange carRestsWrong)

/-- 'joustlaw15.CarHits': WHATEVER THE INPUT: true; the input reads as it did. -/
def carHitsSpec : ChangeSpec := { name := "carHits", fn := fun _ => fun
  | [d1, d2, d3] => { results := [.lit (.bool true)], args := [d1, d2, d3] }
  | _ => none }
def carHitsRow : OpenClaim := { program := "ytobdcngjpgndiaadoor", sum := "74d213c8b44cb21e5634743ef409daac866870d9b57b93709d8307e626d3e61e", func := "joust/joustlaw15.CarHits", spec := "carHits", unfollowed := true, recurses := true, named := ["joust/fix.sines"], apart := false, laid := [("joust/fix.sines", laid_joust_fix_sines)] }
def CarHitsSaid : Prop := carHitsRow.holds Tryd.pinned (OpenSpec.ofChange carHitsSpec)

/-- ITS FALSE NEIGHBOUR: 'it returns false'. Refute it at one input. -/
def carHitsWrong : ChangeSpec := { name := "carHits", fn := fun _ => fun
  | [d1, d2, d3] => { results := [.lit (.bool false)], args := [d1, d2, d3] }
  | _ => none }
def CarHitsWrongFalsely : Prop := carHitsRow.holds Tryd.pinned (OpenSpec.ofChange carHitsWrong)

/- THE SECOND FORM. 'bulk': how many values and letters a reading holds, each counted each time it is reached (what is shared counts as often as it is met; a slice's spare places count too). A statement '..UptoSaid' is the law's where the arguments, and the package variables that the reading takes, are together of bulk at most 1048576: NARROWER than '..Said'. Prove '..Said' where nothing that the law and all that it calls make is longer than what came in: it says more and counts as full. Else prove '..UptoSaid'. A law counts once. -/
mutual
def uptoBulk {H : Type} : DataW H → Nat
  | .lit (.string bytes) => bytes.length + 1
  | .lit _ => 1
  | .nil => 1
  | .ptr d => uptoBulk d + 1
  | .slice elems spare => uptoBulkAll elems + uptoBulkAll spare + 1
  | .agg parts => uptoBulkAll parts + 1
  | .iface _ d => uptoBulk d + 1
  | .map entries => uptoBulkEntries entries + 1
  | .held _ => 1
def uptoBulkAll {H : Type} : List (DataW H) → Nat
  | [] => 0
  | d :: r => uptoBulk d + uptoBulkAll r
def uptoBulkEntries {H : Type} : List (Lit × DataW H) → Nat
  | [] => 0
  | x :: r => uptoBulkEntry x + uptoBulkEntries r
def uptoBulkEntry {H : Type} : Lit × DataW H → Nat
  | (.string bytes, d) => bytes.length + uptoBulk d + 1
  | (_, d) => uptoBulk d + 1
 end
def uptoSmall : (H : Type) → List (DataW H) → Bool := fun _ ds => decide (uptoBulkAll ds ≤ 1048576)
def OpenSpec.upto (s : _root_.Go.ChangeSpec) : _root_.Go.OpenSpec := { _root_.Go.OpenSpec.ofChange s with cond := some uptoSmall }

/-- 'joustlaw15.CarRound', WHERE WHAT IT READS IS OF BULK AT MOST 1048576: true; the input reads as it did. -/
def carRoundUptoRow : OpenClaim := { program := "ytobdcngjpgndiaadoor", sum := "74d213c8b44cb21e5634743ef409daac866870d9b57b93709d8307e626d3e61e", func := "joust/joustlaw15.CarRound", spec := "carRound", unfollowed := true, recurses := true, named := ["joust/fix.sines"], apart := false, laid := [("joust/fix.sines", laid_joust_fix_sines)], narrowed := true }
def CarRoundUptoSaid : Prop := carRoundUptoRow.holds Tryd.pinned (OpenSpec.upto carRoundSpec)

/-- 'joustlaw15.CarFree', WHERE WHAT IT READS IS OF BULK AT MOST 1048576: true; the input reads as it did. -/
def carFreeUptoRow : OpenClaim := { program := "ytobdcngjpgndiaadoor", sum := "74d213c8b44cb21e5634743ef409daac866870d9b57b93709d8307e626d3e61e", func := "joust/joustlaw15.CarFree", spec := "carFree", unfollowed := true, recurses := true, named := ["joust/fix.sines"], apart := false, laid := [("joust/fix.sines", laid_joust_fix_sines)], narrowed := true }
def CarFreeUptoSaid : Prop := carFreeUptoRow.holds Tryd.pinned (OpenSpec.upto carFreeSpec)

/-- 'joustlaw15.CarTwice', WHERE WHAT IT READS IS OF BULK AT MOST 1048576: true; the input reads as it did. -/
def carTwiceUptoRow : OpenClaim := { program := "ytobdcngjpgndiaadoor", sum := "74d213c8b44cb21e5634743ef409daac866870d9b57b93709d8307e626d3e61e", func := "joust/joustlaw15.CarTwice", spec := "carTwice", unfollowed := true, recurses := true, named := ["joust/fix.sines"], apart := false, laid := [("joust/fix.sines", laid_joust_fix_sines)], narrowed := true }
def CarTwiceUptoSaid : Prop := carTwiceUptoRow.holds Tryd.pinned (OpenSpec.upto carTwiceSpec)

/-- 'joustlaw15.CarComes', WHERE WHAT IT READS IS OF BULK AT MOST 1048576: true; the input reads as it did. -/
def carComesUptoRow : OpenClaim := { program := "ytobdcngjpgndiaadoor", sum := "74d213c8b44cb21e5634743ef409daac866870d9b57b93709d8307e626d3e61e", func := "joust/joustlaw15.CarComes", spec := "carComes", unfollowed := true, recurses := true, named := ["joust/fix.sines"], apart := false, laid := [("joust/fix.sines", laid_joust_fix_sines)], narrowed := true }
def CarComesUptoSaid : Prop := carComesUptoRow.holds Tryd.pinned (OpenSpec.upto carComesSpec)

/-- 'joustlaw15.CarRests', WHERE WHAT IT READS IS OF BULK AT MOST 1048576: true; the input reads as it did. -/
def carRestsUptoRow : OpenClaim := { program := "ytobdcngjpgndiaadoor", sum := "74d213c8b44cb21e5634743ef409daac866870d9b57b93709d8307e626d3e61e", func := "joust/joustlaw15.CarRests", spec := "carRests", unfollowed := true, recurses := true, named := ["joust/fix.sines"], apart := false, laid := [("joust/fix.sines", laid_joust_fix_sines)], narrowed := true }
def CarRestsUptoSaid : Prop := carRestsUptoRow.holds Tryd.pinned (OpenSpec.upto carRestsSpec)

/-- 'joustlaw15.CarHits', WHERE WHAT IT READS IS OF BULK AT MOST 1048576: true; the input reads as it did. -/
def carHitsUptoRow : OpenClaim := { program := "ytobdcngjpgndiaadoor", sum := "74d213c8b44cb21e5634743ef409daac866870d9b57b93709d8307e626d3e61e", func := "joust/joustlaw15.CarHits", spec := "carHits", unfollowed := true, recurses := true, named := ["joust/fix.sines"], apart := false, laid := [("joust/fix.sines", laid_joust_fix_sines)], narrowed := true }
def CarHitsUptoSaid : Prop := carHitsUptoRow.holds Tryd.pinned (OpenSpec.upto carHitsSpec)

end Rows
end Go.Proofs.YtobdcngjpgndiaaDoor
