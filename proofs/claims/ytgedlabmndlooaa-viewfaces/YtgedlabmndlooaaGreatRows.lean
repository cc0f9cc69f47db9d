/-
  No cell of these rows narrows 'for every input' (looked for: loops, veiled, ifaces, maps, wideKeys, modest, calm, conditions, laid).
  DERIVED. THE GIVEN ROWS OF THIS SEAT. 6 by the template 'for every input the law returns true; each argument reads behind the call as it read before'; 0 by the template 'total and deterministic' (their statements: YtgedlabmndlooaaGreatTotals.lean).
  GIVEN WITH THE SEED: the statements are not yours to turn. If you find one false, say at which input.
  Laid BY PROGRAM, IN A SANDBOX (cutbox-rows.mjs): the forced cells as the released guide's own fill.sh prints them over the translation 92e7b078c9bed839… (all of the seat's roots in one cut). By AI agents, Wed Nov 11 2026. No macro, syntax, notation, axiom, sorry.
-/
import Derived.Test.YtgedlabmndlooaaGreatChecked
import GoSem.Claim
import GoSem.ClaimJoined
import GoSem.ClaimMapViews
import Derived.JoinedTies
import Derived.KernelRfl
namespace Go.Proofs.YtgedlabmndlooaaGreat
/- THE CELL 'sum', in the pinned program and in every row, IS THE sha256 OF THE DUMP (.gsa) THAT YtgedlabmndlooaaGreatProg.lean LOADS. Nothing in Lean hashes anything: it is a label: what it is worth is what the hold of that sum in a sandbox is worth. -/
noncomputable def Tryz.pinned : Pinned := { name := "ytgedlabmndlooaagreat", sum := "92e7b078c9bed8391b3bd08174a0debc436dcd035e1947bd970ed6477afd107a", checked := Tryz.checked }
namespace Rows
def none {H : Type} : Left H := { results := [], args := [] }

/-- 'joustlaw21.ViewEquals': WHATEVER THE INPUT: true; the input reads as it did. -/
def viewEqualsSpec : ChangeSpec := { name := "viewEquals", fn := fun _ => fun
  | [d1, d2] => { results := [.lit (.bool true)], args := [d1, d2] }
  | _ => none }
def viewEqualsRow : OpenClaim := { program := "ytgedlabmndlooaagreat", sum := "92e7b078c9bed8391b3bd08174a0debc436dcd035e1947bd970ed6477afd107a", func := "joust/joustlaw21.ViewEquals", spec := "viewEquals", unfollowed := true, recurses := true, plainKeys := false, apart := false }
def ViewEqualsSaid : Prop := viewEqualsRow.holds Tryz.pinned (OpenSpec.ofChange viewEqualsSpec)

/-- ITS FALSE NEIGHBOUR: 'it returns false'. Refute it at one input. -/
def viewEqualsWrong : ChangeSpec := { name := "viewEquals", fn := fun _ => fun
  | [d1, d2] => { results := [.lit (.bool false)], args := [d1, d2] }
  | _ => none }
def ViewEqualsWrongFalsely : Prop := viewEqualsRow.holds Tryz.pinned (OpenSpec.ofChange viewEqualsWrong)

/-- 'joustlaw21.ViewNoMore': WHATEVER THE INPUT: true; the input reads as it did. -/
def viewNoMoreSpec : ChangeSpec := { name := "viewNoMore", fn := fun _ => fun
  | [d1, d2] => { results := [.lit (.bool true)], args := [d1, d2] }
  | _ => none }
def viewNoMoreRow : OpenClaim := { program := "ytgedlabmndlooaagreat", sum := "92e7b078c9bed8391b3bd08174a0debc436dcd035e1947bd970ed6477afd107a", func := "joust/joustlaw21.ViewNoMore", spec := "viewNoMore", unfollowed := true, recurses := true, plainKeys := false, apart := false }
def ViewNoMoreSaid : Prop := viewNoMoreRow.holds Tryz.pinned (OpenSpec.ofChange viewNoMoreSpec)

/-- ITS FALSE NEIGHBOUR: 'it returns false'. Refute it at one input. -/
def viewNoMoreWrong : ChangeSpec := { name := "viewNoMore", fn := fun _ => fun
  | [d1, d2] => { results := [.lit (.bool false)], args := [d1, d2] }
  | _ => none }
def ViewNoMoreWrongFalsely : Prop := viewNoMoreRow.holds Tryz.pinned (OpenSpec.ofChange viewNoMoreWrong)

/-- 'joustlaw21.ViewTells': WHATEVER THE INPUT: true; the input reads as it did. -/
def viewTellsSpec : ChangeSpec := { name := "viewTells", fn := fun _ => fun
  | [d1, d2] => { results := [.lit (.bool true)], args := [d1, d2] }
  | _ => none }
def viewTellsRow : OpenClaim := { program := "ytgedlabmndlooaagreat", sum := "92e7b078c9bed8391b3bd08174a0debc436dcd035e1947bd970ed6477afd107a", func := "joust/joustlaw21.ViewTells", spec := "viewTells", unfollowed := true, recurses := true, plainKeys := false, apart := false }
def ViewTellsSaid : Prop := viewTellsRow.holds Tryz.pinned (OpenSpec.ofChange viewTellsSpec)

/-- ITS FALSE NEIGHBOUR: 'it returns false'. Refute it at one input. -/
def viewTellsWrong : ChangeSpec := { name := "viewTells", fn := fun _ => fun
  | [d1, d2] => { results := [.lit (.bool false)], args := [d1, d2] }
  | _ => none }
def ViewTellsWrongFalsely : Prop := viewTellsRow.holds Tryz.pinned (OpenSpec.ofChange viewTellsWrong)

/-- 'joustlaw21.ViewNested': WHATEVER THE INPUT: true; the input reads as it did. -/
def viewNestedSpec : ChangeSpec := { name := "viewNested", fn := fun _ => fun
  | [d1, d2, d3] => { results := [.lit (.bool true)], args := [d1, d2, d3] }
  | _ => none }
def viewNestedRow : OpenClaim := { program := "ytgedlabmndlooaagreat", sum := "92e7b078c9bed8391b3bd08174a0debc436dcd035e1947bd970ed6477afd107a", func := "joust/joustlaw21.ViewNested", spec := "viewNested", unfollowed := true, recurses := true, plainKeys := false, apart := false }
def ViewNestedSaid : Prop := viewNestedRow.holds Tryz.pinned (OpenSpec.ofChange viewNestedSpec)

/-- ITS FALSE NEIGHBOUR: 'it returns false'. Refute it at one input. -/
def viewNestedWrong : ChangeSpec := { name := "viewNested", fn := fun _ => fun
  | [d1, d2, d3] => { results := [.lit (.bool false)], args := [d1, d2, d3] }
  | _ => none }
def ViewNestedWrongFalsely : Prop := viewNestedRow.holds Tryz.pinned (OpenSpec.ofChange viewNestedWrong)

/-- 'joustlaw21.ViewKeeps': WHATEVER THE INPUT: true; the input reads as it did. -/
def viewKeepsSpec : ChangeSpec := { name := "viewKeeps", fn := fun _ => fun
  | [d1, d2] => { results := [.lit (.bool true)], args := [d1, d2] }
  | _ => none }
def viewKeepsRow : OpenClaim := { program := "ytgedlabmndlooaagreat", sum := "92e7b078c9bed8391b3bd08174a0debc436dcd035e1947bd970ed6477afd107a", func := "joust/joustlaw21.ViewKeeps", spec := "viewKeeps", unfollowed := true, recurses := true, plainKeys := false, apart := false }
def ViewKeepsSaid : Prop := viewKeepsRow.holds Tryz.pinned (OpenSpec.ofChange viewKeepsSpec)

/-- ITS FALSE NEIGHBOUR: 'it returns false'. Refute it at one input. -/
def viewKeepsWrong : ChangeSpec := { name := "viewKeeps", fn := fun _ => fun
  | [d1, d2] => { results := [.lit (.bool false)], args := [d1, d2] }
  | _ => none }
def ViewKeepsWrongFalsely : Prop := viewKeepsRow.holds Tryz.pinned (OpenSpec.ofChange viewKeepsWrong)

/-- 'joustlaw21.ViewFaces': WHATEVER THE INPUT: true; the input reads as it did. -/
def viewFacesSpec : ChangeSpec := { name := "viewFaces", fn := fun _ => fun
  | [d1, d2] => { results := [.lit (.bool true)], args := [d1, d2] }
  | _ => none }
def viewFacesRow : OpenClaim := { program := "ytgedlabmndlooaagreat", sum := "92e7b078c9bed8391b3bd08174a0debc436dcd035e1947bd970ed6477afd107a", func := "joust/joustlaw21.ViewFaces", spec := "viewFaces", unfollowed := true, recurses := true, plainKeys := false, apart := false }
def ViewFacesSaid : Prop := viewFacesRow.holds Tryz.pinned (OpenSpec.ofChange viewFacesSpec)

/-- ITS FALSE NEIGHBOUR: 'it returns false'. Refute it at one input. -/
def viewFacesWrong : ChangeSpec := { name := "viewFaces", fn := fun _ => fun
  | [d1, d2] => { results := [.lit (.bool false)], args := [d1, d2] }
  | _ => none }
def ViewFacesWrongFalsely : Prop := viewFacesRow.holds Tryz.pinned (OpenSpec.ofChange viewFacesWrong)

/- THE SECOND FORM. 'bulk': how many values and letters a reading holds, each counted each time it is reached (what is shared counts as often as it is met; a slice's spare places count too). A statement '..UptoSaid' is the law's where the arguments, and the package variables that the reading takes, are together of bulk at most 1048576: NARROWER than '..Said'. Prove '..Said' where nothing that the law and all that it calls make is longer than what came in: it says more and counts as full. Else prove '..UptoSaid'. A law counts once. -/
mutual
def uptoBulk {H : Type} : DataW H → Nat
  | .lit (.string bytes) => bytes.length + 1
  | .lit _ => 1
  | .nil => 1
  | .ptr d => uptoBulk d + 1
  | .slice elems spare => uptoBulkAll elems + uptoBulkAll spare + 1
  | .agg parts => uptoBulkAll parts + 1
  | .iface _ d => uptoBulk d + 1
  | .map entries => uptoBulkEntries entries + 1
  | .held _ => 1
def uptoBulkAll {H : Type} : List (DataW H) → Nat
  | [] => 0
  | d :: r => uptoBulk d + uptoBulkAll r
def uptoBulkEntries {H : Type} : List (Lit × DataW H) → Nat
  | [] => 0
  | x :: r => uptoBulkEntry x + uptoBulkEntries r
def uptoBulkEntry {H : Type} : Lit × DataW H → Nat
  | (.string bytes, d) => bytes.length + uptoBulk d + 1
  | (_, d) => uptoBulk d + 1
 end
def uptoSmall : (H : Type) → List (DataW H) → Bool := fun _ ds => decide (uptoBulkAll ds ≤ 1048576)
def OpenSpec.upto (s : _root_.Go.ChangeSpec) : _root_.Go.OpenSpec := { _root_.Go.OpenSpec.ofChange s with cond := some uptoSmall }

/-- 'joustlaw21.ViewEquals', WHERE WHAT IT READS IS OF BULK AT MOST 1048576: true; the input reads as it did. -/
def viewEqualsUptoRow : OpenClaim := { program := "ytgedlabmndlooaagreat", sum := "92e7b078c9bed8391b3bd08174a0debc436dcd035e1947bd970ed6477afd107a", func := "joust/joustlaw21.ViewEquals", spec := "viewEquals", unfollowed := true, recurses := true, plainKeys := false, apart := false, narrowed := true }
def ViewEqualsUptoSaid : Prop := viewEqualsUptoRow.holds Tryz.pinned (OpenSpec.upto viewEqualsSpec)

/-- 'joustlaw21.ViewNoMore', WHERE WHAT IT READS IS OF BULK AT MOST 1048576: true; the input reads as it did. -/
def viewNoMoreUptoRow : OpenClaim := { program := "ytgedlabmndlooaagreat", sum := "92e7b078c9bed8391b3bd08174a0debc436dcd035e1947bd970ed6477afd107a", func := "joust/joustlaw21.ViewNoMore", spec := "viewNoMore", unfollowed := true, recurses := true, plainKeys := false, apart := false, narrowed := true }
def ViewNoMoreUptoSaid : Prop := viewNoMoreUptoRow.holds Tryz.pinned (OpenSpec.upto viewNoMoreSpec)

/-- 'joustlaw21.ViewTells', WHERE WHAT IT READS IS OF BULK AT MOST 1048576: true; the input reads as it did. -/
def viewTellsUptoRow : OpenClaim := { program := "ytgedlabmndlooaagreat", sum := "92e7b078c9bed8391b3bd08174a0debc436dcd035e1947bd970ed6477afd107a", func := "joust/joustlaw21.ViewTells", spec := "viewTells", unfollowed := true, recurses := true, plainKeys := false, apart := false, narrowed := true }
def ViewTellsUptoSaid : Prop := viewTellsUptoRow.holds Tryz.pinned (OpenSpec.upto viewTellsSpec)

/-- 'joustlaw21.ViewNested', WHERE WHAT IT READS IS OF BULK AT MOST 1048576: true; the input reads as it did. -/
def viewNestedUptoRow : OpenClaim := { program := "ytgedlabmndlooaagreat", sum := "92e7b078c9bed8391b3bd08174a0debc436dcd035e1947bd970ed6477afd107a", func := "joust/joustlaw21.ViewNested", spec := "viewNested", unfollowed := true, recurses := true, plainKeys := false, apart := false, narrowed := true }
def ViewNestedUptoSaid : Prop := viewNestedUptoRow.holds Tryz.pinned (OpenSpec.upto viewNestedSpec)

/-- 'joustlaw21.ViewKeeps', WHERE WHAT IT READS IS OF BULK AT MOST 1048576: true; the input reads as it did. -/
def viewKeepsUptoRow : OpenClaim := { program := "ytgedlabmndlooaagreat", sum := "92e7b078c9bed8391b3bd08174a0debc436dcd035e1947bd970ed6477afd107a", func := "joust/joustlaw21.ViewKeeps", spec := "viewKeeps", unfollowed := true, recurses := true, plainKeys := false, apart := false, narrowed := true }
def ViewKeepsUptoSaid : Prop := viewKeepsUptoRow.holds Tryz.pinned (OpenSpec.upto viewKeepsSpec)

/-- 'joustlaw21.ViewFaces', WHERE WHAT IT READS IS OF BULK AT MOST 1048576: true; the input reads as it did. -/
def viewFacesUptoRow : OpenClaim := { program := "ytgedlabmndlooaagreat", sum := "92e7b078c9bed8391b3bd08174a0debc436dcd035e1947bd970ed6477afd107a", func := "joust/joustlaw21.ViewFaces", spec := "viewFaces", unfollowed := true, recurses := true, plainKeys := false, apart := false, narrowed := true }
def ViewFacesUptoSaid : Prop := viewFacesUptoRow.holds Tryz.pinned (OpenSpec.upto viewFacesSpec)

end Rows
end Go.Proofs.YtgedlabmndlooaaGreat
