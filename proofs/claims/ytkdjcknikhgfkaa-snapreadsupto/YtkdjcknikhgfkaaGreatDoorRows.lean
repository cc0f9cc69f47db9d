/-
  NARROWER THAN 'FOR EVERY INPUT', by the rows' own cells (each row's printed sentence says how): SnapBack: laid · SnapFits: laid · SnapMemory: laid · SnapSealed: laid · SnapTurned: laid · SnapReads: laid.
  DERIVED. THE GIVEN ROWS OF THIS SEAT. 6 by the template 'for every input the law returns true; each argument reads behind the call as it read before'; 0 by the template 'total and deterministic' (their statements: YtkdjcknikhgfkaaGreatDoorTotals.lean).
  GIVEN WITH THE SEED: the statements are not yours to turn. If you find one false, say at which input.
  Laid BY PROGRAM, IN A SANDBOX (cutbox-rows.mjs): the forced cells as the released guide's own fill.sh prints them over the translation 003e5737b33d34a8… (all of the seat's roots in one cut). By AI agents, Wed Nov 11 2026. No macro, syntax, notation, axiom, sorry.
-/
import Derived.Test.YtkdjcknikhgfkaaGreatDoorChecked
import GoSem.Claim
import GoSem.ClaimJoined
import GoSem.ClaimMapViews
import Derived.JoinedTies
import Derived.KernelRfl
namespace Go.Proofs.YtkdjcknikhgfkaaGreatDoor
/- THE CELL 'sum', in the pinned program and in every row, IS THE sha256 OF THE DUMP (.gsa) THAT YtkdjcknikhgfkaaGreatDoorProg.lean LOADS. Nothing in Lean hashes anything: it is a label: what it is worth is what the hold of that sum in a sandbox is worth. -/
noncomputable def Tryz.pinned : Pinned := { name := "ytkdjcknikhgfkaagreatdoor", sum := "003e5737b33d34a8cd2ddd89be8d925f65dab63eec8dc6c2f89ee93e2b784119", checked := Tryz.checked }
namespace Rows
def none {H : Type} : Left H := { results := [], args := [] }

/- WHAT THE LISTED PACKAGE-LEVEL VARIABLES READ AS WHEN THE CALL BEGINS. Each datum BY PROGRAM (the guide's laid-datum.mjs) off the statement by which the dump's own 'gosem.cut.vars' lays the variable. In a bare row this is a premise. The card (YtkdjcknikhgfkaaGreatDoorCards.lean) ties it to the program's text. -/
def laid_joust_sha_roundWords {H : Type} : DataW H := .agg [.lit (.int .u32 1116352408), .lit (.int .u32 1899447441), .lit (.int .u32 3049323471), .lit (.int .u32 3921009573), .lit (.int .u32 961987163), .lit (.int .u32 1508970993), .lit (.int .u32 2453635748), .lit (.int .u32 2870763221), .lit (.int .u32 3624381080), .lit (.int .u32 310598401), .lit (.int .u32 607225278), .lit (.int .u32 1426881987), .lit (.int .u32 1925078388), .lit (.int .u32 2162078206), .lit (.int .u32 2614888103), .lit (.int .u32 3248222580), .lit (.int .u32 3835390401), .lit (.int .u32 4022224774), .lit (.int .u32 264347078), .lit (.int .u32 604807628), .lit (.int .u32 770255983), .lit (.int .u32 1249150122), .lit (.int .u32 1555081692), .lit (.int .u32 1996064986), .lit (.int .u32 2554220882), .lit (.int .u32 2821834349), .lit (.int .u32 2952996808), .lit (.int .u32 3210313671), .lit (.int .u32 3336571891), .lit (.int .u32 3584528711), .lit (.int .u32 113926993), .lit (.int .u32 338241895), .lit (.int .u32 666307205), .lit (.int .u32 773529912), .lit (.int .u32 1294757372), .lit (.int .u32 1396182291), .lit (.int .u32 1695183700), .lit (.int .u32 1986661051), .lit (.int .u32 2177026350), .lit (.int .u32 2456956037), .lit (.int .u32 2730485921), .lit (.int .u32 2820302411), .lit (.int .u32 3259730800), .lit (.int .u32 3345764771), .lit (.int .u32 3516065817), .lit (.int .u32 3600352804), .lit (.int .u32 4094571909), .lit (.int .u32 275423344), .lit (.int .u32 430227734), .lit (.int .u32 506948616), .lit (.int .u32 659060556), .lit (.int .u32 883997877), .lit (.int .u32 958139571), .lit (.int .u32 1322822218), .lit (.int .u32 1537002063), .lit (.int .u32 1747873779), .lit (.int .u32 1955562222), .lit (.int .u32 2024104815), .lit (.int .u32 2227730452), .lit (.int .u32 2361852424), .lit (.int .u32 2428436474), .lit (.int .u32 2756734187), .lit (.int .u32 3204031479), .lit (.int .u32 3329325298)]
def laid_joust_joustref01_roots {H : Type} : DataW H := .agg [.lit (.int .u32 1779033703), .lit (.int .u32 3144134277), .lit (.int .u32 1013904242), .lit (.int .u32 2773480762), .lit (.int .u32 1359893119), .lit (.int .u32 2600822924), .lit (.int .u32 528734635), .lit (.int .u32 1541459225)]
def laid_joust_joustref01_cubes {H : Type} : DataW H := .agg [.lit (.int .u32 1116352408), .lit (.int .u32 1899447441), .lit (.int .u32 3049323471), .lit (.int .u32 3921009573), .lit (.int .u32 961987163), .lit (.int .u32 1508970993), .lit (.int .u32 2453635748), .lit (.int .u32 2870763221), .lit (.int .u32 3624381080), .lit (.int .u32 310598401), .lit (.int .u32 607225278), .lit (.int .u32 1426881987), .lit (.int .u32 1925078388), .lit (.int .u32 2162078206), .lit (.int .u32 2614888103), .lit (.int .u32 3248222580), .lit (.int .u32 3835390401), .lit (.int .u32 4022224774), .lit (.int .u32 264347078), .lit (.int .u32 604807628), .lit (.int .u32 770255983), .lit (.int .u32 1249150122), .lit (.int .u32 1555081692), .lit (.int .u32 1996064986), .lit (.int .u32 2554220882), .lit (.int .u32 2821834349), .lit (.int .u32 2952996808), .lit (.int .u32 3210313671), .lit (.int .u32 3336571891), .lit (.int .u32 3584528711), .lit (.int .u32 113926993), .lit (.int .u32 338241895), .lit (.int .u32 666307205), .lit (.int .u32 773529912), .lit (.int .u32 1294757372), .lit (.int .u32 1396182291), .lit (.int .u32 1695183700), .lit (.int .u32 1986661051), .lit (.int .u32 2177026350), .lit (.int .u32 2456956037), .lit (.int .u32 2730485921), .lit (.int .u32 2820302411), .lit (.int .u32 3259730800), .lit (.int .u32 3345764771), .lit (.int .u32 3516065817), .lit (.int .u32 3600352804), .lit (.int .u32 4094571909), .lit (.int .u32 275423344), .lit (.int .u32 430227734), .lit (.int .u32 506948616), .lit (.int .u32 659060556), .lit (.int .u32 883997877), .lit (.int .u32 958139571), .lit (.int .u32 1322822218), .lit (.int .u32 1537002063), .lit (.int .u32 1747873779), .lit (.int .u32 1955562222), .lit (.int .u32 2024104815), .lit (.int .u32 2227730452), .lit (.int .u32 2361852424), .lit (.int .u32 2428436474), .lit (.int .u32 2756734187), .lit (.int .u32 3204031479), .lit (.int .u32 3329325298)]

/-- 'joustlaw22.SnapBack': WHATEVER THE INPUT: true; the input reads as it did. -/
def snapBackSpec : ChangeSpec := { name := "snapBack", fn := fun _ => fun
  | [d1, d2] => { results := [.lit (.bool true)], args := [d1, d2] }
  | _ => none }
def snapBackRow : OpenClaim := { program := "ytkdjcknikhgfkaagreatdoor", sum := "003e5737b33d34a8cd2ddd89be8d925f65dab63eec8dc6c2f89ee93e2b784119", func := "joust/joustlaw22.SnapBack", spec := "snapBack", inPlace := ["internal/abi.NoEscape", "internal/bytealg.MakeNoZero"], unfollowed := true, recurses := true, named := ["joust/sha.roundWords"], apart := false, laid := [("joust/sha.roundWords", laid_joust_sha_roundWords)] }
def SnapBackSaid : Prop := snapBackRow.holds Tryz.pinned (OpenSpec.ofChange snapBackSpec)

/-- ITS FALSE NEIGHBOUR: 'it returns false'. Refute it at one input. -/
def snapBackWrong : ChangeSpec := { name := "snapBack", fn := fun _ => fun
  | [d1, d2] => { results := [.lit (.bool false)], args := [d1, d2] }
  | _ => none }
def SnapBackWrongFalsely : Prop := snapBackRow.holds Tryz.pinned (OpenSpec.ofChange snapBackWrong)

/-- 'joustlaw22.SnapFits': WHATEVER THE INPUT: true; the input reads as it did. -/
def snapFitsSpec : ChangeSpec := { name := "snapFits", fn := fun _ => fun
  | [d1, d2] => { results := [.lit (.bool true)], args := [d1, d2] }
  | _ => none }
def snapFitsRow : OpenClaim := { program := "ytkdjcknikhgfkaagreatdoor", sum := "003e5737b33d34a8cd2ddd89be8d925f65dab63eec8dc6c2f89ee93e2b784119", func := "joust/joustlaw22.SnapFits", spec := "snapFits", inPlace := ["internal/abi.NoEscape", "internal/bytealg.MakeNoZero"], unfollowed := true, recurses := true, named := ["joust/sha.roundWords"], apart := false, laid := [("joust/sha.roundWords", laid_joust_sha_roundWords)] }
def SnapFitsSaid : Prop := snapFitsRow.holds Tryz.pinned (OpenSpec.ofChange snapFitsSpec)

/-- ITS FALSE NEIGHBOUR: 'it returns false'. Refute it at one input. -/
def snapFitsWrong : ChangeSpec := { name := "snapFits", fn := fun _ => fun
  | [d1, d2] => { results := [.lit (.bool false)], args := [d1, d2] }
  | _ => none }
def SnapFitsWrongFalsely : Prop := snapFitsRow.holds Tryz.pinned (OpenSpec.ofChange snapFitsWrong)

/-- 'joustlaw22.SnapMemory': WHATEVER THE INPUT: true; the input reads as it did. -/
def snapMemorySpec : ChangeSpec := { name := "snapMemory", fn := fun _ => fun
  | [d] => { results := [.lit (.bool true)], args := [d] }
  | _ => none }
def snapMemoryRow : OpenClaim := { program := "ytkdjcknikhgfkaagreatdoor", sum := "003e5737b33d34a8cd2ddd89be8d925f65dab63eec8dc6c2f89ee93e2b784119", func := "joust/joustlaw22.SnapMemory", spec := "snapMemory", inPlace := ["internal/abi.NoEscape", "internal/bytealg.MakeNoZero"], unfollowed := true, recurses := true, named := ["joust/sha.roundWords"], apart := false, laid := [("joust/sha.roundWords", laid_joust_sha_roundWords)] }
def SnapMemorySaid : Prop := snapMemoryRow.holds Tryz.pinned (OpenSpec.ofChange snapMemorySpec)

/-- ITS FALSE NEIGHBOUR: 'it returns false'. Refute it at one input. -/
def snapMemoryWrong : ChangeSpec := { name := "snapMemory", fn := fun _ => fun
  | [d] => { results := [.lit (.bool false)], args := [d] }
  | _ => none }
def SnapMemoryWrongFalsely : Prop := snapMemoryRow.holds Tryz.pinned (OpenSpec.ofChange snapMemoryWrong)

/-- 'joustlaw22.SnapSealed': WHATEVER THE INPUT: true; the input reads as it did. -/
def snapSealedSpec : ChangeSpec := { name := "snapSealed", fn := fun _ => fun
  | [d1, d2, d3] => { results := [.lit (.bool true)], args := [d1, d2, d3] }
  | _ => none }
def snapSealedRow : OpenClaim := { program := "ytkdjcknikhgfkaagreatdoor", sum := "003e5737b33d34a8cd2ddd89be8d925f65dab63eec8dc6c2f89ee93e2b784119", func := "joust/joustlaw22.SnapSealed", spec := "snapSealed", inPlace := ["internal/abi.NoEscape", "internal/bytealg.MakeNoZero"], unfollowed := true, recurses := true, named := ["joust/sha.roundWords"], apart := false, laid := [("joust/sha.roundWords", laid_joust_sha_roundWords)] }
def SnapSealedSaid : Prop := snapSealedRow.holds Tryz.pinned (OpenSpec.ofChange snapSealedSpec)

/-- ITS FALSE NEIGHBOUR: 'it returns false'. Refute it at one input. -/
def snapSealedWrong : ChangeSpec := { name := "snapSealed", fn := fun _ => fun
  | [d1, d2, d3] => { results := [.lit (.bool false)], args := [d1, d2, d3] }
  | _ => none }
def SnapSealedWrongFalsely : Prop := snapSealedRow.holds Tryz.pinned (OpenSpec.ofChange snapSealedWrong)

/-- 'joustlaw22.SnapTurned': WHATEVER THE INPUT: true; the input reads as it did. -/
def snapTurnedSpec : ChangeSpec := { name := "snapTurned", fn := fun _ => fun
  | [d1, d2, d3] => { results := [.lit (.bool true)], args := [d1, d2, d3] }
  | _ => none }
def snapTurnedRow : OpenClaim := { program := "ytkdjcknikhgfkaagreatdoor", sum := "003e5737b33d34a8cd2ddd89be8d925f65dab63eec8dc6c2f89ee93e2b784119", func := "joust/joustlaw22.SnapTurned", spec := "snapTurned", inPlace := ["internal/abi.NoEscape", "internal/bytealg.MakeNoZero"], unfollowed := true, recurses := true, named := ["joust/sha.roundWords"], apart := false, laid := [("joust/sha.roundWords", laid_joust_sha_roundWords)] }
def SnapTurnedSaid : Prop := snapTurnedRow.holds Tryz.pinned (OpenSpec.ofChange snapTurnedSpec)

/-- ITS FALSE NEIGHBOUR: 'it returns false'. Refute it at one input. -/
def snapTurnedWrong : ChangeSpec := { name := "snapTurned", fn := fun _ => fun
  | [d1, d2, d3] => { results := [.lit (.bool false)], args := [d1, d2, d3] }
  | _ => none }
def SnapTurnedWrongFalsely : Prop := snapTurnedRow.holds Tryz.pinned (OpenSpec.ofChange snapTurnedWrong)

/-- 'joustlaw22.SnapReads': WHATEVER THE INPUT: true; the input reads as it did. -/
def snapReadsSpec : ChangeSpec := { name := "snapReads", fn := fun _ => fun
  | [d1, d2, d3] => { results := [.lit (.bool true)], args := [d1, d2, d3] }
  | _ => none }
def snapReadsRow : OpenClaim := { program := "ytkdjcknikhgfkaagreatdoor", sum := "003e5737b33d34a8cd2ddd89be8d925f65dab63eec8dc6c2f89ee93e2b784119", func := "joust/joustlaw22.SnapReads", spec := "snapReads", inPlace := ["internal/abi.NoEscape", "internal/bytealg.MakeNoZero"], unfollowed := true, recurses := true, named := ["joust/sha.roundWords", "joust/joustref01.roots", "joust/joustref01.cubes"], apart := false, laid := [("joust/joustref01.roots", laid_joust_joustref01_roots), ("joust/joustref01.cubes", laid_joust_joustref01_cubes), ("joust/sha.roundWords", laid_joust_sha_roundWords)] }
def SnapReadsSaid : Prop := snapReadsRow.holds Tryz.pinned (OpenSpec.ofChange snapReadsSpec)

/-- ITS FALSE NEIGHBOUR: 'it returns false'. Refute it at one input. -/
def snapReadsWrong : ChangeSpec := { name := "snapReads", fn := fun _ => fun
  | [d1, d2, d3] => { results := [.lit (.bool false)], args := [d1, d2, d3] }
  | _ => none }
def SnapReadsWrongFalsely : Prop := snapReadsRow.holds Tryz.pinned (OpenSpec.ofChange snapReadsWrong)

/- THE SECOND FORM. 'bulk': how many values and letters a reading holds, each counted each time it is reached (what is shared counts as often as it is met; a slice's spare places count too). A statement '..UptoSaid' is the law's where the arguments, and the package variables that the reading takes, are together of bulk at most 1048576: NARROWER than '..Said'. Prove '..Said' where nothing that the law and all that it calls make is longer than what came in: it says more and counts as full. Else prove '..UptoSaid'. A law counts once. -/
mutual
def uptoBulk {H : Type} : DataW H → Nat
  | .lit (.string bytes) => bytes.length + 1
  | .lit _ => 1
  | .nil => 1
  | .ptr d => uptoBulk d + 1
  | .slice elems spare => uptoBulkAll elems + uptoBulkAll spare + 1
  | .agg parts => uptoBulkAll parts + 1
  | .iface _ d => uptoBulk d + 1
  | .map entries => uptoBulkEntries entries + 1
  | .held _ => 1
def uptoBulkAll {H : Type} : List (DataW H) → Nat
  | [] => 0
  | d :: r => uptoBulk d + uptoBulkAll r
def uptoBulkEntries {H : Type} : List (Lit × DataW H) → Nat
  | [] => 0
  | x :: r => uptoBulkEntry x + uptoBulkEntries r
def uptoBulkEntry {H : Type} : Lit × DataW H → Nat
  | (.string bytes, d) => bytes.length + uptoBulk d + 1
  | (_, d) => uptoBulk d + 1
 end
def uptoSmall : (H : Type) → List (DataW H) → Bool := fun _ ds => decide (uptoBulkAll ds ≤ 1048576)
def OpenSpec.upto (s : _root_.Go.ChangeSpec) : _root_.Go.OpenSpec := { _root_.Go.OpenSpec.ofChange s with cond := some uptoSmall }

/-- 'joustlaw22.SnapBack', WHERE WHAT IT READS IS OF BULK AT MOST 1048576: true; the input reads as it did. -/
def snapBackUptoRow : OpenClaim := { program := "ytkdjcknikhgfkaagreatdoor", sum := "003e5737b33d34a8cd2ddd89be8d925f65dab63eec8dc6c2f89ee93e2b784119", func := "joust/joustlaw22.SnapBack", spec := "snapBack", inPlace := ["internal/abi.NoEscape", "internal/bytealg.MakeNoZero"], unfollowed := true, recurses := true, named := ["joust/sha.roundWords"], apart := false, laid := [("joust/sha.roundWords", laid_joust_sha_roundWords)], narrowed := true }
def SnapBackUptoSaid : Prop := snapBackUptoRow.holds Tryz.pinned (OpenSpec.upto snapBackSpec)

/-- 'joustlaw22.SnapFits', WHERE WHAT IT READS IS OF BULK AT MOST 1048576: true; the input reads as it did. -/
def snapFitsUptoRow : OpenClaim := { program := "ytkdjcknikhgfkaagreatdoor", sum := "003e5737b33d34a8cd2ddd89be8d925f65dab63eec8dc6c2f89ee93e2b784119", func := "joust/joustlaw22.SnapFits", spec := "snapFits", inPlace := ["internal/abi.NoEscape", "internal/bytealg.MakeNoZero"], unfollowed := true, recurses := true, named := ["joust/sha.roundWords"], apart := false, laid := [("joust/sha.roundWords", laid_joust_sha_roundWords)], narrowed := true }
def SnapFitsUptoSaid : Prop := snapFitsUptoRow.holds Tryz.pinned (OpenSpec.upto snapFitsSpec)

/-- 'joustlaw22.SnapMemory', WHERE WHAT IT READS IS OF BULK AT MOST 1048576: true; the input reads as it did. -/
def snapMemoryUptoRow : OpenClaim := { program := "ytkdjcknikhgfkaagreatdoor", sum := "003e5737b33d34a8cd2ddd89be8d925f65dab63eec8dc6c2f89ee93e2b784119", func := "joust/joustlaw22.SnapMemory", spec := "snapMemory", inPlace := ["internal/abi.NoEscape", "internal/bytealg.MakeNoZero"], unfollowed := true, recurses := true, named := ["joust/sha.roundWords"], apart := false, laid := [("joust/sha.roundWords", laid_joust_sha_roundWords)], narrowed := true }
def SnapMemoryUptoSaid : Prop := snapMemoryUptoRow.holds Tryz.pinned (OpenSpec.upto snapMemorySpec)

/-- 'joustlaw22.SnapSealed', WHERE WHAT IT READS IS OF BULK AT MOST 1048576: true; the input reads as it did. -/
def snapSealedUptoRow : OpenClaim := { program := "ytkdjcknikhgfkaagreatdoor", sum := "003e5737b33d34a8cd2ddd89be8d925f65dab63eec8dc6c2f89ee93e2b784119", func := "joust/joustlaw22.SnapSealed", spec := "snapSealed", inPlace := ["internal/abi.NoEscape", "internal/bytealg.MakeNoZero"], unfollowed := true, recurses := true, named := ["joust/sha.roundWords"], apart := false, laid := [("joust/sha.roundWords", laid_joust_sha_roundWords)], narrowed := true }
def SnapSealedUptoSaid : Prop := snapSealedUptoRow.holds Tryz.pinned (OpenSpec.upto snapSealedSpec)

/-- 'joustlaw22.SnapTurned', WHERE WHAT IT READS IS OF BULK AT MOST 1048576: true; the input reads as it did. -/
def snapTurnedUptoRow : OpenClaim := { program := "ytkdjcknikhgfkaagreatdoor", sum := "003e5737b33d34a8cd2ddd89be8d925f65dab63eec8dc6c2f89ee93e2b784119", func := "joust/joustlaw22.SnapTurned", spec := "snapTurned", inPlace := ["internal/abi.NoEscape", "internal/bytealg.MakeNoZero"], unfollowed := true, recurses := true, named := ["joust/sha.roundWords"], apart := false, laid := [("joust/sha.roundWords", laid_joust_sha_roundWords)], narrowed := true }
def SnapTurnedUptoSaid : Prop := snapTurnedUptoRow.holds Tryz.pinned (OpenSpec.upto snapTurnedSpec)

/-- 'joustlaw22.SnapReads', WHERE WHAT IT READS IS OF BULK AT MOST 1048576: true; the input reads as it did. -/
def snapReadsUptoRow : OpenClaim := { program := "ytkdjcknikhgfkaagreatdoor", sum := "003e5737b33d34a8cd2ddd89be8d925f65dab63eec8dc6c2f89ee93e2b784119", func := "joust/joustlaw22.SnapReads", spec := "snapReads", inPlace := ["internal/abi.NoEscape", "internal/bytealg.MakeNoZero"], unfollowed := true, recurses := true, named := ["joust/sha.roundWords", "joust/joustref01.roots", "joust/joustref01.cubes"], apart := false, laid := [("joust/joustref01.roots", laid_joust_joustref01_roots), ("joust/joustref01.cubes", laid_joust_joustref01_cubes), ("joust/sha.roundWords", laid_joust_sha_roundWords)], narrowed := true }
def SnapReadsUptoSaid : Prop := snapReadsUptoRow.holds Tryz.pinned (OpenSpec.upto snapReadsSpec)

end Rows
end Go.Proofs.YtkdjcknikhgfkaaGreatDoor
