/-
  NARROWER THAN 'FOR EVERY INPUT', by the rows' own cells (each row's printed sentence says how): ClientFresh: laid · ClientStale: laid · ClientDeaf: laid · ClientPlays: laid.
  DERIVED. THE GIVEN ROWS OF THIS SEAT. 4 by the template 'for every input the law returns true; each argument reads behind the call as it read before'; 0 by the template 'total and deterministic' (their statements: YtldnpebnpbahjaaGreatDoorTotals.lean).
  GIVEN WITH THE SEED: the statements are not yours to turn. If you find one false, say at which input.
  Laid BY PROGRAM, IN A SANDBOX (cutbox-rows.mjs): the forced cells as the released guide's own fill.sh prints them over the translation 20e44a8c2694d91e… (all of the seat's roots in one cut). By AI agents, Wed Nov 11 2026. No macro, syntax, notation, axiom, sorry.
-/
import Derived.Test.YtldnpebnpbahjaaGreatDoorChecked
import GoSem.Claim
import GoSem.ClaimJoined
import GoSem.ClaimMapViews
import Derived.JoinedTies
import Derived.KernelRfl
namespace Go.Proofs.YtldnpebnpbahjaaGreatDoor
/- THE CELL 'sum', in the pinned program and in every row, IS THE sha256 OF THE DUMP (.gsa) THAT YtldnpebnpbahjaaGreatDoorProg.lean LOADS. Nothing in Lean hashes anything: it is a label: what it is worth is what the hold of that sum in a sandbox is worth. -/
noncomputable def Tryz.pinned : Pinned := { name := "ytldnpebnpbahjaagreatdoor", sum := "20e44a8c2694d91e4c98d7dc211339169328a6fbc07831ae6d2616ce1e5b5ff8", checked := Tryz.checked }
namespace Rows
def none {H : Type} : Left H := { results := [], args := [] }

/- WHAT THE LISTED PACKAGE-LEVEL VARIABLES READ AS WHEN THE CALL BEGINS. Each datum BY PROGRAM (the guide's laid-datum.mjs) off the statement by which the dump's own 'gosem.cut.vars' lays the variable. In a bare row this is a premise. The card (YtldnpebnpbahjaaGreatDoorCards.lean) ties it to the program's text. -/
def laid_joust_sha_roundWords {H : Type} : DataW H := .agg [.lit (.int .u32 1116352408), .lit (.int .u32 1899447441), .lit (.int .u32 3049323471), .lit (.int .u32 3921009573), .lit (.int .u32 961987163), .lit (.int .u32 1508970993), .lit (.int .u32 2453635748), .lit (.int .u32 2870763221), .lit (.int .u32 3624381080), .lit (.int .u32 310598401), .lit (.int .u32 607225278), .lit (.int .u32 1426881987), .lit (.int .u32 1925078388), .lit (.int .u32 2162078206), .lit (.int .u32 2614888103), .lit (.int .u32 3248222580), .lit (.int .u32 3835390401), .lit (.int .u32 4022224774), .lit (.int .u32 264347078), .lit (.int .u32 604807628), .lit (.int .u32 770255983), .lit (.int .u32 1249150122), .lit (.int .u32 1555081692), .lit (.int .u32 1996064986), .lit (.int .u32 2554220882), .lit (.int .u32 2821834349), .lit (.int .u32 2952996808), .lit (.int .u32 3210313671), .lit (.int .u32 3336571891), .lit (.int .u32 3584528711), .lit (.int .u32 113926993), .lit (.int .u32 338241895), .lit (.int .u32 666307205), .lit (.int .u32 773529912), .lit (.int .u32 1294757372), .lit (.int .u32 1396182291), .lit (.int .u32 1695183700), .lit (.int .u32 1986661051), .lit (.int .u32 2177026350), .lit (.int .u32 2456956037), .lit (.int .u32 2730485921), .lit (.int .u32 2820302411), .lit (.int .u32 3259730800), .lit (.int .u32 3345764771), .lit (.int .u32 3516065817), .lit (.int .u32 3600352804), .lit (.int .u32 4094571909), .lit (.int .u32 275423344), .lit (.int .u32 430227734), .lit (.int .u32 506948616), .lit (.int .u32 659060556), .lit (.int .u32 883997877), .lit (.int .u32 958139571), .lit (.int .u32 1322822218), .lit (.int .u32 1537002063), .lit (.int .u32 1747873779), .lit (.int .u32 1955562222), .lit (.int .u32 2024104815), .lit (.int .u32 2227730452), .lit (.int .u32 2361852424), .lit (.int .u32 2428436474), .lit (.int .u32 2756734187), .lit (.int .u32 3204031479), .lit (.int .u32 3329325298)]
def laid_joust_name_spans {H : Type} : DataW H := .agg [.agg [.lit (.int .i32 45), .lit (.int .i32 45), .lit (.int .i32 0)], .agg [.lit (.int .i32 48), .lit (.int .i32 57), .lit (.int .i32 0)], .agg [.lit (.int .i32 65), .lit (.int .i32 90), .lit (.int .i32 32)], .agg [.lit (.int .i32 95), .lit (.int .i32 95), .lit (.int .i32 0)], .agg [.lit (.int .i32 97), .lit (.int .i32 122), .lit (.int .i32 0)], .agg [.lit (.int .i32 192), .lit (.int .i32 214), .lit (.int .i32 32)], .agg [.lit (.int .i32 216), .lit (.int .i32 222), .lit (.int .i32 32)], .agg [.lit (.int .i32 223), .lit (.int .i32 246), .lit (.int .i32 0)], .agg [.lit (.int .i32 248), .lit (.int .i32 255), .lit (.int .i32 0)], .agg [.lit (.int .i32 945), .lit (.int .i32 969), .lit (.int .i32 0)]]
def laid_joust_joustref01_roots {H : Type} : DataW H := .agg [.lit (.int .u32 1779033703), .lit (.int .u32 3144134277), .lit (.int .u32 1013904242), .lit (.int .u32 2773480762), .lit (.int .u32 1359893119), .lit (.int .u32 2600822924), .lit (.int .u32 528734635), .lit (.int .u32 1541459225)]
def laid_joust_joustref01_cubes {H : Type} : DataW H := .agg [.lit (.int .u32 1116352408), .lit (.int .u32 1899447441), .lit (.int .u32 3049323471), .lit (.int .u32 3921009573), .lit (.int .u32 961987163), .lit (.int .u32 1508970993), .lit (.int .u32 2453635748), .lit (.int .u32 2870763221), .lit (.int .u32 3624381080), .lit (.int .u32 310598401), .lit (.int .u32 607225278), .lit (.int .u32 1426881987), .lit (.int .u32 1925078388), .lit (.int .u32 2162078206), .lit (.int .u32 2614888103), .lit (.int .u32 3248222580), .lit (.int .u32 3835390401), .lit (.int .u32 4022224774), .lit (.int .u32 264347078), .lit (.int .u32 604807628), .lit (.int .u32 770255983), .lit (.int .u32 1249150122), .lit (.int .u32 1555081692), .lit (.int .u32 1996064986), .lit (.int .u32 2554220882), .lit (.int .u32 2821834349), .lit (.int .u32 2952996808), .lit (.int .u32 3210313671), .lit (.int .u32 3336571891), .lit (.int .u32 3584528711), .lit (.int .u32 113926993), .lit (.int .u32 338241895), .lit (.int .u32 666307205), .lit (.int .u32 773529912), .lit (.int .u32 1294757372), .lit (.int .u32 1396182291), .lit (.int .u32 1695183700), .lit (.int .u32 1986661051), .lit (.int .u32 2177026350), .lit (.int .u32 2456956037), .lit (.int .u32 2730485921), .lit (.int .u32 2820302411), .lit (.int .u32 3259730800), .lit (.int .u32 3345764771), .lit (.int .u32 3516065817), .lit (.int .u32 3600352804), .lit (.int .u32 4094571909), .lit (.int .u32 275423344), .lit (.int .u32 430227734), .lit (.int .u32 506948616), .lit (.int .u32 659060556), .lit (.int .u32 883997877), .lit (.int .u32 958139571), .lit (.int .u32 1322822218), .lit (.int .u32 1537002063), .lit (.int .u32 1747873779), .lit (.int .u32 1955562222), .lit (.int .u32 2024104815), .lit (.int .u32 2227730452), .lit (.int .u32 2361852424), .lit (.int .u32 2428436474), .lit (.int .u32 2756734187), .lit (.int .u32 3204031479), .lit (.int .u32 3329325298)]

/-- 'joustlaw24.ClientFresh': WHATEVER THE INPUT: true; the input reads as it did. -/
def clientFreshSpec : ChangeSpec := { name := "clientFresh", fn := fun _ => fun
  | [d1, d2, d3] => { results := [.lit (.bool true)], args := [d1, d2, d3] }
  | _ => none }
def clientFreshRow : OpenClaim := { program := "ytldnpebnpbahjaagreatdoor", sum := "20e44a8c2694d91e4c98d7dc211339169328a6fbc07831ae6d2616ce1e5b5ff8", func := "joust/joustlaw24.ClientFresh", spec := "clientFresh", inPlace := ["internal/abi.NoEscape", "internal/bytealg.MakeNoZero"], unfollowed := true, recurses := true, named := ["joust/name.spans", "joust/sha.roundWords"], apart := false, laid := [("joust/sha.roundWords", laid_joust_sha_roundWords), ("joust/name.spans", laid_joust_name_spans)] }
def ClientFreshSaid : Prop := clientFreshRow.holds Tryz.pinned (OpenSpec.ofChange clientFreshSpec)

/-- ITS FALSE NEIGHBOUR: 'it returns false'. Refute it at one input. -/
def clientFreshWrong : ChangeSpec := { name := "clientFresh", fn := fun _ => fun
  | [d1, d2, d3] => { results := [.lit (.bool false)], args := [d1, d2, d3] }
  | _ => none }
def ClientFreshWrongFalsely : Prop := clientFreshRow.holds Tryz.pinned (OpenSpec.ofChange clientFreshWrong)

/-- 'joustlaw24.ClientStale': WHATEVER THE INPUT: true; the input reads as it did. -/
def clientStaleSpec : ChangeSpec := { name := "clientStale", fn := fun _ => fun
  | [d1, d2, d3] => { results := [.lit (.bool true)], args := [d1, d2, d3] }
  | _ => none }
def clientStaleRow : OpenClaim := { program := "ytldnpebnpbahjaagreatdoor", sum := "20e44a8c2694d91e4c98d7dc211339169328a6fbc07831ae6d2616ce1e5b5ff8", func := "joust/joustlaw24.ClientStale", spec := "clientStale", inPlace := ["internal/abi.NoEscape", "internal/bytealg.MakeNoZero"], unfollowed := true, recurses := true, named := ["joust/name.spans", "joust/sha.roundWords"], apart := false, laid := [("joust/sha.roundWords", laid_joust_sha_roundWords), ("joust/name.spans", laid_joust_name_spans)] }
def ClientStaleSaid : Prop := clientStaleRow.holds Tryz.pinned (OpenSpec.ofChange clientStaleSpec)

/-- ITS FALSE NEIGHBOUR: 'it returns false'. Refute it at one input. -/
def clientStaleWrong : ChangeSpec := { name := "clientStale", fn := fun _ => fun
  | [d1, d2, d3] => { results := [.lit (.bool false)], args := [d1, d2, d3] }
  | _ => none }
def ClientStaleWrongFalsely : Prop := clientStaleRow.holds Tryz.pinned (OpenSpec.ofChange clientStaleWrong)

/-- 'joustlaw24.ClientDeaf': WHATEVER THE INPUT: true; the input reads as it did. -/
def clientDeafSpec : ChangeSpec := { name := "clientDeaf", fn := fun _ => fun
  | [d1, d2, d3] => { results := [.lit (.bool true)], args := [d1, d2, d3] }
  | _ => none }
def clientDeafRow : OpenClaim := { program := "ytldnpebnpbahjaagreatdoor", sum := "20e44a8c2694d91e4c98d7dc211339169328a6fbc07831ae6d2616ce1e5b5ff8", func := "joust/joustlaw24.ClientDeaf", spec := "clientDeaf", inPlace := ["internal/abi.NoEscape", "internal/bytealg.MakeNoZero"], unfollowed := true, recurses := true, named := ["joust/name.spans", "joust/sha.roundWords"], apart := false, laid := [("joust/sha.roundWords", laid_joust_sha_roundWords), ("joust/name.spans", laid_joust_name_spans)] }
def ClientDeafSaid : Prop := clientDeafRow.holds Tryz.pinned (OpenSpec.ofChange clientDeafSpec)

/-- ITS FALSE NEIGHBOUR: 'it returns false'. Refute it at one input. -/
def clientDeafWrong : ChangeSpec := { name := "clientDeaf", fn := fun _ => fun
  | [d1, d2, d3] => { results := [.lit (.bool false)], args := [d1, d2, d3] }
  | _ => none }
def ClientDeafWrongFalsely : Prop := clientDeafRow.holds Tryz.pinned (OpenSpec.ofChange clientDeafWrong)

/-- 'joustlaw24.ClientPlays': WHATEVER THE INPUT: true; the input reads as it did. -/
def clientPlaysSpec : ChangeSpec := { name := "clientPlays", fn := fun _ => fun
  | [d1, d2] => { results := [.lit (.bool true)], args := [d1, d2] }
  | _ => none }
def clientPlaysRow : OpenClaim := { program := "ytldnpebnpbahjaagreatdoor", sum := "20e44a8c2694d91e4c98d7dc211339169328a6fbc07831ae6d2616ce1e5b5ff8", func := "joust/joustlaw24.ClientPlays", spec := "clientPlays", inPlace := ["internal/abi.NoEscape", "internal/bytealg.MakeNoZero"], unfollowed := true, recurses := true, named := ["joust/name.spans", "joust/sha.roundWords", "joust/joustref01.roots", "joust/joustref01.cubes"], apart := false, laid := [("joust/joustref01.roots", laid_joust_joustref01_roots), ("joust/joustref01.cubes", laid_joust_joustref01_cubes), ("joust/sha.roundWords", laid_joust_sha_roundWords), ("joust/name.spans", laid_joust_name_spans)] }
def ClientPlaysSaid : Prop := clientPlaysRow.holds Tryz.pinned (OpenSpec.ofChange clientPlaysSpec)

/-- ITS FALSE NEIGHBOUR: 'it returns false'. Refute it at one input. -/
def clientPlaysWrong : ChangeSpec := { name := "clientPlays", fn := fun _ => fun
  | [d1, d2] => { results := [.lit (.bool false)], args := [d1, d2] }
  | _ => none }
def ClientPlaysWrongFalsely : Prop := clientPlaysRow.holds Tryz.pinned (OpenSpec.ofChange clientPlaysWrong)

/- THE SECOND FORM. 'bulk': how many values and letters a reading holds, each counted each time it is reached (what is shared counts as often as it is met; a slice's spare places count too). A statement '..UptoSaid' is the law's where the arguments, and the package variables that the reading takes, are together of bulk at most 1048576: NARROWER than '..Said'. Prove '..Said' where nothing that the law and all that it calls make is longer than what came in: it says more and counts as full. Else prove '..UptoSaid'. A law counts once. -/
mutual
def uptoBulk {H : Type} : DataW H → Nat
  | .lit (.string bytes) => bytes.length + 1
  | .lit _ => 1
  | .nil => 1
  | .ptr d => uptoBulk d + 1
  | .slice elems spare => uptoBulkAll elems + uptoBulkAll spare + 1
  | .agg parts => uptoBulkAll parts + 1
  | .iface _ d => uptoBulk d + 1
  | .map entries => uptoBulkEntries entries + 1
  | .held _ => 1
def uptoBulkAll {H : Type} : List (DataW H) → Nat
  | [] => 0
  | d :: r => uptoBulk d + uptoBulkAll r
def uptoBulkEntries {H : Type} : List (Lit × DataW H) → Nat
  | [] => 0
  | x :: r => uptoBulkEntry x + uptoBulkEntries r
def uptoBulkEntry {H : Type} : Lit × DataW H → Nat
  | (.string bytes, d) => bytes.length + uptoBulk d + 1
  | (_, d) => uptoBulk d + 1
 end
def uptoSmall : (H : Type) → List (DataW H) → Bool := fun _ ds => decide (uptoBulkAll ds ≤ 1048576)
def OpenSpec.upto (s : _root_.Go.ChangeSpec) : _root_.Go.OpenSpec := { _root_.Go.OpenSpec.ofChange s with cond := some uptoSmall }

/-- 'joustlaw24.ClientFresh', WHERE WHAT IT READS IS OF BULK AT MOST 1048576: true; the input reads as it did. -/
def clientFreshUptoRow : OpenClaim := { program := "ytldnpebnpbahjaagreatdoor", sum := "20e44a8c2694d91e4c98d7dc211339169328a6fbc07831ae6d2616ce1e5b5ff8", func := "joust/joustlaw24.ClientFresh", spec := "clientFresh", inPlace := ["internal/abi.NoEscape", "internal/bytealg.MakeNoZero"], unfollowed := true, recurses := true, named := ["joust/name.spans", "joust/sha.roundWords"], apart := false, laid := [("joust/sha.roundWords", laid_joust_sha_roundWords), ("joust/name.spans", laid_joust_name_spans)], narrowed := true }
def ClientFreshUptoSaid : Prop := clientFreshUptoRow.holds Tryz.pinned (OpenSpec.upto clientFreshSpec)

/-- 'joustlaw24.ClientStale', WHERE WHAT IT READS IS OF BULK AT MOST 1048576: true; the input reads as it did. -/
def clientStaleUptoRow : OpenClaim := { program := "ytldnpebnpbahjaagreatdoor", sum := "20e44a8c2694d91e4c98d7dc211339169328a6fbc07831ae6d2616ce1e5b5ff8", func := "joust/joustlaw24.ClientStale", spec := "clientStale", inPlace := ["internal/abi.NoEscape", "internal/bytealg.MakeNoZero"], unfollowed := true, recurses := true, named := ["joust/name.spans", "joust/sha.roundWords"], apart := false, laid := [("joust/sha.roundWords", laid_joust_sha_roundWords), ("joust/name.spans", laid_joust_name_spans)], narrowed := true }
def ClientStaleUptoSaid : Prop := clientStaleUptoRow.holds Tryz.pinned (OpenSpec.upto clientStaleSpec)

/-- 'joustlaw24.ClientDeaf', WHERE WHAT IT READS IS OF BULK AT MOST 1048576: true; the input reads as it did. -/
def clientDeafUptoRow : OpenClaim := { program := "ytldnpebnpbahjaagreatdoor", sum := "20e44a8c2694d91e4c98d7dc211339169328a6fbc07831ae6d2616ce1e5b5ff8", func := "joust/joustlaw24.ClientDeaf", spec := "clientDeaf", inPlace := ["internal/abi.NoEscape", "internal/bytealg.MakeNoZero"], unfollowed := true, recurses := true, named := ["joust/name.spans", "joust/sha.roundWords"], apart := false, laid := [("joust/sha.roundWords", laid_joust_sha_roundWords), ("joust/name.spans", laid_joust_name_spans)], narrowed := true }
def ClientDeafUptoSaid : Prop := clientDeafUptoRow.holds Tryz.pinned (OpenSpec.upto clientDeafSpec)

/-- 'joustlaw24.ClientPlays', WHERE WHAT IT READS IS OF BULK AT MOST 1048576: true; the input reads as it did. -/
def clientPlaysUptoRow : OpenClaim := { program := "ytldnpebnpbahjaagreatdoor", sum := "20e44a8c2694d91e4c98d7dc211339169328a6fbc07831ae6d2616ce1e5b5ff8", func := "joust/joustlaw24.ClientPlays", spec := "clientPlays", inPlace := ["internal/abi.NoEscape", "internal/bytealg.MakeNoZero"], unfollowed := true, recurses := true, named := ["joust/name.spans", "joust/sha.roundWords", "joust/joustref01.roots", "joust/joustref01.cubes"], apart := false, laid := [("joust/joustref01.roots", laid_joust_joustref01_roots), ("joust/joustref01.cubes", laid_joust_joustref01_cubes), ("joust/sha.roundWords", laid_joust_sha_roundWords), ("joust/name.spans", laid_joust_name_spans)], narrowed := true }
def ClientPlaysUptoSaid : Prop := clientPlaysUptoRow.holds Tryz.pinned (OpenSpec.upto clientPlaysSpec)

end Rows
end Go.Proofs.YtldnpebnpbahjaaGreatDoor
