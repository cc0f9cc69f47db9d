import Derived.Test.YtiphnlfbgbemfaaGreatDoorRows
import Derived.Test.YtiphnlfbgbemfaaGreatDoorX1
import Derived.ProofKit
import Derived.LaidMore
import Derived.OpenShut
import Derived.Stop.Joined
import Derived.Shelf.Strings.Builder1
import Derived.Shelf.Strings.Builder2
import Derived.Shelf.Strings.BuilderF
import Derived.Shelf.LaysM
import Derived.Shelf.Strconv.Clone
import Derived.Shelf.Strings.Prefix
import Derived.Shelf.Bits.Mul64
import Derived.Shelf.Strings.Repeat
import Derived.Test.YtiphnlfbgbemfaaGreatDoorProg
import Derived.Test.YtiphnlfbgbemfaaGreatDoorX4
import Derived.Test.YtiphnlfbgbemfaaGreatDoorX6
import Derived.ChangeMaps5
import Derived.ChangeArms
import Derived.Deep.RegionHeld
/- What the listed variables give the walks. -/
namespace Go.Proofs.YtiphnlfbgbemfaaGreatDoor
open Go Go.ChangeShapes Go.WideShapes Go.ChangeAt Go.RowKit

set_option maxRecDepth 100000 in
theorem own : ownKnob Tryz.prog.godebug = none := by kernel_rfl
set_option maxRecDepth 100000 in
theorem gK : Tryz.prog.globalNamed "joust/sha.roundWords" = some 0 := by kernel_rfl
set_option maxRecDepth 100000 in
theorem tK : (Tryz.prog.globals[0]?).map (·.type) = some 142 := by kernel_rfl
set_option maxRecDepth 100000 in
theorem under39 : Tryz.prog.underlying 100 = some (.int .u32) := by kernel_rfl
set_option maxRecDepth 100000 in
theorem cells39 : Tryz.prog.cellsOf 100 = 1 := by kernel_rfl
set_option maxRecDepth 100000 in
theorem ks_datum : (Rows.laid_joust_sha_roundWords : DataW Unit) = .agg (Sha.ks.map fun x => .lit (.int .u32 x.toNat)) := by kernel_rfl

/-- an array of words that reads as a known datum: its cells -/
theorem words_of {W : World} {enc : TypeId × Value → Unit} {base fuel : Nat} {spare held : Bool} {cs : List Value} {x : DataW Unit × List MemPlace} {l : List UInt32} {t : TypeId} {n : Nat} (ht : Tryz.prog.underlying t = some (.array n 100)) (hl : l.length = n)
    (h : DataW.trod enc Tryz.prog W base (fun _ => spare) held fuel t cs = some x) (hx : x.1 = .agg (l.map fun x => .lit (.int .u32 x.toNat))) (j : Nat) (hj : j < n) : cs[j]? = some (.int .u32 (l.getD j 0).toNat) := by
  obtain ⟨xs, m, rfl, rfl, hlen, hn, hel⟩ := DataW.trod_array ht h
  have hj2 : j < xs.length := by omega
  have he := hel j hj
  rw [List.getElem?_eq_getElem hj2] at he
  obtain ⟨k, e1, e2, _⟩ := DataW.trod_int under39 he
  simp only [DataW.agg.injEq] at hx
  have hk : (xs.map (·.1))[j]? = (l.map fun x => (.lit (.int .u32 x.toNat) : DataW Unit))[j]? := by rw [hx]
  rw [List.getElem?_map, List.getElem?_map, List.getElem?_eq_getElem hj2, List.getElem?_eq_getElem (by omega : j < l.length)] at hk
  simp only [Option.map_some, Option.some.injEq] at hk
  rw [e2] at hk
  simp only [DataW.lit.injEq, Lit.int.injEq, true_and] at hk
  rw [cells39, Nat.mul_one] at e1
  have : (cs.drop j)[0]? = some (.int .u32 k) := by
    have h1 : ((cs.drop j).take 1)[0]? = some (.int .u32 k) := by rw [e1]; rfl
    rwa [List.getElem?_take, if_pos (by omega)] at h1
  rw [List.getElem?_drop, Nat.add_zero] at this
  rw [this, hk]
  simp [List.getD, show j < l.length by omega]

theorem below_of {w w' : World} (h : w.grownBy w' none) : Below w.heap.size w w' := ⟨h.os, h.tape, h.output, h.size, fun k hk => h.block k hk (by simp)⟩
set_option maxRecDepth 100000 in
theorem kc_of_laid {W : World} (h : laidMetH Tryz.prog [("joust/sha.roundWords", Rows.laid_joust_sha_roundWords)] W) : Kc W := by
  rw [MakeChecks.laidMetH_plain _ _ _ (by kernel_rfl)] at h
  obtain ⟨ps, ⟨g0, t0, cs0, f0, p0, q0, hg0, ht0, hv0, hd0, _, _⟩, _, _⟩ := h
  obtain rfl := Option.some.inj (gK.symm.trans hg0)
  obtain rfl := Option.some.inj (tK.symm.trans ht0)
  intro j hj
  have := World.var?_cell hg0 hv0 j
  rw [this, ← Array.getElem?_toList]
  exact words_of under50 rfl hd0 ks_datum j hj
end Go.Proofs.YtiphnlfbgbemfaaGreatDoor

/-
  DERIVED: THE SHELF's CONTRACTS AT THIS DUMP, IN PLAIN WORDS (tools/lay-plain.mjs out of 'TryzShelf.lean', which tools/lay-shelf.mjs wrote): THE SAME DECLARATIONS UNDER THE SAME NAMES: 'import', 'namespace', 'open', 'def', 'theorem' AND NOTHING ELSE: no command of the shelf's: FOR A HAND-IN. Each laying: the table of numbers ('.._ren') and one theorem, a field a fact of the dump's own or the kernel's comparison; each contract: ONE APPLICATION.
-/
namespace Go.Proofs
open Go.Shelf
def Tryz.laysM316_ren : Go.Shelf.Ren := ⟨fun | 316 => 71 | n => n, fun | 9 => 9 | 3 => 3 | 4 => 4 | 37 => 39 | 0 => 0 | 127 => 105 | 5 => 5 | n => n, fun | n => n⟩
theorem Tryz.laysM316 : Go.Proofs.LaysM.n316 Tryz.prog Tryz.laysM316_ren := {
  mixed := by kernel_rfl
  f316 := Tryz.func71.trans (congrArg some (by kernel_rfl))
  t0 := Tryz.underlying0
  a0 := Tryz.isAgg0
  z0 := Tryz.sizeOf0
  v0 := Tryz.zeroValue0
  t3 := Tryz.underlying3
  a3 := Tryz.isAgg3
  z3 := Tryz.sizeOf3
  v3 := Tryz.zeroValue3
  t4 := Tryz.underlying4
  a4 := Tryz.isAgg4
  z4 := Tryz.sizeOf4
  v4 := Tryz.zeroValue4
  t9 := Tryz.underlying9
  a9 := Tryz.isAgg9
  z9 := Tryz.sizeOf9
  v9 := Tryz.zeroValue9
  t37 := Tryz.underlying39
  a37 := Tryz.isAgg39
  z37 := Tryz.sizeOf39
  v37 := Tryz.zeroValue39
  t127 := Tryz.underlying105
  a127 := Tryz.isAgg105
  z127 := Tryz.sizeOf105
  v127 := Tryz.zeroValue105
  t5 := Tryz.underlying5
  a5 := Tryz.isAgg5
  z5 := Tryz.sizeOf5
  v5 := Tryz.zeroValue5
  i0 := by kernel_rfl
  i3 := by kernel_rfl
  i4 := by kernel_rfl
  i5 := by kernel_rfl
  i9 := by kernel_rfl
  i37 := by kernel_rfl
  i127 := by kernel_rfl }
open Go.RowKit in
/-- internal/stringslite.Clone (what strings.Clone calls): "Clone returns a fresh copy of s.": THE SAME BYTES. Of what was there nothing has turned (a new row is laid, and frozen, where s is not empty). (LAID: no walk: one application.) -/
theorem Tryz.stringslite_Clone (s : ByteArray) (w : World) (hlim : s.size ≤ 281474976710656) :
    Calls Tryz.prog 71 #[.string s] w fun e w' => e = .returned (.string s) ∧ Below w.heap.size w w' := Any.stringslite_Clone Tryz.laysM316 s w hlim
def Tryz.lays99_ren : Go.Shelf.Ren := ⟨fun | 99 => 27 | 206 => 51 | n => n, fun | 9 => 9 | 4 => 4 | 3 => 3 | n => n, fun | n => n⟩
theorem Tryz.lays99 : Go.Proofs.Lays.n99 Tryz.prog Tryz.lays99_ren := {
  mixed := by kernel_rfl
  f99 := Tryz.func27.trans (congrArg some (by kernel_rfl))
  f206 := Tryz.func51.trans (congrArg some (by kernel_rfl))
  t3 := Tryz.underlying3
  a3 := Tryz.isAgg3
  z3 := Tryz.sizeOf3
  v3 := Tryz.zeroValue3
  t4 := Tryz.underlying4
  a4 := Tryz.isAgg4
  z4 := Tryz.sizeOf4
  v4 := Tryz.zeroValue4
  t9 := Tryz.underlying9
  a9 := Tryz.isAgg9
  z9 := Tryz.sizeOf9
  v9 := Tryz.zeroValue9 }
open Go.RowKit Go.Lib in
/-- strings.HasPrefix: "HasPrefix reports whether the string s begins with prefix.": IT RETURNS 'Lib.hasPrefix s prefix'; the world is as it was. (LAID: no walk: one application.) -/
theorem Tryz.strings_HasPrefix (s p : ByteArray) (w : World) :
    Calls Tryz.prog 27 #[.string s, .string p] w fun e w' => e = .returned (.bool (Lib.hasPrefix s.data.toList p.data.toList)) ∧ w' = w := Any.strings_HasPrefix Tryz.lays99 s p w
def Tryz.lays105_ren : Go.Shelf.Ren := ⟨fun | 105 => 26 | 212 => 46 | 99 => 27 | 165 => 47 | 166 => 48 | 170 => 49 | 169 => 50 | 263 => 78 | 264 => 79 | 206 => 51 | 240 => 80 | 241 => 81 | 276 => 116 | 277 => 117 | n => n, fun | 9 => 9 | 3 => 3 | 4 => 4 | 20 => 20 | 0 => 0 | 46 => 38 | 109 => 72 | 5 => 5 | 72 => 76 | 76 => 80 | 51 => 100 | 146 => 101 | 53 => 22 | 148 => 103 | 70 => 74 | 37 => 39 | 75 => 79 | 127 => 105 | 164 => 130 | 80 => 83 | n => n, fun | n => n⟩
theorem Tryz.lays105 : Go.Proofs.Lays.n105 Tryz.prog Tryz.lays105_ren := {
  mixed := by kernel_rfl
  f99 := Tryz.func27.trans (congrArg some (by kernel_rfl))
  f105 := Tryz.func26.trans (congrArg some (by kernel_rfl))
  f165 := Tryz.func47.trans (congrArg some (by kernel_rfl))
  f166 := Tryz.func48.trans (congrArg some (by kernel_rfl))
  f169 := Tryz.func50.trans (congrArg some (by kernel_rfl))
  f170 := Tryz.func49.trans (congrArg some (by kernel_rfl))
  f206 := Tryz.func51.trans (congrArg some (by kernel_rfl))
  f212 := Tryz.func46.trans (congrArg some (by kernel_rfl))
  f240 := Tryz.func80.trans (congrArg some (by kernel_rfl))
  f241 := Tryz.func81.trans (congrArg some (by kernel_rfl))
  f263 := Tryz.func78.trans (congrArg some (by kernel_rfl))
  f264 := Tryz.func79.trans (congrArg some (by kernel_rfl))
  f276 := Tryz.func116.trans (congrArg some (by kernel_rfl))
  f277 := Tryz.func117.trans (congrArg some (by kernel_rfl))
  t0 := Tryz.underlying0
  a0 := Tryz.isAgg0
  z0 := Tryz.sizeOf0
  v0 := Tryz.zeroValue0
  t3 := Tryz.underlying3
  a3 := Tryz.isAgg3
  z3 := Tryz.sizeOf3
  v3 := Tryz.zeroValue3
  t4 := Tryz.underlying4
  a4 := Tryz.isAgg4
  z4 := Tryz.sizeOf4
  v4 := Tryz.zeroValue4
  t5 := Tryz.underlying5
  a5 := Tryz.isAgg5
  z5 := Tryz.sizeOf5
  v5 := Tryz.zeroValue5
  t9 := Tryz.underlying9
  a9 := Tryz.isAgg9
  z9 := Tryz.sizeOf9
  v9 := Tryz.zeroValue9
  t20 := Tryz.underlying20
  a20 := Tryz.isAgg20
  z20 := Tryz.sizeOf20
  v20 := Tryz.zeroValue20
  t37 := Tryz.underlying39
  a37 := Tryz.isAgg39
  z37 := Tryz.sizeOf39
  v37 := Tryz.zeroValue39
  t46 := Tryz.underlying38
  a46 := Tryz.isAgg38
  z46 := Tryz.sizeOf38
  v46 := Tryz.zeroValue38
  t51 := Tryz.underlying100
  a51 := Tryz.isAgg100
  z51 := Tryz.sizeOf100
  v51 := Tryz.zeroValue100
  t53 := Tryz.underlying22
  a53 := Tryz.isAgg22
  z53 := Tryz.sizeOf22
  v53 := Tryz.zeroValue22
  t70 := Tryz.underlying74
  a70 := Tryz.isAgg74
  z70 := Tryz.sizeOf74
  v70 := Tryz.zeroValue74
  t72 := Tryz.underlying76
  a72 := Tryz.isAgg76
  z72 := Tryz.sizeOf76
  v72 := Tryz.zeroValue76
  t75 := Tryz.underlying79
  a75 := Tryz.isAgg79
  z75 := Tryz.sizeOf79
  v75 := Tryz.zeroValue79
  t76 := Tryz.underlying80
  a76 := Tryz.isAgg80
  z76 := Tryz.sizeOf80
  v76 := Tryz.zeroValue80
  t109 := Tryz.underlying72
  a109 := Tryz.isAgg72
  z109 := Tryz.sizeOf72
  v109 := Tryz.zeroValue72
  t127 := Tryz.underlying105
  a127 := Tryz.isAgg105
  z127 := Tryz.sizeOf105
  v127 := Tryz.zeroValue105
  t146 := Tryz.underlying101
  a146 := Tryz.isAgg101
  z146 := Tryz.sizeOf101
  v146 := Tryz.zeroValue101
  t148 := Tryz.underlying103
  a148 := Tryz.isAgg103
  z148 := Tryz.sizeOf103
  v148 := Tryz.zeroValue103
  t164 := Tryz.underlying130
  a164 := Tryz.isAgg130
  z164 := Tryz.sizeOf130
  v164 := Tryz.zeroValue130 }
theorem Tryz.Builder_Extra_105 : Builder.Extra Tryz.prog Tryz.lays105_ren := {
  sizeBuilder := by kernel_rfl
  liesBuilder := by kernel_rfl
  t5 := Tryz.underlying5
  a5 := Tryz.isAgg5
  z5 := Tryz.sizeOf5
  v5 := Tryz.zeroValue5
  infoByte := by kernel_rfl
  cellsByte := by kernel_rfl
  sizeByte := by kernel_rfl
  neB5 := by decide }
open Go.RowKit Go.Lib in
/-- **strings.Repeat: count ≥ 0, the result within one allocation: count copies of s.** (LAID: no walk: one application.) -/
theorem Tryz.strings_Repeat (s : ByteArray) (c : Nat) (w : World) (hc : c ≤ 9223372036854775807) (hlen : s.size * c ≤ 140737488355328) :
    Calls Tryz.prog 26 #[.string s, .int .i64 c] w fun e w' => e = .returned (.string ⟨(Lib.repeatL s.data.toList c).toArray⟩) ∧ Below w.heap.size w w' := Any.strings_Repeat Tryz.lays105 Tryz.Builder_Extra_105 s c w hc hlen
end Go.Proofs

/- strings.HasPrefix, Clone, Repeat; kindOf, tagged, Body, Sealed -/
namespace Go.Proofs.YtiphnlfbgbemfaaGreatDoor.Pk
open Go Go.RowKit

theorem grown_of_below {w w' : World} (h : Below w.heap.size w w') : w.grownBy w' none := ⟨h.os, h.tape, h.output, h.size, fun k hk _ => h.block k hk⟩
def mgB : ByteArray := { data := #[74, 48, 49] }
theorem prefix_take (s : List UInt8) : Lib.hasPrefix s magic = decide (s.take 3 = magic) := by
  rw [Bool.eq_iff_iff, decide_eq_true_iff, Lib.hasPrefix, List.isPrefixOf_iff_prefix]
  exact ⟨fun h => (List.prefix_iff_eq_take.1 h).symm, fun h => h ▸ List.take_prefix _ _⟩
theorem hp_c (s : ByteArray) (w : World) :
    Calls Tryz.prog 27 #[.string s, .string mgB] w fun e w' => e = .returned (.bool (decide ((sl s).take 3 = magic))) ∧ w' = w := by
  refine (Tryz.strings_HasPrefix s mgB w).mono ?_
  rintro e w' ⟨rfl, rfl⟩
  refine ⟨?_, rfl⟩
  rw [← prefix_take]; rfl
theorem idx3 (s : ByteArray) (h : 4 ≤ s.size) (W : World) : (Instr.index 9 (.string s) (.int .i64 3)).run Tryz.prog W = .ok (.int .u8 ((sl s).getD 3 0).toNat) W := by
  have hl : 3 < s.size := by omega
  have := idx9 s 3 s[3] hl (sl_at s 3 hl) W
  rw [show (sl s).getD 3 0 = s[3] by rw [List.getD_eq_getElem?_getD, show (sl s)[3]? = some s[3] from sl_at s 3 hl]; rfl]
  exact this
set_option maxHeartbeats 4000000 in
set_option maxRecDepth 100000 in
theorem kind_c (s : ByteArray) (w : World) (hs : s.size ≤ 4611686018427387904) :
    Calls Tryz.prog 29 #[.string s] w fun e w' => e = .returned (.int .i64 (kindL (sl s))) ∧ w' = w := by
  by_cases h4 : s.size < 4
  · have hk : kindL (sl s) = 0 := by rw [kindL, if_pos (.inl (by rw [sl_len]; exact h4))]
    rw [hk]
    have hd : decide ((s.size : Int) < 4) = true := decide_eq_true (by omega)
    clear hk h4
    go_enter Tryz.func29, Tryz.ntmps29
    go_wp2_with fail
    go_ret
    exact ⟨rfl, rfl⟩
  · have hd : decide ((s.size : Int) < 4) = false := decide_eq_false (by omega)
    by_cases hm : (sl s).take 3 = magic
    · have hk : kindL (sl s) = (((sl s).getD 3 0).toNat : Int) := by rw [kindL, if_neg (by rw [sl_len]; simp [hm]; omega)]
      rw [hk]
      have hi := idx3 s (by omega)
      have HC := Keep.mk (hp_c s w)
      rw [decide_eq_true hm] at HC
      have hlt : ((sl s).getD 3 0).toNat < 256 := UInt8.toNat_lt _
      generalize ((sl s).getD 3 0).toNat = x at hi hlt ⊢
      clear hk h4 hm
      go_enter Tryz.func29, Tryz.ntmps29
      go_wp2_with fail
      refine HC.out.mono ?_
      rintro e w1 ⟨rfl, rfl⟩
      go_wp2_with fail
      go_ret
      exact ⟨rfl, rfl⟩
    · have hk : kindL (sl s) = 0 := by rw [kindL, if_pos (.inr hm)]
      rw [hk]
      have HC := Keep.mk (hp_c s w)
      rw [decide_eq_false hm] at HC
      clear hk h4 hm
      go_enter Tryz.func29, Tryz.ntmps29
      go_wp2_with fail
      refine HC.out.mono ?_
      rintro e w1 ⟨rfl, rfl⟩
      go_wp2_with fail
      go_ret
      exact ⟨rfl, rfl⟩
set_option maxHeartbeats 4000000 in
set_option maxRecDepth 100000 in
theorem tagged_c (k : Int) (w : World) :
    Calls Tryz.prog 25 #[.int .i64 k] w fun e w' => e = .returned (.bool (decide (3 ≤ k ∧ k ≤ 7))) ∧ w' = w := by
  by_cases h3 : 3 ≤ k
  · have hd : decide (3 ≤ k) = true := decide_eq_true h3
    have he : decide (3 ≤ k ∧ k ≤ 7) = decide (k ≤ 7) := by simp [h3]
    rw [he]
    clear h3 he
    go_enter Tryz.func25, Tryz.ntmps25
    go_wp2
    go_ret
    exact ⟨rfl, rfl⟩
  · have hd : decide (3 ≤ k) = false := decide_eq_false h3
    have he : decide (3 ≤ k ∧ k ≤ 7) = false := by simp [h3]
    rw [he]
    clear h3 he
    go_enter Tryz.func25, Tryz.ntmps25
    go_wp2
    go_ret
    exact ⟨rfl, rfl⟩
set_option maxHeartbeats 4000000 in
set_option maxRecDepth 100000 in
theorem clone_c (s : ByteArray) (w : World) (hs : s.size ≤ 281474976710656) :
    Calls Tryz.prog 34 #[.string s] w fun e w' => e = .returned (.string s) ∧ w.grownBy w' none := by
  go_enter Tryz.func34, Tryz.ntmps34
  go_wp2_with fail
  refine (Tryz.stringslite_Clone s w hs).mono ?_
  rintro e w1 ⟨rfl, g1⟩
  have HG := Keep.mk (grown_of_below g1)
  clear g1
  go_wp2
  go_ret
  exact ⟨rfl, HG.out⟩
theorem rep_c (c : Nat) (w : World) (hc : c ≤ 1000) :
    Calls Tryz.prog 26 #[.string { data := #[0] }, .int .i64 c] w fun e w' => e = .returned (.string (ba (List.replicate c 0))) ∧ w.grownBy w' none := by
  refine (Tryz.strings_Repeat ⟨#[0]⟩ c w (by omega) (by simp [ByteArray.size]; omega)).mono ?_
  rintro e w' ⟨rfl, g⟩
  refine ⟨?_, grown_of_below g⟩
  have : ∀ n : Nat, Lib.repeatL [(0 : UInt8)] n = List.replicate n 0 := fun n => by
    induction n with
    | zero => rfl
    | succ n ih => rw [Lib.repeatL, ih]; rfl
  rw [show (ByteArray.mk #[0]).data.toList = [0] from rfl, this]
end Go.Proofs.YtiphnlfbgbemfaaGreatDoor.Pk

/- zeros, fieldsOf -/
namespace Go.Proofs.YtiphnlfbgbemfaaGreatDoor.Pk
open Go Go.RowKit

set_option maxHeartbeats 8000000 in
set_option maxRecDepth 100000 in
theorem mk_zeros : Makes 53 .zeros := fun w => by
  obtain ⟨d, hd, hr⟩ := under57
  have hmf : MF := fun _ _ _ _ => rfl
  have HR := Keep.mk (rep_c 76 (w.alloc (.cells #[.nilFunc, .nilFunc] 57)) (by decide))
  rw [show ba (List.replicate 76 0) = ba zero76 from rfl] at HR
  have HT : Keep (∀ W, Has W (w.heap.size + 7) [.string (ba zero76)] 9 → True) := ⟨fun _ _ => trivial⟩
  obtain ⟨Z, hZ⟩ : ∃ Z, ba zero76 = Z := ⟨_, rfl⟩
  rw [hZ] at HR HT
  have HZ := Keep.mk hZ
  clear hZ HT
  go_enter Tryz.func53, Tryz.ntmps53
  go_wp2_with fail
  refine HR.out.mono ?_
  rintro e w2 ⟨rfl, g2⟩
  have h0 : Has w2 w.heap.size [.nilFunc, .nilFunc] 57 := (Has.newA w #[.nilFunc, .nilFunc] 57).kept g2 (by simp)
  obtain ⟨w3, hw3⟩ : ∃ q, w2.alloc (.cells #[.string Z] 9) = q := ⟨_, rfl⟩
  obtain ⟨zb, hzb⟩ : ∃ q, w2.heap.size = q := ⟨_, rfl⟩
  have g3 : w2.grownBy w3 none := by rw [← hw3]; exact World.grownBy_alloc _ _ _
  have h1 : Has w3 zb [.string Z] 9 := by rw [← hw3, ← hzb]; exact Has.newA w2 _ 9
  have h03 := h0.kept g3 (by simp)
  have hne : zb ≠ w.heap.size := by have := h0.lt; omega
  have c0 : w3.cell? ⟨w.heap.size, 0, none⟩ = some .nilFunc := h03.cellv 0 _ rfl
  have c1 : w3.cell? ⟨w.heap.size, 1, none⟩ = some .nilFunc := h03.cellv 1 _ rfl
  have z0 : w3.frozen? ⟨w.heap.size, 0, none⟩ = false := h03.frozen 0
  have z1 : w3.frozen? ⟨w.heap.size, 1, none⟩ = false := h03.frozen 1
  have HE : Keep (Has ((w3.setCell ⟨w.heap.size, 0, none⟩ (fc 84 #[pv zb])).setCell ⟨w.heap.size, 1, none⟩ (fc 87 #[pv zb])) w.heap.size [fc 84 #[pv zb], fc 87 #[pv zb]] 57 ∧ w.grownBy ((w3.setCell ⟨w.heap.size, 0, none⟩ (fc 84 #[pv zb])).setCell ⟨w.heap.size, 1, none⟩ (fc 87 #[pv zb])) none ∧ FieldC ((w3.setCell ⟨w.heap.size, 0, none⟩ (fc 84 #[pv zb])).setCell ⟨w.heap.size, 1, none⟩ (fc 87 #[pv zb])) .zeros (fc 84 #[pv zb]) (fc 87 #[pv zb])) := by
    have g5 : w3.grownBy ((w3.setCell ⟨w.heap.size, 0, none⟩ (fc 84 #[pv zb])).setCell ⟨w.heap.size, 1, none⟩ (fc 87 #[pv zb])) (some w.heap.size) := (gr_set _ _ _ _).trans (gr_set _ _ _ _)
    rw [← HZ.out] at h1
    refine ⟨(h03.setCell 0 _).setCell 1 _, gr_new (((World.grownBy_alloc w (.cells #[.nilFunc, .nilFunc] 57) none).trans g2).trans g3) g5 (Nat.le_refl _), 84, #[pv zb], 87, #[pv zb], rfl, rfl, ?_, ?_⟩
    · exact tk_zeros _ zb (h1.kept g5 (by simp; omega))
    · exact ly_zeros _ zb (h1.kept g5 (by simp; omega))
  clear h0 h1 h03 g2 g3 hne
  go_wp2
  exact ret_cell rfl rfl HE.out.1 hd hr info57 rfl ⟨_, _, rfl, HE.out.2.2, HE.out.2.1⟩
/-- the fields that a slice holds -/
def Flds (w : World) (a : Option Addr) (fs : List Fd) : Prop := ∀ i f, fs[i]? = some f → ∃ vt vl fb, a = some ⟨fb, 0, none⟩ ∧ w.cell? ⟨fb, 2 * i, none⟩ = some vt ∧ w.cell? ⟨fb, 2 * i + 1, none⟩ = some vl ∧ FieldC w f vt vl
theorem Flds.kept {w w' : World} {a : Option Addr} {fs : List Fd} (h : Flds w a fs) (g : w.grownBy w' none) : Flds w' a fs := fun i f e => by
  obtain ⟨vt, vl, fb, h1, h2, h3, h4⟩ := h i f e
  exact ⟨vt, vl, fb, h1, g.cell h2 (by simp), g.cell h3 (by simp), h4.kept g⟩
set_option maxHeartbeats 8000000 in
set_option maxRecDepth 100000 in
theorem fields1 (w : World) :
    Calls Tryz.prog 28 #[.int .i64 1] w fun e w' => ∃ a c, e = .returned (.slice a (fieldsL 1).length c) ∧ Flds w' a (fieldsL 1) ∧ w.grownBy w' none := by
  go_enter Tryz.func28, Tryz.ntmps28
  go_wp2_with fail
  refine (mk_nonce w).mono ?_
  rintro e w0 ⟨vt0, vl0, rfl, f0, g0⟩
  have HF : Keep (FieldC w0 .nonce vt0 vl0 ∧ w.grownBy w0 none) := ⟨f0, g0⟩
  clear f0 g0
  go_wp2_with fail
  refine (mk_zeros w0).mono ?_
  rintro e w1 ⟨vt1, vl1, rfl, f1, g1⟩
  replace HF : Keep (FieldC w1 .nonce vt0 vl0 ∧ FieldC w1 .zeros vt1 vl1 ∧ w.grownBy w1 none) := ⟨(HF.out.1).kept g1, f1, (HF.out.2).trans g1⟩
  clear f1 g1
  go_wp2_with fail
  go_ret
  have hn := Has.newA w1 #[vt0, vl0, vt1, vl1] 57
  have gn := World.grownBy_alloc w1 (.cells #[vt0, vl0, vt1, vl1] 57) none
  refine ⟨_, _, rfl, ?_, (HF.out.2.2).trans gn⟩
  intro i f e
  have e' : [Fd.nonce, Fd.zeros][i]? = some f := e
  match i, e' with
  | 0, rfl => exact ⟨vt0, vl0, _, rfl, hn.cellv 0 _ rfl, hn.cellv 1 _ rfl, (HF.out.1).kept gn⟩
  | 1, rfl => exact ⟨vt1, vl1, _, rfl, hn.cellv 2 _ rfl, hn.cellv 3 _ rfl, (HF.out.2.1).kept gn⟩
set_option maxHeartbeats 8000000 in
set_option maxRecDepth 100000 in
theorem fields2 (w : World) :
    Calls Tryz.prog 28 #[.int .i64 2] w fun e w' => ∃ a c, e = .returned (.slice a (fieldsL 2).length c) ∧ Flds w' a (fieldsL 2) ∧ w.grownBy w' none := by
  go_enter Tryz.func28, Tryz.ntmps28
  go_wp2_with fail
  refine (mk_nonce w).mono ?_
  rintro e w0 ⟨vt0, vl0, rfl, f0, g0⟩
  have HF : Keep (FieldC w0 .nonce vt0 vl0 ∧ w.grownBy w0 none) := ⟨f0, g0⟩
  clear f0 g0
  go_wp2_with fail
  refine (mk_epoch w0).mono ?_
  rintro e w1 ⟨vt1, vl1, rfl, f1, g1⟩
  replace HF : Keep (FieldC w1 .nonce vt0 vl0 ∧ FieldC w1 .epoch vt1 vl1 ∧ w.grownBy w1 none) := ⟨(HF.out.1).kept g1, f1, (HF.out.2).trans g1⟩
  clear f1 g1
  go_wp2_with fail
  refine (mk_cookie w1).mono ?_
  rintro e w2 ⟨vt2, vl2, rfl, f2, g2⟩
  replace HF : Keep (FieldC w2 .nonce vt0 vl0 ∧ FieldC w2 .epoch vt1 vl1 ∧ FieldC w2 .cookie vt2 vl2 ∧ w.grownBy w2 none) := ⟨(HF.out.1).kept g2, (HF.out.2.1).kept g2, f2, (HF.out.2.2).trans g2⟩
  clear f2 g2
  go_wp2_with fail
  go_ret
  have hn := Has.newA w2 #[vt0, vl0, vt1, vl1, vt2, vl2] 57
  have gn := World.grownBy_alloc w2 (.cells #[vt0, vl0, vt1, vl1, vt2, vl2] 57) none
  refine ⟨_, _, rfl, ?_, (HF.out.2.2.2).trans gn⟩
  intro i f e
  have e' : [Fd.nonce, Fd.epoch, Fd.cookie][i]? = some f := e
  match i, e' with
  | 0, rfl => exact ⟨vt0, vl0, _, rfl, hn.cellv 0 _ rfl, hn.cellv 1 _ rfl, (HF.out.1).kept gn⟩
  | 1, rfl => exact ⟨vt1, vl1, _, rfl, hn.cellv 2 _ rfl, hn.cellv 3 _ rfl, (HF.out.2.1).kept gn⟩
  | 2, rfl => exact ⟨vt2, vl2, _, rfl, hn.cellv 4 _ rfl, hn.cellv 5 _ rfl, (HF.out.2.2.1).kept gn⟩
set_option maxHeartbeats 8000000 in
set_option maxRecDepth 100000 in
theorem fields3 (w : World) :
    Calls Tryz.prog 28 #[.int .i64 3] w fun e w' => ∃ a c, e = .returned (.slice a (fieldsL 3).length c) ∧ Flds w' a (fieldsL 3) ∧ w.grownBy w' none := by
  go_enter Tryz.func28, Tryz.ntmps28
  go_wp2_with fail
  refine (mk_nonce w).mono ?_
  rintro e w0 ⟨vt0, vl0, rfl, f0, g0⟩
  have HF : Keep (FieldC w0 .nonce vt0 vl0 ∧ w.grownBy w0 none) := ⟨f0, g0⟩
  clear f0 g0
  go_wp2_with fail
  refine (mk_epoch w0).mono ?_
  rintro e w1 ⟨vt1, vl1, rfl, f1, g1⟩
  replace HF : Keep (FieldC w1 .nonce vt0 vl0 ∧ FieldC w1 .epoch vt1 vl1 ∧ w.grownBy w1 none) := ⟨(HF.out.1).kept g1, f1, (HF.out.2).trans g1⟩
  clear f1 g1
  go_wp2_with fail
  refine (mk_cookie w1).mono ?_
  rintro e w2 ⟨vt2, vl2, rfl, f2, g2⟩
  replace HF : Keep (FieldC w2 .nonce vt0 vl0 ∧ FieldC w2 .epoch vt1 vl1 ∧ FieldC w2 .cookie vt2 vl2 ∧ w.grownBy w2 none) := ⟨(HF.out.1).kept g2, (HF.out.2.1).kept g2, f2, (HF.out.2.2).trans g2⟩
  clear f2 g2
  go_wp2_with fail
  refine (mk_name w2).mono ?_
  rintro e w3 ⟨vt3, vl3, rfl, f3, g3⟩
  replace HF : Keep (FieldC w3 .nonce vt0 vl0 ∧ FieldC w3 .epoch vt1 vl1 ∧ FieldC w3 .cookie vt2 vl2 ∧ FieldC w3 .name vt3 vl3 ∧ w.grownBy w3 none) := ⟨(HF.out.1).kept g3, (HF.out.2.1).kept g3, (HF.out.2.2.1).kept g3, f3, (HF.out.2.2.2).trans g3⟩
  clear f3 g3
  go_wp2_with fail
  refine (mk_tag w3).mono ?_
  rintro e w4 ⟨vt4, vl4, rfl, f4, g4⟩
  replace HF : Keep (FieldC w4 .nonce vt0 vl0 ∧ FieldC w4 .epoch vt1 vl1 ∧ FieldC w4 .cookie vt2 vl2 ∧ FieldC w4 .name vt3 vl3 ∧ FieldC w4 .tag vt4 vl4 ∧ w.grownBy w4 none) := ⟨(HF.out.1).kept g4, (HF.out.2.1).kept g4, (HF.out.2.2.1).kept g4, (HF.out.2.2.2.1).kept g4, f4, (HF.out.2.2.2.2).trans g4⟩
  clear f4 g4
  go_wp2_with fail
  go_ret
  have hn := Has.newA w4 #[vt0, vl0, vt1, vl1, vt2, vl2, vt3, vl3, vt4, vl4] 57
  have gn := World.grownBy_alloc w4 (.cells #[vt0, vl0, vt1, vl1, vt2, vl2, vt3, vl3, vt4, vl4] 57) none
  refine ⟨_, _, rfl, ?_, (HF.out.2.2.2.2.2).trans gn⟩
  intro i f e
  have e' : [Fd.nonce, Fd.epoch, Fd.cookie, Fd.name, Fd.tag][i]? = some f := e
  match i, e' with
  | 0, rfl => exact ⟨vt0, vl0, _, rfl, hn.cellv 0 _ rfl, hn.cellv 1 _ rfl, (HF.out.1).kept gn⟩
  | 1, rfl => exact ⟨vt1, vl1, _, rfl, hn.cellv 2 _ rfl, hn.cellv 3 _ rfl, (HF.out.2.1).kept gn⟩
  | 2, rfl => exact ⟨vt2, vl2, _, rfl, hn.cellv 4 _ rfl, hn.cellv 5 _ rfl, (HF.out.2.2.1).kept gn⟩
  | 3, rfl => exact ⟨vt3, vl3, _, rfl, hn.cellv 6 _ rfl, hn.cellv 7 _ rfl, (HF.out.2.2.2.1).kept gn⟩
  | 4, rfl => exact ⟨vt4, vl4, _, rfl, hn.cellv 8 _ rfl, hn.cellv 9 _ rfl, (HF.out.2.2.2.2.1).kept gn⟩
set_option maxHeartbeats 8000000 in
set_option maxRecDepth 100000 in
theorem fields4 (w : World) :
    Calls Tryz.prog 28 #[.int .i64 4] w fun e w' => ∃ a c, e = .returned (.slice a (fieldsL 4).length c) ∧ Flds w' a (fieldsL 4) ∧ w.grownBy w' none := by
  go_enter Tryz.func28, Tryz.ntmps28
  go_wp2_with fail
  refine (mk_nonce w).mono ?_
  rintro e w0 ⟨vt0, vl0, rfl, f0, g0⟩
  have HF : Keep (FieldC w0 .nonce vt0 vl0 ∧ w.grownBy w0 none) := ⟨f0, g0⟩
  clear f0 g0
  go_wp2_with fail
  refine (mk_session w0).mono ?_
  rintro e w1 ⟨vt1, vl1, rfl, f1, g1⟩
  replace HF : Keep (FieldC w1 .nonce vt0 vl0 ∧ FieldC w1 .session vt1 vl1 ∧ w.grownBy w1 none) := ⟨(HF.out.1).kept g1, f1, (HF.out.2).trans g1⟩
  clear f1 g1
  go_wp2_with fail
  refine (mk_player w1).mono ?_
  rintro e w2 ⟨vt2, vl2, rfl, f2, g2⟩
  replace HF : Keep (FieldC w2 .nonce vt0 vl0 ∧ FieldC w2 .session vt1 vl1 ∧ FieldC w2 .player vt2 vl2 ∧ w.grownBy w2 none) := ⟨(HF.out.1).kept g2, (HF.out.2.1).kept g2, f2, (HF.out.2.2).trans g2⟩
  clear f2 g2
  go_wp2_with fail
  refine (mk_salt w2).mono ?_
  rintro e w3 ⟨vt3, vl3, rfl, f3, g3⟩
  replace HF : Keep (FieldC w3 .nonce vt0 vl0 ∧ FieldC w3 .session vt1 vl1 ∧ FieldC w3 .player vt2 vl2 ∧ FieldC w3 .salt vt3 vl3 ∧ w.grownBy w3 none) := ⟨(HF.out.1).kept g3, (HF.out.2.1).kept g3, (HF.out.2.2.1).kept g3, f3, (HF.out.2.2.2).trans g3⟩
  clear f3 g3
  go_wp2_with fail
  refine (mk_tag w3).mono ?_
  rintro e w4 ⟨vt4, vl4, rfl, f4, g4⟩
  replace HF : Keep (FieldC w4 .nonce vt0 vl0 ∧ FieldC w4 .session vt1 vl1 ∧ FieldC w4 .player vt2 vl2 ∧ FieldC w4 .salt vt3 vl3 ∧ FieldC w4 .tag vt4 vl4 ∧ w.grownBy w4 none) := ⟨(HF.out.1).kept g4, (HF.out.2.1).kept g4, (HF.out.2.2.1).kept g4, (HF.out.2.2.2.1).kept g4, f4, (HF.out.2.2.2.2).trans g4⟩
  clear f4 g4
  go_wp2_with fail
  go_ret
  have hn := Has.newA w4 #[vt0, vl0, vt1, vl1, vt2, vl2, vt3, vl3, vt4, vl4] 57
  have gn := World.grownBy_alloc w4 (.cells #[vt0, vl0, vt1, vl1, vt2, vl2, vt3, vl3, vt4, vl4] 57) none
  refine ⟨_, _, rfl, ?_, (HF.out.2.2.2.2.2).trans gn⟩
  intro i f e
  have e' : [Fd.nonce, Fd.session, Fd.player, Fd.salt, Fd.tag][i]? = some f := e
  match i, e' with
  | 0, rfl => exact ⟨vt0, vl0, _, rfl, hn.cellv 0 _ rfl, hn.cellv 1 _ rfl, (HF.out.1).kept gn⟩
  | 1, rfl => exact ⟨vt1, vl1, _, rfl, hn.cellv 2 _ rfl, hn.cellv 3 _ rfl, (HF.out.2.1).kept gn⟩
  | 2, rfl => exact ⟨vt2, vl2, _, rfl, hn.cellv 4 _ rfl, hn.cellv 5 _ rfl, (HF.out.2.2.1).kept gn⟩
  | 3, rfl => exact ⟨vt3, vl3, _, rfl, hn.cellv 6 _ rfl, hn.cellv 7 _ rfl, (HF.out.2.2.2.1).kept gn⟩
  | 4, rfl => exact ⟨vt4, vl4, _, rfl, hn.cellv 8 _ rfl, hn.cellv 9 _ rfl, (HF.out.2.2.2.2.1).kept gn⟩
set_option maxHeartbeats 8000000 in
set_option maxRecDepth 100000 in
theorem fields5 (w : World) :
    Calls Tryz.prog 28 #[.int .i64 5] w fun e w' => ∃ a c, e = .returned (.slice a (fieldsL 5).length c) ∧ Flds w' a (fieldsL 5) ∧ w.grownBy w' none := by
  go_enter Tryz.func28, Tryz.ntmps28
  go_wp2_with fail
  refine (mk_session w).mono ?_
  rintro e w0 ⟨vt0, vl0, rfl, f0, g0⟩
  have HF : Keep (FieldC w0 .session vt0 vl0 ∧ w.grownBy w0 none) := ⟨f0, g0⟩
  clear f0 g0
  go_wp2_with fail
  refine (mk_seq w0).mono ?_
  rintro e w1 ⟨vt1, vl1, rfl, f1, g1⟩
  replace HF : Keep (FieldC w1 .session vt0 vl0 ∧ FieldC w1 .seq vt1 vl1 ∧ w.grownBy w1 none) := ⟨(HF.out.1).kept g1, f1, (HF.out.2).trans g1⟩
  clear f1 g1
  go_wp2_with fail
  refine (mk_thr w1).mono ?_
  rintro e w2 ⟨vt2, vl2, rfl, f2, g2⟩
  replace HF : Keep (FieldC w2 .session vt0 vl0 ∧ FieldC w2 .seq vt1 vl1 ∧ FieldC w2 .thr vt2 vl2 ∧ w.grownBy w2 none) := ⟨(HF.out.1).kept g2, (HF.out.2.1).kept g2, f2, (HF.out.2.2).trans g2⟩
  clear f2 g2
  go_wp2_with fail
  refine (mk_turn w2).mono ?_
  rintro e w3 ⟨vt3, vl3, rfl, f3, g3⟩
  replace HF : Keep (FieldC w3 .session vt0 vl0 ∧ FieldC w3 .seq vt1 vl1 ∧ FieldC w3 .thr vt2 vl2 ∧ FieldC w3 .turn vt3 vl3 ∧ w.grownBy w3 none) := ⟨(HF.out.1).kept g3, (HF.out.2.1).kept g3, (HF.out.2.2.1).kept g3, f3, (HF.out.2.2.2).trans g3⟩
  clear f3 g3
  go_wp2_with fail
  refine (mk_flags w3).mono ?_
  rintro e w4 ⟨vt4, vl4, rfl, f4, g4⟩
  replace HF : Keep (FieldC w4 .session vt0 vl0 ∧ FieldC w4 .seq vt1 vl1 ∧ FieldC w4 .thr vt2 vl2 ∧ FieldC w4 .turn vt3 vl3 ∧ FieldC w4 .flags vt4 vl4 ∧ w.grownBy w4 none) := ⟨(HF.out.1).kept g4, (HF.out.2.1).kept g4, (HF.out.2.2.1).kept g4, (HF.out.2.2.2.1).kept g4, f4, (HF.out.2.2.2.2).trans g4⟩
  clear f4 g4
  go_wp2_with fail
  refine (mk_tag w4).mono ?_
  rintro e w5 ⟨vt5, vl5, rfl, f5, g5⟩
  replace HF : Keep (FieldC w5 .session vt0 vl0 ∧ FieldC w5 .seq vt1 vl1 ∧ FieldC w5 .thr vt2 vl2 ∧ FieldC w5 .turn vt3 vl3 ∧ FieldC w5 .flags vt4 vl4 ∧ FieldC w5 .tag vt5 vl5 ∧ w.grownBy w5 none) := ⟨(HF.out.1).kept g5, (HF.out.2.1).kept g5, (HF.out.2.2.1).kept g5, (HF.out.2.2.2.1).kept g5, (HF.out.2.2.2.2.1).kept g5, f5, (HF.out.2.2.2.2.2).trans g5⟩
  clear f5 g5
  go_wp2_with fail
  go_ret
  have hn := Has.newA w5 #[vt0, vl0, vt1, vl1, vt2, vl2, vt3, vl3, vt4, vl4, vt5, vl5] 57
  have gn := World.grownBy_alloc w5 (.cells #[vt0, vl0, vt1, vl1, vt2, vl2, vt3, vl3, vt4, vl4, vt5, vl5] 57) none
  refine ⟨_, _, rfl, ?_, (HF.out.2.2.2.2.2.2).trans gn⟩
  intro i f e
  have e' : [Fd.session, Fd.seq, Fd.thr, Fd.turn, Fd.flags, Fd.tag][i]? = some f := e
  match i, e' with
  | 0, rfl => exact ⟨vt0, vl0, _, rfl, hn.cellv 0 _ rfl, hn.cellv 1 _ rfl, (HF.out.1).kept gn⟩
  | 1, rfl => exact ⟨vt1, vl1, _, rfl, hn.cellv 2 _ rfl, hn.cellv 3 _ rfl, (HF.out.2.1).kept gn⟩
  | 2, rfl => exact ⟨vt2, vl2, _, rfl, hn.cellv 4 _ rfl, hn.cellv 5 _ rfl, (HF.out.2.2.1).kept gn⟩
  | 3, rfl => exact ⟨vt3, vl3, _, rfl, hn.cellv 6 _ rfl, hn.cellv 7 _ rfl, (HF.out.2.2.2.1).kept gn⟩
  | 4, rfl => exact ⟨vt4, vl4, _, rfl, hn.cellv 8 _ rfl, hn.cellv 9 _ rfl, (HF.out.2.2.2.2.1).kept gn⟩
  | 5, rfl => exact ⟨vt5, vl5, _, rfl, hn.cellv 10 _ rfl, hn.cellv 11 _ rfl, (HF.out.2.2.2.2.2.1).kept gn⟩
set_option maxHeartbeats 8000000 in
set_option maxRecDepth 100000 in
theorem fields6 (w : World) :
    Calls Tryz.prog 28 #[.int .i64 6] w fun e w' => ∃ a c, e = .returned (.slice a (fieldsL 6).length c) ∧ Flds w' a (fieldsL 6) ∧ w.grownBy w' none := by
  go_enter Tryz.func28, Tryz.ntmps28
  go_wp2_with fail
  refine (mk_session w).mono ?_
  rintro e w0 ⟨vt0, vl0, rfl, f0, g0⟩
  have HF : Keep (FieldC w0 .session vt0 vl0 ∧ w.grownBy w0 none) := ⟨f0, g0⟩
  clear f0 g0
  go_wp2_with fail
  refine (mk_seq w0).mono ?_
  rintro e w1 ⟨vt1, vl1, rfl, f1, g1⟩
  replace HF : Keep (FieldC w1 .session vt0 vl0 ∧ FieldC w1 .seq vt1 vl1 ∧ w.grownBy w1 none) := ⟨(HF.out.1).kept g1, f1, (HF.out.2).trans g1⟩
  clear f1 g1
  go_wp2_with fail
  refine (mk_view w1).mono ?_
  rintro e w2 ⟨vt2, vl2, rfl, f2, g2⟩
  replace HF : Keep (FieldC w2 .session vt0 vl0 ∧ FieldC w2 .seq vt1 vl1 ∧ FieldC w2 .view vt2 vl2 ∧ w.grownBy w2 none) := ⟨(HF.out.1).kept g2, (HF.out.2.1).kept g2, f2, (HF.out.2.2).trans g2⟩
  clear f2 g2
  go_wp2_with fail
  refine (mk_tag w2).mono ?_
  rintro e w3 ⟨vt3, vl3, rfl, f3, g3⟩
  replace HF : Keep (FieldC w3 .session vt0 vl0 ∧ FieldC w3 .seq vt1 vl1 ∧ FieldC w3 .view vt2 vl2 ∧ FieldC w3 .tag vt3 vl3 ∧ w.grownBy w3 none) := ⟨(HF.out.1).kept g3, (HF.out.2.1).kept g3, (HF.out.2.2.1).kept g3, f3, (HF.out.2.2.2).trans g3⟩
  clear f3 g3
  go_wp2_with fail
  go_ret
  have hn := Has.newA w3 #[vt0, vl0, vt1, vl1, vt2, vl2, vt3, vl3] 57
  have gn := World.grownBy_alloc w3 (.cells #[vt0, vl0, vt1, vl1, vt2, vl2, vt3, vl3] 57) none
  refine ⟨_, _, rfl, ?_, (HF.out.2.2.2.2).trans gn⟩
  intro i f e
  have e' : [Fd.session, Fd.seq, Fd.view, Fd.tag][i]? = some f := e
  match i, e' with
  | 0, rfl => exact ⟨vt0, vl0, _, rfl, hn.cellv 0 _ rfl, hn.cellv 1 _ rfl, (HF.out.1).kept gn⟩
  | 1, rfl => exact ⟨vt1, vl1, _, rfl, hn.cellv 2 _ rfl, hn.cellv 3 _ rfl, (HF.out.2.1).kept gn⟩
  | 2, rfl => exact ⟨vt2, vl2, _, rfl, hn.cellv 4 _ rfl, hn.cellv 5 _ rfl, (HF.out.2.2.1).kept gn⟩
  | 3, rfl => exact ⟨vt3, vl3, _, rfl, hn.cellv 6 _ rfl, hn.cellv 7 _ rfl, (HF.out.2.2.2.1).kept gn⟩
set_option maxHeartbeats 8000000 in
set_option maxRecDepth 100000 in
theorem fields7 (w : World) :
    Calls Tryz.prog 28 #[.int .i64 7] w fun e w' => ∃ a c, e = .returned (.slice a (fieldsL 7).length c) ∧ Flds w' a (fieldsL 7) ∧ w.grownBy w' none := by
  go_enter Tryz.func28, Tryz.ntmps28
  go_wp2_with fail
  refine (mk_session w).mono ?_
  rintro e w0 ⟨vt0, vl0, rfl, f0, g0⟩
  have HF : Keep (FieldC w0 .session vt0 vl0 ∧ w.grownBy w0 none) := ⟨f0, g0⟩
  clear f0 g0
  go_wp2_with fail
  refine (mk_seq w0).mono ?_
  rintro e w1 ⟨vt1, vl1, rfl, f1, g1⟩
  replace HF : Keep (FieldC w1 .session vt0 vl0 ∧ FieldC w1 .seq vt1 vl1 ∧ w.grownBy w1 none) := ⟨(HF.out.1).kept g1, f1, (HF.out.2).trans g1⟩
  clear f1 g1
  go_wp2_with fail
  refine (mk_tag w1).mono ?_
  rintro e w2 ⟨vt2, vl2, rfl, f2, g2⟩
  replace HF : Keep (FieldC w2 .session vt0 vl0 ∧ FieldC w2 .seq vt1 vl1 ∧ FieldC w2 .tag vt2 vl2 ∧ w.grownBy w2 none) := ⟨(HF.out.1).kept g2, (HF.out.2.1).kept g2, f2, (HF.out.2.2).trans g2⟩
  clear f2 g2
  go_wp2_with fail
  go_ret
  have hn := Has.newA w2 #[vt0, vl0, vt1, vl1, vt2, vl2] 57
  have gn := World.grownBy_alloc w2 (.cells #[vt0, vl0, vt1, vl1, vt2, vl2] 57) none
  refine ⟨_, _, rfl, ?_, (HF.out.2.2.2).trans gn⟩
  intro i f e
  have e' : [Fd.session, Fd.seq, Fd.tag][i]? = some f := e
  match i, e' with
  | 0, rfl => exact ⟨vt0, vl0, _, rfl, hn.cellv 0 _ rfl, hn.cellv 1 _ rfl, (HF.out.1).kept gn⟩
  | 1, rfl => exact ⟨vt1, vl1, _, rfl, hn.cellv 2 _ rfl, hn.cellv 3 _ rfl, (HF.out.2.1).kept gn⟩
  | 2, rfl => exact ⟨vt2, vl2, _, rfl, hn.cellv 4 _ rfl, hn.cellv 5 _ rfl, (HF.out.2.2.1).kept gn⟩
set_option maxHeartbeats 8000000 in
set_option maxRecDepth 100000 in
theorem fields0 (k : Int) (w : World) (hk : k < 1 ∨ 7 < k) :
    Calls Tryz.prog 28 #[.int .i64 k] w fun e w' => e = .returned (.slice none 0 0) ∧ w' = w := by
  have h1 : ¬ k = 1 := by omega
  have h2 : ¬ k = 2 := by omega
  have h3 : ¬ k = 3 := by omega
  have h4 : ¬ k = 4 := by omega
  have h5 : ¬ k = 5 := by omega
  have h6 : ¬ k = 6 := by omega
  have h7 : ¬ k = 7 := by omega
  clear hk
  go_enter Tryz.func28, Tryz.ntmps28
  go_wp2
  go_ret
  exact ⟨rfl, rfl⟩
theorem fieldsL_nil {k : Int} (h : k < 1 ∨ 7 < k) : fieldsL k = [] := by
  unfold fieldsL
  rw [if_neg (by omega), if_neg (by omega), if_neg (by omega), if_neg (by omega), if_neg (by omega), if_neg (by omega), if_neg (by omega)]
theorem fields_c (k : Int) (w : World) :
    Calls Tryz.prog 28 #[.int .i64 k] w fun e w' => ∃ a c, e = .returned (.slice a (fieldsL k).length c) ∧ Flds w' a (fieldsL k) ∧ w.grownBy w' none := by
  by_cases h : k < 1 ∨ 7 < k
  · refine (fields0 k w h).mono ?_
    rintro e w' ⟨rfl, rfl⟩
    rw [fieldsL_nil h]
    exact ⟨none, 0, rfl, fun i f e => (by simp at e), World.grownBy.refl _ _⟩
  · have hk : k = 1 ∨ k = 2 ∨ k = 3 ∨ k = 4 ∨ k = 5 ∨ k = 6 ∨ k = 7 := by omega
    rcases hk with rfl | rfl | rfl | rfl | rfl | rfl | rfl
    · exact fields1 w
    · exact fields2 w
    · exact fields3 w
    · exact fields4 w
    · exact fields5 w
    · exact fields6 w
    · exact fields7 w
theorem fieldsL_some {k : Int} (h : ¬ (k < 1 ∨ 7 < k)) : fieldsL k ≠ [] := by
  have hk : k = 1 ∨ k = 2 ∨ k = 3 ∨ k = 4 ∨ k = 5 ∨ k = 6 ∨ k = 7 := by omega
  rcases hk with rfl | rfl | rfl | rfl | rfl | rfl | rfl <;> exact List.cons_ne_nil _ _
theorem fieldsL_len (k : Int) : (fieldsL k).length ≤ 6 := by
  by_cases h : k < 1 ∨ 7 < k
  · rw [fieldsL_nil h]; decide
  · have hk : k = 1 ∨ k = 2 ∨ k = 3 ∨ k = 4 ∨ k = 5 ∨ k = 6 ∨ k = 7 := by omega
    rcases hk with rfl | rfl | rfl | rfl | rfl | rfl | rfl <;> decide
end Go.Proofs.YtiphnlfbgbemfaaGreatDoor.Pk

/- frame.Encode -/
namespace Go.Proofs.YtiphnlfbgbemfaaGreatDoor.Pk
open Go Go.RowKit

/-- a datagram as a value: the cells of a struct lie flat -/
def dv (d : Dg) : Value := .agg #[.int .i64 d.kind, .string d.nonce, .int .u64 d.epoch, .string d.cookie, .string d.name, .int .u64 d.session, .int .i64 d.player, .string d.salt, .int .u64 d.seq, .int .i64 d.thr, .int .i64 d.turn, .bool d.fire, .bool d.boost, .string d.data, .string d.tag]
theorem ly_len (d : Dg) (f : Fd) (s : LS) (h : d.small) : ((ly d f s).1.getD []).length ≤ (s.1.getD []).length + 1099511627785 := by
  obtain ⟨st, r⟩ := s
  have hz : zero76.length = 76 := rfl
  cases f <;> dsimp only [ly]
  case nonce => have := wBytes_len st (sl d.nonce); have := h.n; rw [sl_len] at *; omega
  case salt => have := wBytes_len st (sl d.salt); have := h.s; rw [sl_len] at *; omega
  case cookie => have := wBytes_len st (sl d.cookie); have := h.c; rw [sl_len] at *; omega
  case tag => have := wBytes_len st (sl d.tag); have := h.t; rw [sl_len] at *; omega
  case view => have := wBytes_len st (sl d.data); have := h.dt; rw [sl_len] at *; omega
  case name => have := wText_len st (sl d.name); have := h.m; rw [sl_len] at *; omega
  case zeros => have := wBytes_len st zero76; omega
  case epoch => have := wNum_len st d.epoch 8; omega
  case session => have := wNum_len st d.session 8; omega
  case seq => have := wNum_len st d.seq 8; omega
  case player => have := wNum_len st (u64 d.player) 1; omega
  case flags => have := wNum_len st (flagsN d) 1; omega
  case thr => have := wSig_len st d.thr 1; omega
  case turn => have := wSig_len st d.turn 1; omega
theorem lays_len (d : Dg) (h : d.small) : ∀ (fs : List Fd) (s : LS), ((lays d fs s).1.getD []).length ≤ (s.1.getD []).length + 1099511627785 * fs.length
  | [], s => by simp [lays]
  | f :: fs, s => by
    have h1 := lays_len d h fs (ly d f s)
    have h2 := ly_len d f s h
    have e : lays d (f :: fs) s = lays d fs (ly d f s) := rfl
    rw [e, List.length_cons]
    omega
theorem lays_take (d : Dg) (fs : List Fd) (s : LS) (k : Nat) (f : Fd) (h : fs[k]? = some f) : lays d (fs.take (k + 1)) s = ly d f (lays d (fs.take k) s) := by
  have hk := (List.getElem?_eq_some_iff.1 h)
  obtain ⟨hk, rfl⟩ := hk
  rw [List.take_succ_eq_append_getElem hk, lays, lays, List.foldl_append]
  rfl
/-- where Encode's loop stands -/
structure EL (w1 wr : World) (db ob wb : Nat) (d : Dg) (fs : List Fd) (hd : List UInt8) (k : Nat) (v : Value) : Prop where
  g : w1.grownBy wr none
  l : Lay wr db ob wb v d.cells (lays d (fs.take k) (some hd, false)).1 (lays d (fs.take k) (some hd, false)).2
  o : w1.heap.size ≤ ob
  b : w1.heap.size ≤ wb
  v : ∀ k, v.ownBlock = some k → w1.heap.size ≤ k
theorem EL.next {w1 wr wz : World} {db ob wb : Nat} {d : Dg} {fs : List Fd} {hd : List UInt8} {k : Nat} {v v' : Value} {f : Fd} (h : EL w1 wr db ob wb d fs hd k v) (hf : fs[k]? = some f) (hs : d.small) (hh : hd.length ≤ 4) (h6 : fs.length ≤ 6) (hdb : db < w1.heap.size)
    (o : OD wr wz ob wb v (ly d f (lays d (fs.take k) (some hd, false))).1 (ly d f (lays d (fs.take k) (some hd, false))).2 v') : EL w1 wz db ob wb d fs hd (k + 1) v' := by
  have hv : ∀ k, v'.ownBlock = some k → w1.heap.size ≤ k := fun j e => by
    rcases o.n j e with q | q
    · exact h.v j q
    · exact Nat.le_trans h.g.size q
  refine ⟨fr_mine h.g o.f (fun i e => ?_), ⟨h.l.d.fr o.f h.l.n, ?_, not_of hdb h.o h.b hv, ?_⟩, h.o, h.b, hv⟩
  · rcases e with e | e | e
    · rw [e]; exact h.o
    · rw [e]; exact h.b
    · exact h.v i e
  · rw [lays_take d fs _ k f hf]; exact o.a
  · have h1 := lays_len d hs (fs.take (k + 1)) (some hd, false)
    have h2 : (fs.take (k + 1)).length ≤ 6 := by rw [List.length_take]; omega
    simp only [Option.getD_some] at h1
    omega
end Go.Proofs.YtiphnlfbgbemfaaGreatDoor.Pk

/- a datagram as it is handed in -/
namespace Go.Proofs.YtiphnlfbgbemfaaGreatDoor
open Go Go.ChangeShapes Go.WideShapes Go.ChangeAt Go.RowKit

set_option maxRecDepth 100000 in
theorem laidOut : laidOutB Tryz.prog = true := by kernel_rfl
set_option maxRecDepth 100000 in
theorem kcells3 : Tryz.prog.cellsOf 3 = 1 := by kernel_rfl
set_option maxRecDepth 100000 in
theorem kcells9 : Tryz.prog.cellsOf 9 = 1 := by kernel_rfl
set_option maxRecDepth 100000 in
theorem kcells22 : Tryz.prog.cellsOf 22 = 1 := by kernel_rfl
set_option maxRecDepth 100000 in
theorem kcells24 : Tryz.prog.cellsOf 24 = 4 := by kernel_rfl
set_option maxRecDepth 100000 in
theorem kcells4 : Tryz.prog.cellsOf 4 = 1 := by kernel_rfl
theorem in_i64 {a : Int} (h : (Lit.int .i64 a).wf = true) : -9223372036854775808 ≤ a ∧ a < 9223372036854775808 := by
  have m1 : IntKind.i64.min = -9223372036854775808 := by decide
  have m2 : IntKind.i64.max = 9223372036854775807 := by decide
  simp [Lit.wf, m1, m2] at h
  omega
theorem in_u64 {a : Int} (h : (Lit.int .u64 a).wf = true) : 0 ≤ a ∧ a < 18446744073709551616 := by
  have m1 : IntKind.u64.min = 0 := by decide
  have m2 : IntKind.u64.max = 18446744073709551615 := by decide
  simp [Lit.wf, m1, m2] at h
  omega
theorem u_nat {a : Int} (h : (Lit.int .u64 a).wf = true) : ∃ n : Nat, a = (n : Int) ∧ n < 18446744073709551616 := ⟨a.toNat, by have := in_u64 h; omega, by have := in_u64 h; omega⟩
theorem str_bulk {H : Type} (s : ByteArray) : Rows.uptoBulk (DataW.lit (H := H) (.string s.data.toList)) = s.size + 1 := by
  have e : s.data.toList.length = s.size := sl_len s
  simp only [Rows.uptoBulk, e]
def dgBulk (D : Pk.Dg) : Nat := D.nonce.size + D.cookie.size + D.name.size + D.salt.size + D.data.size + D.tag.size
set_option maxHeartbeats 4000000 in
set_option maxRecDepth 100000 in
theorem dg_open {H : Type} {enc : TypeId × Value → H} {W : World} {base fuel : Nat} {v : Value} {d : DataW H} {pl : List MemPlace} (hv : Value.okWide Tryz.prog W .any base 26 v) (hf : DataW.trod enc Tryz.prog W 0 (fun _ => true) true fuel 26 v.cells.toList = some (d, pl)) :
    ∃ D : Pk.Dg, v = Pk.dv D ∧ D.fine ∧ dgBulk D ≤ Rows.uptoBulk d := by
  obtain ⟨cs, rfl, _⟩ := okWide_struct Tryz.underlying26 hv
  simp only [Value.cells] at hf
  obtain ⟨xs, n, _, hx, hlen, hxl, hfl⟩ := DataW.trod_struct Tryz.underlying26 hf
  have hlen : cs.toList.length = 15 := hlen.trans (by kernel_rfl)
  have hcs : cs = cs.toList.toArray := by simp
  generalize cs.toList = l at hlen hfl hcs
  subst hcs
  match l, hlen with
  | [c0, c1, c2, c3, c4, c5, c6, c7, c8, c9, c10, c11, c12, c13, c14], _ =>
  match xs, (show xs.length = 12 from hxl) with
  | [y0, y1, y2, y3, y4, y5, y6, y7, y8, y9, y10, y11], _ =>
  have t0 : DataW.trod enc Tryz.prog W 0 (fun _ => true) true n 3 (([c0, c1, c2, c3, c4, c5, c6, c7, c8, c9, c10, c11, c12, c13, c14].drop 0).take (Tryz.prog.cellsOf 3)) = some y0 := hfl 0 _ rfl
  rw [kcells3] at t0
  have t1 : DataW.trod enc Tryz.prog W 0 (fun _ => true) true n 9 (([c0, c1, c2, c3, c4, c5, c6, c7, c8, c9, c10, c11, c12, c13, c14].drop 1).take (Tryz.prog.cellsOf 9)) = some y1 := hfl 1 _ rfl
  rw [kcells9] at t1
  have t2 : DataW.trod enc Tryz.prog W 0 (fun _ => true) true n 22 (([c0, c1, c2, c3, c4, c5, c6, c7, c8, c9, c10, c11, c12, c13, c14].drop 2).take (Tryz.prog.cellsOf 22)) = some y2 := hfl 2 _ rfl
  rw [kcells22] at t2
  have t3 : DataW.trod enc Tryz.prog W 0 (fun _ => true) true n 9 (([c0, c1, c2, c3, c4, c5, c6, c7, c8, c9, c10, c11, c12, c13, c14].drop 3).take (Tryz.prog.cellsOf 9)) = some y3 := hfl 3 _ rfl
  rw [kcells9] at t3
  have t4 : DataW.trod enc Tryz.prog W 0 (fun _ => true) true n 9 (([c0, c1, c2, c3, c4, c5, c6, c7, c8, c9, c10, c11, c12, c13, c14].drop 4).take (Tryz.prog.cellsOf 9)) = some y4 := hfl 4 _ rfl
  rw [kcells9] at t4
  have t5 : DataW.trod enc Tryz.prog W 0 (fun _ => true) true n 22 (([c0, c1, c2, c3, c4, c5, c6, c7, c8, c9, c10, c11, c12, c13, c14].drop 5).take (Tryz.prog.cellsOf 22)) = some y5 := hfl 5 _ rfl
  rw [kcells22] at t5
  have t6 : DataW.trod enc Tryz.prog W 0 (fun _ => true) true n 3 (([c0, c1, c2, c3, c4, c5, c6, c7, c8, c9, c10, c11, c12, c13, c14].drop 6).take (Tryz.prog.cellsOf 3)) = some y6 := hfl 6 _ rfl
  rw [kcells3] at t6
  have t7 : DataW.trod enc Tryz.prog W 0 (fun _ => true) true n 9 (([c0, c1, c2, c3, c4, c5, c6, c7, c8, c9, c10, c11, c12, c13, c14].drop 7).take (Tryz.prog.cellsOf 9)) = some y7 := hfl 7 _ rfl
  rw [kcells9] at t7
  have t8 : DataW.trod enc Tryz.prog W 0 (fun _ => true) true n 22 (([c0, c1, c2, c3, c4, c5, c6, c7, c8, c9, c10, c11, c12, c13, c14].drop 8).take (Tryz.prog.cellsOf 22)) = some y8 := hfl 8 _ rfl
  rw [kcells22] at t8
  have t9 : DataW.trod enc Tryz.prog W 0 (fun _ => true) true n 24 (([c0, c1, c2, c3, c4, c5, c6, c7, c8, c9, c10, c11, c12, c13, c14].drop 9).take (Tryz.prog.cellsOf 24)) = some y9 := hfl 9 _ rfl
  rw [kcells24] at t9
  obtain ⟨zs, m, _, hz, _, hzl, hfl9⟩ := DataW.trod_struct Tryz.underlying24 t9
  match zs, (show zs.length = 4 from hzl) with
  | [z0, z1, z2, z3], _ =>
  have u0 : DataW.trod enc Tryz.prog W 0 (fun _ => true) true m 3 (((([c0, c1, c2, c3, c4, c5, c6, c7, c8, c9, c10, c11, c12, c13, c14].drop 9).take 4).drop 0).take (Tryz.prog.cellsOf 3)) = some z0 := hfl9 0 _ rfl
  rw [kcells3] at u0
  have u1 : DataW.trod enc Tryz.prog W 0 (fun _ => true) true m 3 (((([c0, c1, c2, c3, c4, c5, c6, c7, c8, c9, c10, c11, c12, c13, c14].drop 9).take 4).drop 1).take (Tryz.prog.cellsOf 3)) = some z1 := hfl9 1 _ rfl
  rw [kcells3] at u1
  have u2 : DataW.trod enc Tryz.prog W 0 (fun _ => true) true m 4 (((([c0, c1, c2, c3, c4, c5, c6, c7, c8, c9, c10, c11, c12, c13, c14].drop 9).take 4).drop 2).take (Tryz.prog.cellsOf 4)) = some z2 := hfl9 2 _ rfl
  rw [kcells4] at u2
  have u3 : DataW.trod enc Tryz.prog W 0 (fun _ => true) true m 4 (((([c0, c1, c2, c3, c4, c5, c6, c7, c8, c9, c10, c11, c12, c13, c14].drop 9).take 4).drop 3).take (Tryz.prog.cellsOf 4)) = some z3 := hfl9 3 _ rfl
  rw [kcells4] at u3
  have t10 : DataW.trod enc Tryz.prog W 0 (fun _ => true) true n 9 (([c0, c1, c2, c3, c4, c5, c6, c7, c8, c9, c10, c11, c12, c13, c14].drop 13).take (Tryz.prog.cellsOf 9)) = some y10 := hfl 10 _ rfl
  rw [kcells9] at t10
  have t11 : DataW.trod enc Tryz.prog W 0 (fun _ => true) true n 9 (([c0, c1, c2, c3, c4, c5, c6, c7, c8, c9, c10, c11, c12, c13, c14].drop 14).take (Tryz.prog.cellsOf 9)) = some y11 := hfl 11 _ rfl
  rw [kcells9] at t11
  obtain ⟨x0, e0, f0, m0⟩ := DataW.trod_int Tryz.underlying3 t0
  obtain rfl : c0 = _ := by simpa using e0
  obtain ⟨x1, e1, f1, m1⟩ := DataW.trod_string Tryz.underlying9 t1
  obtain rfl : c1 = _ := by simpa using e1
  obtain ⟨x2, e2, f2, m2⟩ := DataW.trod_int Tryz.underlying22 t2
  obtain rfl : c2 = _ := by simpa using e2
  obtain ⟨n2, rfl, q2⟩ := u_nat m2
  obtain ⟨x3, e3, f3, m3⟩ := DataW.trod_string Tryz.underlying9 t3
  obtain rfl : c3 = _ := by simpa using e3
  obtain ⟨x4, e4, f4, m4⟩ := DataW.trod_string Tryz.underlying9 t4
  obtain rfl : c4 = _ := by simpa using e4
  obtain ⟨x5, e5, f5, m5⟩ := DataW.trod_int Tryz.underlying22 t5
  obtain rfl : c5 = _ := by simpa using e5
  obtain ⟨n5, rfl, q5⟩ := u_nat m5
  obtain ⟨x6, e6, f6, m6⟩ := DataW.trod_int Tryz.underlying3 t6
  obtain rfl : c6 = _ := by simpa using e6
  obtain ⟨x7, e7, f7, m7⟩ := DataW.trod_string Tryz.underlying9 t7
  obtain rfl : c7 = _ := by simpa using e7
  obtain ⟨x8, e8, f8, m8⟩ := DataW.trod_int Tryz.underlying22 t8
  obtain rfl : c8 = _ := by simpa using e8
  obtain ⟨n8, rfl, q8⟩ := u_nat m8
  obtain ⟨x90, e90, f90, m90⟩ := DataW.trod_int Tryz.underlying3 u0
  obtain rfl : c9 = _ := by simpa using e90
  obtain ⟨x91, e91, f91, m91⟩ := DataW.trod_int Tryz.underlying3 u1
  obtain rfl : c10 = _ := by simpa using e91
  obtain ⟨x92, e92, f92⟩ := DataW.trod_bool Tryz.underlying4 u2
  obtain rfl : c11 = _ := by simpa using e92
  obtain ⟨x93, e93, f93⟩ := DataW.trod_bool Tryz.underlying4 u3
  obtain rfl : c12 = _ := by simpa using e93
  obtain ⟨x10, e10, f10, m10⟩ := DataW.trod_string Tryz.underlying9 t10
  obtain rfl : c13 = _ := by simpa using e10
  obtain ⟨x11, e11, f11, m11⟩ := DataW.trod_string Tryz.underlying9 t11
  obtain rfl : c14 = _ := by simpa using e11
  simp only [Prod.mk.injEq] at hx
  refine ⟨⟨x0, x1, n2, x3, x4, n5, x6, x7, n8, x90, x91, x92, x93, x10, x11⟩, rfl, ⟨in_i64 m0, q2, q5, in_i64 m6, q8, in_i64 m90, in_i64 m91⟩, ?_⟩
  rw [hx.1]
  simp only [List.map_cons, List.map_nil, f1, f3, f4, f7, f10, f11, Rows.uptoBulk, Rows.uptoBulkAll, dgBulk]
  have l1 : x1.data.toList.length = x1.size := sl_len x1
  have l3 : x3.data.toList.length = x3.size := sl_len x3
  have l4 : x4.data.toList.length = x4.size := sl_len x4
  have l7 : x7.data.toList.length = x7.size := sl_len x7
  have l10 : x10.data.toList.length = x10.size := sl_len x10
  have l11 : x11.data.toList.length = x11.size := sl_len x11
  omega
theorem dg_small {D : Pk.Dg} (h : dgBulk D ≤ 1048576) : D.small := by
  unfold dgBulk at h
  exact ⟨by omega, by omega, by omega, by omega, by omega, by omega⟩
end Go.Proofs.YtiphnlfbgbemfaaGreatDoor

/- there and back, over lists -/
namespace Go.Proofs.YtiphnlfbgbemfaaGreatDoor.Pk
open Go Go.RowKit

theorem sval_be (i size : Int) (h : fitsS i size) : sval (be size.toNat (u64 i)) = i := by
  obtain ⟨⟨h1, h2⟩, h3⟩ := h
  unfold sval
  rw [val_be, be_len]
  have h8 : size = 1 ∨ size = 2 ∨ size = 3 ∨ size = 4 ∨ size = 5 ∨ size = 6 ∨ size = 7 ∨ size = 8 := by omega
  obtain ⟨n, hn⟩ : ∃ n, u64 i = n := ⟨_, rfl⟩
  have hn' : (n : Int) = i % 18446744073709551616 := by rw [← hn]; unfold u64; omega
  rw [hn]
  clear hn h1 h2
  rcases h8 with rfl | rfl | rfl | rfl | rfl | rfl | rfl | rfl
  · have h4 : -((256 : Nat) : Int) ≤ 2 * i ∧ 2 * i < ((256 : Nat) : Int) := h3
    show (if 2 * (n % 256) < 256 then ((n % 256 : Nat) : Int) else ((n % 256 : Nat) : Int) - ((256 : Nat) : Int)) = i
    split <;> omega
  · have h4 : -((65536 : Nat) : Int) ≤ 2 * i ∧ 2 * i < ((65536 : Nat) : Int) := h3
    show (if 2 * (n % 65536) < 65536 then ((n % 65536 : Nat) : Int) else ((n % 65536 : Nat) : Int) - ((65536 : Nat) : Int)) = i
    split <;> omega
  · have h4 : -((16777216 : Nat) : Int) ≤ 2 * i ∧ 2 * i < ((16777216 : Nat) : Int) := h3
    show (if 2 * (n % 16777216) < 16777216 then ((n % 16777216 : Nat) : Int) else ((n % 16777216 : Nat) : Int) - ((16777216 : Nat) : Int)) = i
    split <;> omega
  · have h4 : -((4294967296 : Nat) : Int) ≤ 2 * i ∧ 2 * i < ((4294967296 : Nat) : Int) := h3
    show (if 2 * (n % 4294967296) < 4294967296 then ((n % 4294967296 : Nat) : Int) else ((n % 4294967296 : Nat) : Int) - ((4294967296 : Nat) : Int)) = i
    split <;> omega
  · have h4 : -((1099511627776 : Nat) : Int) ≤ 2 * i ∧ 2 * i < ((1099511627776 : Nat) : Int) := h3
    show (if 2 * (n % 1099511627776) < 1099511627776 then ((n % 1099511627776 : Nat) : Int) else ((n % 1099511627776 : Nat) : Int) - ((1099511627776 : Nat) : Int)) = i
    split <;> omega
  · have h4 : -((281474976710656 : Nat) : Int) ≤ 2 * i ∧ 2 * i < ((281474976710656 : Nat) : Int) := h3
    show (if 2 * (n % 281474976710656) < 281474976710656 then ((n % 281474976710656 : Nat) : Int) else ((n % 281474976710656 : Nat) : Int) - ((281474976710656 : Nat) : Int)) = i
    split <;> omega
  · have h4 : -((72057594037927936 : Nat) : Int) ≤ 2 * i ∧ 2 * i < ((72057594037927936 : Nat) : Int) := h3
    show (if 2 * (n % 72057594037927936) < 72057594037927936 then ((n % 72057594037927936 : Nat) : Int) else ((n % 72057594037927936 : Nat) : Int) - ((72057594037927936 : Nat) : Int)) = i
    split <;> omega
  · have h4 : -((18446744073709551616 : Nat) : Int) ≤ 2 * i ∧ 2 * i < ((18446744073709551616 : Nat) : Int) := h3
    show (if 2 * (n % 18446744073709551616) < 18446744073709551616 then ((n % 18446744073709551616 : Nat) : Int) else ((n % 18446744073709551616 : Nat) : Int) - ((18446744073709551616 : Nat) : Int)) = i
    split <;> omega
theorem be_sval (l : List UInt8) (h : l.length ≤ 8) (h1 : 1 ≤ l.length) : be l.length (u64 (sval l)) = l := by
  have hv := val_lt l
  have e : u64 (sval l) % 256 ^ l.length = val l % 256 ^ l.length := by
    unfold sval u64
    obtain ⟨n, hn⟩ : ∃ n, val l = n := ⟨_, rfl⟩
    obtain ⟨k, hk⟩ : ∃ k, l.length = k := ⟨_, rfl⟩
    rw [hn, hk] at hv
    rw [hn, hk]
    have h9 : k = 1 ∨ k = 2 ∨ k = 3 ∨ k = 4 ∨ k = 5 ∨ k = 6 ∨ k = 7 ∨ k = 8 := by omega
    clear hn hk h h1
    rcases h9 with rfl | rfl | rfl | rfl | rfl | rfl | rfl | rfl
    · have hv' : n < 256 := hv
      show ((if 2 * n < 256 then (n : Int) else (n : Int) - ((256 : Nat) : Int)) % 18446744073709551616).toNat % 256 = n % 256
      split <;> omega
    · have hv' : n < 65536 := hv
      show ((if 2 * n < 65536 then (n : Int) else (n : Int) - ((65536 : Nat) : Int)) % 18446744073709551616).toNat % 65536 = n % 65536
      split <;> omega
    · have hv' : n < 16777216 := hv
      show ((if 2 * n < 16777216 then (n : Int) else (n : Int) - ((16777216 : Nat) : Int)) % 18446744073709551616).toNat % 16777216 = n % 16777216
      split <;> omega
    · have hv' : n < 4294967296 := hv
      show ((if 2 * n < 4294967296 then (n : Int) else (n : Int) - ((4294967296 : Nat) : Int)) % 18446744073709551616).toNat % 4294967296 = n % 4294967296
      split <;> omega
    · have hv' : n < 1099511627776 := hv
      show ((if 2 * n < 1099511627776 then (n : Int) else (n : Int) - ((1099511627776 : Nat) : Int)) % 18446744073709551616).toNat % 1099511627776 = n % 1099511627776
      split <;> omega
    · have hv' : n < 281474976710656 := hv
      show ((if 2 * n < 281474976710656 then (n : Int) else (n : Int) - ((281474976710656 : Nat) : Int)) % 18446744073709551616).toNat % 281474976710656 = n % 281474976710656
      split <;> omega
    · have hv' : n < 72057594037927936 := hv
      show ((if 2 * n < 72057594037927936 then (n : Int) else (n : Int) - ((72057594037927936 : Nat) : Int)) % 18446744073709551616).toNat % 72057594037927936 = n % 72057594037927936
      split <;> omega
    · have hv' : n < 18446744073709551616 := hv
      show ((if 2 * n < 18446744073709551616 then (n : Int) else (n : Int) - ((18446744073709551616 : Nat) : Int)) % 18446744073709551616).toNat % 18446744073709551616 = n % 18446744073709551616
      split <;> omega
  rw [← be_mod _ _ l.length (Nat.le_refl _), e, be_mod _ _ _ (Nat.le_refl _), be_val]
theorem fits_sval (l : List UInt8) : -(256 ^ l.length : Nat) ≤ 2 * sval l ∧ 2 * sval l < (256 ^ l.length : Nat) := by
  have hv := val_lt l
  unfold sval
  split <;> omega

/-- a field of one datagram laid into another -/
def cp (d : Dg) : Fd → Dg → Dg
  | .nonce, e => { e with nonce := d.nonce }
  | .salt, e => { e with salt := d.salt }
  | .cookie, e => { e with cookie := d.cookie }
  | .tag, e => { e with tag := d.tag }
  | .epoch, e => { e with epoch := d.epoch }
  | .session, e => { e with session := d.session }
  | .seq, e => { e with seq := d.seq }
  | .thr, e => { e with thr := d.thr }
  | .turn, e => { e with turn := d.turn }
  | .player, e => { e with player := d.player }
  | .flags, e => { e with fire := d.fire, boost := d.boost }
  | .name, e => { e with name := d.name }
  | .view, e => { e with data := d.data }
  | .zeros, e => e
def cps (d : Dg) : List Fd → Dg → Dg
  | [], e => e
  | f :: fs, e => cps d fs (cp d f e)
def onlyD (d : Dg) : Dg := cps d (fieldsL d.kind) (Dg.zero d.kind)
def fitF (d : Dg) : Fd → Prop
  | .nonce => d.nonce.size = 16
  | .salt => d.salt.size = 16
  | .cookie => d.cookie.size = 32
  | .tag => d.tag.size = 32
  | .epoch => d.epoch < 18446744073709551616
  | .session => d.session < 18446744073709551616
  | .seq => d.seq < 18446744073709551616
  | .thr => fitsS d.thr 1
  | .turn => fitsS d.turn 1
  | .player => fitsU (u64 d.player) 1
  | .flags => True
  | .name => d.name.size ≤ 255
  | .view => True
  | .zeros => True
def lyB (d : Dg) : Fd → List UInt8
  | .nonce => sl d.nonce
  | .salt => sl d.salt
  | .cookie => sl d.cookie
  | .tag => sl d.tag
  | .epoch => be 8 d.epoch
  | .session => be 8 d.session
  | .seq => be 8 d.seq
  | .thr => be 1 (u64 d.thr)
  | .turn => be 1 (u64 d.turn)
  | .player => be 1 (u64 d.player)
  | .flags => be 1 (flagsN d)
  | .name => UInt8.ofNat d.name.size :: sl d.name
  | .view => sl d.data
  | .zeros => zero76
theorem fits8 (x : Nat) (h : x < 18446744073709551616) : fitsU x 8 := ⟨by decide, h⟩
theorem flagsN_lt (d : Dg) : flagsN d < 256 := by unfold flagsN; split <;> split <;> omega
theorem ly_fit (d : Dg) (f : Fd) (P : List UInt8) (r : Bool) (h : fitF d f) : ly d f (some P, r) = (some (P ++ lyB d f), r) := by
  cases f <;> simp only [fitF] at h <;> simp only [ly, lyB, wBytes, wNum, wSig, wText, Option.map_some]
  case nonce => simp [h]
  case salt => simp [h]
  case cookie => simp [h]
  case tag => simp [h]
  case epoch => rw [if_pos (fits8 _ h)]; rfl
  case session => rw [if_pos (fits8 _ h)]; rfl
  case seq => rw [if_pos (fits8 _ h)]; rfl
  case thr => rw [if_pos h]; rfl
  case turn => rw [if_pos h]; rfl
  case player => rw [if_pos h]; rfl
  case flags => rw [if_pos ⟨by decide, flagsN_lt d⟩]; rfl
  case name => rw [if_pos (by rw [sl_len]; exact h), sl_len]
/-- where it does not fit, it is refused -/
theorem ly_miss (d : Dg) (f : Fd) (P : List UInt8) (hf : d.fine) (h : ¬ fitF d f) : (ly d f (some P, false)).1 = none ∨ (ly d f (some P, false)).2 = true := by
  cases f <;> simp only [fitF] at h <;> simp only [ly, wBytes, wNum, wSig, wText]
  case nonce => right; simp [h]
  case salt => right; simp [h]
  case cookie => right; simp [h]
  case tag => right; simp [h]
  case epoch => exact absurd hf.e h
  case session => exact absurd hf.s h
  case seq => exact absurd hf.q h
  case thr => left; rw [if_neg h]
  case turn => left; rw [if_neg h]
  case player => left; rw [if_neg h]
  case flags => exact absurd trivial h
  case name => left; rw [if_neg (by rw [sl_len]; exact h)]
  case view => exact absurd trivial h
  case zeros => exact absurd trivial h
def bad (s : LS) : Prop := s.1 = none ∨ s.2 = true
theorem ly_bad (d : Dg) (f : Fd) (s : LS) (h : bad s) : bad (ly d f s) := by
  obtain ⟨st, r⟩ := s
  rcases h with h | h
  · simp only at h
    subst h
    cases f <;> simp [ly, bad, wBytes, wNum, wSig, wText]
  · simp only at h
    subst h
    cases f <;> simp [ly, bad]
theorem lays_bad (d : Dg) : ∀ (fs : List Fd) (s : LS), bad s → bad (lays d fs s)
  | [], _, h => h
  | f :: fs, s, h => lays_bad d fs (ly d f s) (ly_bad d f s h)
theorem finish_bad (s : LS) (h : bad s) : finish s = ([], 73) := by
  obtain ⟨st, r⟩ := s
  cases st with
  | none => rfl
  | some L =>
    rcases h with h | h
    · cases h
    · simp only at h
      subst h; rfl
def bytesF (d : Dg) (fs : List Fd) : List UInt8 := (fs.map (lyB d)).flatten
theorem lays_fit (d : Dg) : ∀ (fs : List Fd) (P : List UInt8), (∀ f ∈ fs, fitF d f) → lays d fs (some P, false) = (some (P ++ bytesF d fs), false)
  | [], P, _ => by simp [lays, bytesF]
  | f :: fs, P, h => by
    show lays d fs (ly d f (some P, false)) = _
    rw [ly_fit d f P false (h f (by simp)), lays_fit d fs _ (fun g hg => h g (by simp [hg]))]
    simp [bytesF]
theorem lays_miss (d : Dg) (hf : d.fine) : ∀ (fs : List Fd) (P : List UInt8) (f : Fd), f ∈ fs → ¬ fitF d f → bad (lays d fs (some P, false))
  | [], P, f, h, _ => by cases h
  | g :: fs, P, f, h, hn => by
    show bad (lays d fs (ly d g (some P, false)))
    by_cases hg : fitF d g
    · rw [ly_fit d g P false hg]
      have : f ∈ fs := by
        rcases List.mem_cons.1 h with e | e
        · subst e; exact absurd hg hn
        · exact e
      exact lays_miss d hf fs _ f this hn
    · exact lays_bad d fs _ (ly_miss d g P hf hg)
/-- Encode, told by its fields -/
theorem enc_is (d : Dg) (hf : d.fine) : enc d = if fieldsL d.kind = [] then ([], 71) else @ite _ (∀ f ∈ fieldsL d.kind, fitF d f) (Classical.propDecidable _) (if 1200 < (headL d ++ bytesF d (fieldsL d.kind)).length then ([], 72) else (headL d ++ bytesF d (fieldsL d.kind), 0)) ([], 73) := by
  unfold enc
  by_cases h0 : fieldsL d.kind = []
  · rw [if_pos h0, if_pos h0]
  · rw [if_neg h0, if_neg h0]
    by_cases h : ∀ f ∈ fieldsL d.kind, fitF d f
    · rw [if_pos h, lays_fit d _ _ h]; simp [finish]
    · rw [if_neg h]
      have : ∃ f, f ∈ fieldsL d.kind ∧ ¬ fitF d f := by
        refine Classical.byContradiction (fun hc => h (fun f hm => Classical.byContradiction (fun hn => hc ⟨f, hm, hn⟩)))
      obtain ⟨f, hm, hn⟩ := this
      exact finish_bad _ (lays_miss d hf _ _ f hm hn)
end Go.Proofs.YtiphnlfbgbemfaaGreatDoor.Pk

/- what is laid is taken -/
namespace Go.Proofs.YtiphnlfbgbemfaaGreatDoor.Pk
open Go Go.RowKit

theorem need_app (a R : List UInt8) (n : Int) (h : n = (a.length : Int)) : need (a ++ R) n = some (a, R) := by
  subst h
  rw [need, if_neg (by simp; omega), Int.toNat_natCast, List.take_left, List.drop_left]
theorem val_be8 (x : Nat) (h : x < 18446744073709551616) : val (be 8 x) = x := by
  rw [val_be]; exact Nat.mod_eq_of_lt h
theorem val_be1 (x : Nat) (h : x < 256) : val (be 1 x) = x := by
  rw [val_be]; exact Nat.mod_eq_of_lt (by simpa using h)
theorem tk_there (d : Dg) (f : Fd) (e : Dg) (R : List UInt8) (r : Bool) (h : fitF d f) (hp : f = .player → -9223372036854775808 ≤ d.player ∧ d.player < 9223372036854775808) (hv : f = .view → R.length = 32) : tk f (e, lyB d f ++ R, r) = some (cp d f e, R, r) := by
  have sb : ∀ s : ByteArray, ba (sl s) = s := fun s => sl_back s
  cases f <;> simp only [fitF] at h <;> simp only [tk, lyB, cp]
  case nonce => rw [need_app _ _ _ (by rw [sl_len, h]; rfl)]; simp only [Option.map_some, sb]
  case salt => rw [need_app _ _ _ (by rw [sl_len, h]; rfl)]; simp only [Option.map_some, sb]
  case cookie => rw [need_app _ _ _ (by rw [sl_len, h]; rfl)]; simp only [Option.map_some, sb]
  case tag => rw [need_app _ _ _ (by rw [sl_len, h]; rfl)]; simp only [Option.map_some, sb]
  case epoch => rw [need_app _ _ _ (by rw [be_len]; rfl)]; simp only [Option.map_some, val_be8 _ h]
  case session => rw [need_app _ _ _ (by rw [be_len]; rfl)]; simp only [Option.map_some, val_be8 _ h]
  case seq => rw [need_app _ _ _ (by rw [be_len]; rfl)]; simp only [Option.map_some, val_be8 _ h]
  case thr => rw [need_app _ _ _ (by rw [be_len]; rfl)]; simp only [Option.map_some]; rw [show sval (be 1 (u64 d.thr)) = d.thr from sval_be d.thr 1 h]
  case turn => rw [need_app _ _ _ (by rw [be_len]; rfl)]; simp only [Option.map_some]; rw [show sval (be 1 (u64 d.turn)) = d.turn from sval_be d.turn 1 h]
  case player =>
    rw [need_app _ _ _ (by rw [be_len]; rfl)]
    have h2 : u64 d.player < 256 := by have := h.2; simpa using this
    simp only [Option.map_some, val_be1 _ h2]
    have : ((u64 d.player : Nat) : Int) = d.player := by
      have := hp rfl
      unfold u64 at h2 ⊢
      omega
    rw [this]
  case flags =>
    rw [need_app _ _ _ (by rw [be_len]; rfl)]
    simp only [Option.map_some, val_be1 _ (flagsN_lt d)]
    cases hfi : d.fire <;> cases hbo : d.boost <;> simp [flagsN, hfi, hbo]
  case name =>
    have e1 : need (UInt8.ofNat d.name.size :: sl d.name ++ R) 1 = some ([UInt8.ofNat d.name.size], sl d.name ++ R) := need_app [UInt8.ofNat d.name.size] (sl d.name ++ R) 1 rfl
    rw [e1]
    simp only [Option.bind_some]
    have e2 : val [UInt8.ofNat d.name.size] = d.name.size := by simp [val]; omega
    rw [e2, need_app _ _ _ (by rw [sl_len])]
    simp only [Option.map_some, sb]
  case view =>
    rw [need_app _ _ _ (by rw [List.length_append, hv rfl]; omega)]
    simp only [Option.map_some, sb]
  case zeros =>
    rw [need_app _ _ _ (by decide)]
    simp
theorem takes_there (d : Dg) (hf : d.fine) (h : ∀ f ∈ fieldsL d.kind, fitF d f) (e : Dg) : takes (fieldsL d.kind) (e, bytesF d (fieldsL d.kind), false) = some (cps d (fieldsL d.kind) e, [], false) := by
  by_cases hk : d.kind < 1 ∨ 7 < d.kind
  · rw [fieldsL_nil hk]; rfl
  · have hks : d.kind = 1 ∨ d.kind = 2 ∨ d.kind = 3 ∨ d.kind = 4 ∨ d.kind = 5 ∨ d.kind = 6 ∨ d.kind = 7 := by omega
    have ht : ∀ (f : Fd) (x : Dg) (R : List UInt8), f ∈ fieldsL d.kind → (f = .view → R.length = 32) → tk f (x, lyB d f ++ R, false) = some (cp d f x, R, false) := fun f x R hm hv => tk_there d f x R false (h f hm) (fun _ => hf.p) hv
    rcases hks with hk | hk | hk | hk | hk | hk | hk
    all_goals rw [hk] at h ht ⊢
    all_goals simp only [fieldsL, bytesF, List.map_cons, List.map_nil, List.flatten_cons, List.flatten_nil, takes, cps, reduceIte, Int.reduceEq] at h ht ⊢
    all_goals (repeat (rw [ht _ _ _ (by simp) (by first | (intro e; cases e; done) | (intro _; rw [List.append_nil]; exact (sl_len _).trans (h .tag (by simp))))]; simp only [Option.bind_some]))
theorem kind_head (d : Dg) (hk : 1 ≤ d.kind ∧ d.kind ≤ 7) (X : List UInt8) : kindL (headL d ++ X) = d.kind ∧ (headL d ++ X).take 3 = magic ∧ (headL d ++ X).drop 4 = X := by
  obtain ⟨k, hkk⟩ : ∃ k : Nat, d.kind = (k : Int) := ⟨d.kind.toNat, by omega⟩
  have e : headL d = [74, 48, 49, UInt8.ofNat k] := by
    unfold headL u64
    rw [hkk, show ((k : Int) % 18446744073709551616).toNat % 256 = k by omega]
    rfl
  rw [e]
  refine ⟨?_, rfl, rfl⟩
  rw [kindL, if_neg (by simp; rfl)]
  show (((UInt8.ofNat k).toNat : Nat) : Int) = _
  rw [hkk]
  simp
  omega
/-- what is written is taken apart to the same -/
theorem dec_enc (d : Dg) (hf : d.fine) (h : (enc d).2 = 0) : dec (enc d).1 = (onlyD d, 0) := by
  rw [enc_is d hf] at h ⊢
  by_cases h0 : fieldsL d.kind = []
  · rw [if_pos h0] at h; cases h
  · rw [if_neg h0] at h ⊢
    by_cases hft : ∀ f ∈ fieldsL d.kind, fitF d f
    · rw [if_pos hft] at h ⊢
      by_cases hl : 1200 < (headL d ++ bytesF d (fieldsL d.kind)).length
      · rw [if_pos hl] at h; cases h
      · rw [if_neg hl]
        have hk : 1 ≤ d.kind ∧ d.kind ≤ 7 := by
          refine Classical.byContradiction (fun hc => h0 (fieldsL_nil (by omega)))
        obtain ⟨e1, e2, e3⟩ := kind_head d hk (bytesF d (fieldsL d.kind))
        dsimp only
        rw [dec, if_neg hl, if_neg (by simp [e2]), e1, if_neg h0, e3, takes_there d hf hft]
        simp [ended, onlyD]
    · rw [if_neg hft] at h; cases h
theorem enc_codes (d : Dg) (hf : d.fine) : ((enc d).2 = 0 ∨ ((enc d).1 = [] ∧ 71 ≤ (enc d).2 ∧ (enc d).2 ≤ 73)) := by
  rw [enc_is d hf]
  split
  · right; exact ⟨rfl, by decide, by decide⟩
  · split
    · split
      · right; exact ⟨rfl, by decide, by decide⟩
      · left; rfl
    · right; exact ⟨rfl, by decide, by decide⟩
end Go.Proofs.YtiphnlfbgbemfaaGreatDoor.Pk

/- frame.Body, Sealed -/
namespace Go.Proofs.YtiphnlfbgbemfaaGreatDoor.Pk
open Go Go.RowKit

def bodyB (s : ByteArray) : ByteArray := ba (bodyL (sl s))
theorem ext_to (s : ByteArray) (n : Nat) : s.extract 0 n = ba ((sl s).take n) := by
  apply sl_inj
  rw [sl_mk]
  simp only [sl, ByteArray.data_extract, Array.toList_extract, List.extract, Nat.sub_zero, List.drop_zero]
theorem ba_size (l : List UInt8) : (ba l).size = l.length := by simp [ByteArray.size]
set_option maxHeartbeats 4000000 in
set_option maxRecDepth 100000 in
theorem body_c (s : ByteArray) (w : World) (hs : s.size ≤ 281474976710656) :
    Calls Tryz.prog 14 #[.string s] w fun e w' => e = .returned (.string (bodyB s)) ∧ w.grownBy w' none := by
  by_cases h36 : s.size < 36
  · have hb : bodyB s = nob := by rw [bodyB, bodyL, if_pos (.inl (by rw [sl_len]; exact h36))]; rfl
    rw [hb]
    have hd : decide ((s.size : Int) < 36) = true := decide_eq_true (by omega)
    clear h36 hb
    go_enter Tryz.func14, Tryz.ntmps14
    go_wp2_with fail
    go_ret
    exact ⟨rfl, World.grownBy.refl _ _⟩
  · have hd : decide ((s.size : Int) < 36) = false := decide_eq_false (by omega)
    have HK := Keep.mk (kind_c s w (by omega))
    by_cases ht : 3 ≤ kindL (sl s) ∧ kindL (sl s) ≤ 7
    · have hb : bodyB s = ba ((sl s).take (s.size - 32)) := by rw [bodyB, bodyL, if_neg (by rw [sl_len]; simp [ht]; omega), sl_len]
      rw [hb]
      have HT := Keep.mk (tagged_c (kindL (sl s)) w)
      rw [decide_eq_true ht] at HT
      obtain ⟨m, hm⟩ : ∃ m, s.size - 32 = m := ⟨_, rfl⟩
      have hi : IntKind.i64.wrap ((s.size : Int) - 32) = (m : Int) := by rw [show (s.size : Int) - 32 = (m : Int) by omega]; exact IntWalk.i64_in _ (by omega)
      rw [hm]
      have hsz : (ba ((sl s).take m)).size ≤ 281474976710656 := by rw [ba_size, List.length_take, sl_len]; omega
      have hT := ext_to s m
      generalize ba ((sl s).take m) = T at hT hsz ⊢
      have hm0 : (m : Int) ≤ s.size := by omega
      generalize kindL (sl s) = k at HK HT
      have HZ := Keep.mk hsz
      clear ht hb hm hsz h36
      go_enter Tryz.func14, Tryz.ntmps14
      go_wp2_with fail
      refine HK.out.mono ?_
      rintro e w1 ⟨rfl, rfl⟩
      go_wp2_with fail
      refine HT.out.mono ?_
      rintro e w1 ⟨rfl, rfl⟩
      go_wp2_with fail
      refine (clone_c T _ HZ.out).mono ?_
      rintro e w1 ⟨rfl, g1⟩
      have HG := Keep.mk g1
      clear g1
      go_wp2_with fail
      go_ret
      exact ⟨rfl, HG.out⟩
    · have hb : bodyB s = nob := by rw [bodyB, bodyL, if_pos (.inr ht)]; rfl
      rw [hb]
      have HT := Keep.mk (tagged_c (kindL (sl s)) w)
      rw [decide_eq_false ht] at HT
      generalize kindL (sl s) = k at HK HT
      clear ht hb h36
      go_enter Tryz.func14, Tryz.ntmps14
      go_wp2_with fail
      refine HK.out.mono ?_
      rintro e w1 ⟨rfl, rfl⟩
      go_wp2_with fail
      refine HT.out.mono ?_
      rintro e w1 ⟨rfl, rfl⟩
      go_wp2_with fail
      go_ret
      exact ⟨rfl, World.grownBy.refl _ _⟩
end Go.Proofs.YtiphnlfbgbemfaaGreatDoor.Pk

/- frame.Sealed -/
namespace Go.Proofs.YtiphnlfbgbemfaaGreatDoor.Pk
open Go Go.RowKit

def sealed (s key : ByteArray) : Bool := decide (bodyB s ≠ nob ∧ s.extract (bodyB s).size s.size = hmacB key (bodyB s))
theorem emptyS (s : ByteArray) : s.toList.isEmpty = decide (s = nob) := by
  rw [Bool.eq_iff_iff, List.isEmpty_iff, decide_eq_true_iff, ByteArray.toList_eq]
  exact ⟨fun e => ByteArray.ext (Array.toList_inj.1 e), fun e => by rw [e]; rfl⟩
theorem bodyB_size (s : ByteArray) : (bodyB s).size ≤ s.size := by
  rw [bodyB, ba_size, bodyL]
  split
  · simp
  · rw [List.length_take, sl_len]; omega
set_option maxHeartbeats 4000000 in
set_option maxRecDepth 100000 in
theorem sealed_no (s key : ByteArray) (w : World) (hs : s.size ≤ 281474976710656) (hb : bodyB s = nob) :
    Calls Tryz.prog 18 #[.string s, .string key] w fun e w' => e = .returned (.bool false) ∧ w.grownBy w' none := by
  have HB := Keep.mk (body_c s w hs)
  have hE := emptyS (bodyB s)
  rw [decide_eq_true hb] at hE
  obtain ⟨B, hB⟩ : ∃ B, bodyB s = B := ⟨_, rfl⟩
  rw [hB] at HB hE
  clear hb hB
  go_enter Tryz.func18, Tryz.ntmps18
  go_wp2_with fail
  refine HB.out.mono ?_
  rintro e w1 ⟨rfl, g1⟩
  have HG := Keep.mk g1
  clear g1
  go_wp2_with fail
  go_quiet (fail)
  go_wp2_with fail
  go_ret
  exact ⟨rfl, HG.out.trans (gr_drewN _ _ _)⟩
set_option maxHeartbeats 4000000 in
set_option maxRecDepth 100000 in
theorem sealed_yes (s key : ByteArray) (w : World) (hk : Kc w) (hs : s.size ≤ 281474976710656) (hkey : key.size ≤ 2305843009213693952) (hb : bodyB s ≠ nob) :
    Calls Tryz.prog 18 #[.string s, .string key] w fun e w' => e = .returned (.bool (decide (s.extract (bodyB s).size s.size = hmacB key (bodyB s)))) ∧ w.grownBy w' none := by
  have HB := Keep.mk (body_c s w hs)
  have hE := emptyS (bodyB s)
  rw [decide_eq_false hb] at hE
  have hsz := bodyB_size s
  obtain ⟨B, hB⟩ : ∃ B, bodyB s = B := ⟨_, rfl⟩
  rw [hB] at HB hE hsz ⊢
  have hsz2 : (B.size : Int) ≤ (s.size : Int) := by omega
  obtain ⟨X, hX⟩ : ∃ X, s.extract B.size s.size = X := ⟨_, rfl⟩
  have hXs : X.size ≤ 4611686018427387904 := by rw [← hX, ByteArray.size_extract]; omega
  have HK : Keep (Kc w ∧ key.size ≤ 2305843009213693952 ∧ B.size ≤ 2305843009213693952 ∧ X.size ≤ 4611686018427387904 ∧ ∀ k t : ByteArray, (hmacB k t).size ≤ 4611686018427387904) := ⟨hk, hkey, by omega, hXs, fun k t => by rw [← sl_len]; show (Go.Proofs.YtiphnlfbgbemfaaGreatDoor.sl (hmacB k t)).length ≤ _; rw [hmacB_sl]; have : (Mac.hmac (Go.Proofs.YtiphnlfbgbemfaaGreatDoor.sl k) (Go.Proofs.YtiphnlfbgbemfaaGreatDoor.sl t)).length = 32 := Mac.sha_len _; omega⟩
  rw [hX]
  clear hb hB hk hkey hXs
  go_enter Tryz.func18, Tryz.ntmps18
  go_wp2_with fail
  refine HB.out.mono ?_
  rintro e w1 ⟨rfl, g1⟩
  have HG : Keep (w.grownBy w1.drew none) := ⟨g1.trans (gr_drew _ _)⟩
  clear g1
  go_wp2_with fail
  refine wp_region_held_drew (S := fun _ => True) (by kernel_rfl) trivial (fun hHeld => ?_)
  refine wpAnyH_take (i := 0) (oi := _) (v := ?_) rfl (by kernel_rfl) (by kernel_rfl) (by kernel_rfl) (fun _ _ _ h => h) (Or.inl ⟨by rfl, ?_⟩) (by assumption) ?_
  rotate_left
  · (intro w hSw; go_simp; first | done | (with_reducible rfl))
  simp only [Act.put, List.getElem_toArray, List.getElem_cons_zero, List.setIfInBounds_toArray, List.set_cons_zero, List.set_cons_succ]
  refine wpAnyH_take (i := 1) (oi := _) (v := ?_) rfl (by kernel_rfl) (by kernel_rfl) (by kernel_rfl) (fun _ _ _ h => h) (Or.inl ⟨by rfl, ?_⟩) (by assumption) ?_
  rotate_left
  · (intro w hSw; go_simp; first | done | (with_reducible rfl))
  simp only [Act.put, List.getElem_toArray, List.getElem_cons_succ, List.getElem_cons_zero, List.setIfInBounds_toArray, List.set_cons_zero, List.set_cons_succ]
  refine wpAnyH_take (i := 2) (oi := _) (v := ?_) rfl (by kernel_rfl) (by kernel_rfl) (by kernel_rfl) (fun _ _ _ h => h) (Or.inl ⟨by rfl, ?_⟩) (by assumption) ?_
  rotate_left
  · (intro w hSw; go_simp; first | done | (with_reducible rfl))
  simp only [Act.put, List.getElem_toArray, List.getElem_cons_succ, List.getElem_cons_zero, List.setIfInBounds_toArray, List.set_cons_zero, List.set_cons_succ]
  refine wpAnyH_take (i := 3) (oi := _) (v := ?_) rfl (by kernel_rfl) (by kernel_rfl) (by kernel_rfl) (fun _ _ _ h => h) (Or.inl ⟨by rfl, ?_⟩) (by assumption) ?_
  rotate_left
  · (intro w hSw; go_simp; first | done | (with_reducible rfl))
  simp only [Act.put, List.getElem_toArray, List.getElem_cons_succ, List.getElem_cons_zero, List.setIfInBounds_toArray, List.set_cons_zero, List.set_cons_succ]
  refine wpAnyH_take (i := 4) (oi := _) (v := ?_) rfl (by kernel_rfl) (by kernel_rfl) (by kernel_rfl) (fun _ _ _ h => h) (Or.inl ⟨by rfl, ?_⟩) (by assumption) ?_
  rotate_left
  · (intro w hSw; go_simp; first | done | (with_reducible rfl))
  simp only [Act.put, List.getElem_toArray, List.getElem_cons_succ, List.getElem_cons_zero, List.setIfInBounds_toArray, List.set_cons_zero, List.set_cons_succ]
  refine wpAnyH_take (i := 5) (oi := _) (v := ?_) rfl (by kernel_rfl) (by kernel_rfl) (by kernel_rfl) (fun _ _ _ h => h) (Or.inl ⟨by rfl, ?_⟩) (by assumption) ?_
  rotate_left
  · (intro w hSw; go_simp; first | done | (with_reducible rfl))
  simp only [Act.put, List.getElem_toArray, List.getElem_cons_succ, List.getElem_cons_zero, List.setIfInBounds_toArray, List.set_cons_zero, List.set_cons_succ]
  refine wpAnyH_take (i := 6) (oi := _) (v := ?_) rfl (by kernel_rfl) (by kernel_rfl) (by kernel_rfl) (fun _ _ _ h => h) (Or.inl ⟨by rfl, ?_⟩) (by assumption) ?_
  rotate_left
  · (intro w hSw; go_simp; first | done | (with_reducible rfl))
  simp only [Act.put, List.getElem_toArray, List.getElem_cons_succ, List.getElem_cons_zero, List.setIfInBounds_toArray, List.set_cons_zero, List.set_cons_succ]
  refine wpAnyH_take (i := 7) (oi := _) (v := ?_) rfl (by kernel_rfl) (by kernel_rfl) (by kernel_rfl) (fun _ _ _ h => h) (Or.inl ⟨by rfl, ?_⟩) (by assumption) ?_
  rotate_left
  · (intro w hSw; go_simp; first | done | (with_reducible rfl))
  simp only [Act.put, List.getElem_toArray, List.getElem_cons_succ, List.getElem_cons_zero, List.setIfInBounds_toArray, List.set_cons_zero, List.set_cons_succ]
  refine wpAnyH_take (i := 8) (oi := _) (v := ?_) rfl (by kernel_rfl) (by kernel_rfl) (by kernel_rfl) (fun _ _ _ h => h) (Or.inl ⟨by rfl, ?_⟩) (by assumption) ?_
  rotate_left
  · (intro w hSw; go_simp; first | done | (with_reducible rfl))
  simp only [Act.put, List.getElem_toArray, List.getElem_cons_succ, List.getElem_cons_zero, List.setIfInBounds_toArray, List.set_cons_zero, List.set_cons_succ]
  refine wpAnyH_ready (rs := [9]) (by kernel_rfl) (by simp) ?_
  refine AllReadyH.cons rfl (fun K hK => ?_) AllReadyH.nil
  go_simp
  refine (tag_any key B _ (HK.out.1.kept HG.out (by simp)) HK.out.2.1 HK.out.2.2.1).mono ?_
  rintro e w2 ⟨rfl, g2⟩
  have HG2 : Keep (w.grownBy w2 none) := ⟨HG.out.trans g2⟩
  clear g2
  refine hK.out _ _ trivial (fun hHeld => ?_)
  clear hK K
  refine wpAnyH_ready (rs := [10]) (by kernel_rfl) (by simp) ?_
  refine AllReadyH.cons rfl (fun K hK => ?_) AllReadyH.nil
  go_simp
  refine (same_any X (hmacB key B) _ HK.out.2.2.2.1 (HK.out.2.2.2.2 _ _)).mono ?_
  rintro e w3 ⟨rfl, g3⟩
  have HG3 : Keep (w.grownBy w3 none) := ⟨HG2.out.trans g3⟩
  clear g3
  refine hK.out _ _ trivial (fun hHeld => ?_)
  clear hK K
  refine wpAnyH_take (i := 11) (oi := _) (v := ?_) rfl (by kernel_rfl) (by kernel_rfl) (by kernel_rfl) (fun _ _ _ h => h) (Or.inl ⟨by rfl, ?_⟩) (by assumption) ?_
  rotate_left
  · (intro w hSw; go_simp; first | done | (with_reducible rfl))
  simp only [Act.put, List.getElem_toArray, List.getElem_cons_succ, List.getElem_cons_zero, List.setIfInBounds_toArray, List.set_cons_zero, List.set_cons_succ]
  refine wpAnyH_take (i := 12) (oi := _) (v := ?_) rfl (by kernel_rfl) (by kernel_rfl) (by kernel_rfl) (fun _ _ _ h => h) (Or.inl ⟨by rfl, ?_⟩) (by assumption) ?_
  rotate_left
  · (intro w hSw; go_simp; first | done | (with_reducible rfl))
  simp only [Act.put, List.getElem_toArray, List.getElem_cons_succ, List.getElem_cons_zero, List.setIfInBounds_toArray, List.set_cons_zero, List.set_cons_succ]
  refine wpAnyH_done (by kernel_rfl) ?_ _
  clear hHeld
  go_wp2_with fail
  go_ret
  refine ⟨?_, HG3.out⟩
  have : decide (Go.Proofs.YtiphnlfbgbemfaaGreatDoor.sl X = Go.Proofs.YtiphnlfbgbemfaaGreatDoor.sl (hmacB key B)) = decide (X = hmacB key B) := decide_eq_decide.2 ⟨fun e => sl_inj e, fun e => by rw [e]⟩
  rw [← this]
  rfl
theorem sealed_c (s key : ByteArray) (w : World) (hk : Kc w) (hs : s.size ≤ 281474976710656) (hkey : key.size ≤ 2305843009213693952) :
    Calls Tryz.prog 18 #[.string s, .string key] w fun e w' => e = .returned (.bool (sealed s key)) ∧ w.grownBy w' none := by
  by_cases hb : bodyB s = nob
  · have : sealed s key = false := by simp [sealed, hb]
    rw [this]; exact sealed_no s key w hs hb
  · have : sealed s key = decide (s.extract (bodyB s).size s.size = hmacB key (bodyB s)) := by simp [sealed, hb]
    rw [this]; exact sealed_yes s key w hk hs hkey hb
end Go.Proofs.YtiphnlfbgbemfaaGreatDoor.Pk

/- frame.Encode -/
namespace Go.Proofs.YtiphnlfbgbemfaaGreatDoor.Pk
open Go Go.RowKit

set_option maxHeartbeats 8000000 in
set_option maxRecDepth 100000 in
theorem encode_no (d : Dg) (w : World) (h : fieldsL d.kind = []) :
    Calls Tryz.prog 12 #[dv d] w fun e w' => e = .returned (.tuple #[.string nob, .int .i64 71]) ∧ w.grownBy w' none := by
  have HF := fields_c d.kind
  rw [h] at HF
  obtain ⟨kd, no, ep, co, na, se, pl, sa, sq, th, tu, fi, bo, da, ta⟩ := d
  dsimp only [dv] at HF ⊢
  obtain ⟨w0, hw0⟩ : ∃ q, w.alloc (.cells #[.int .i64 kd, .string no, .int .u64 ep, .string co, .string na, .int .u64 se, .int .i64 pl, .string sa, .int .u64 sq, .int .i64 th, .int .i64 tu, .bool fi, .bool bo, .string da, .string ta] 26) = q := ⟨_, rfl⟩
  have h0 : Has w0 w.heap.size (Dg.cells ⟨kd, no, ep, co, na, se, pl, sa, sq, th, tu, fi, bo, da, ta⟩) 26 := by rw [← hw0]; exact Has.newA w _ 26
  have g0 : w.grownBy w0 none := by rw [← hw0]; exact World.grownBy_alloc _ _ _
  have c0 : w0.cell? ⟨w.heap.size, 0, none⟩ = some (.int .i64 kd) := h0.cellv 0 _ rfl
  have HG := Keep.mk g0
  have HFF := Keep.mk HF
  clear h h0 g0 HF
  go_enter Tryz.func12, Tryz.ntmps12
  go_wp2_with fail
  refine (HFF.out w0).mono ?_
  rintro e w1 ⟨a, c, rfl, _, g1⟩
  have HG1 := Keep.mk (HG.out.trans g1)
  clear g1
  dsimp only [List.length_nil]
  go_wp2
  go_ret2
  exact ⟨rfl, HG1.out⟩
end Go.Proofs.YtiphnlfbgbemfaaGreatDoor.Pk

/- frame.Encode -/
namespace Go.Proofs.YtiphnlfbgbemfaaGreatDoor.Pk
open Go Go.RowKit

set_option maxHeartbeats 8000000 in
set_option maxRecDepth 100000 in
theorem encode_yes (d : Dg) (hf : d.fine) (hs : d.small) (w : World) (hk : 1 ≤ d.kind ∧ d.kind ≤ 7) :
    Calls Tryz.prog 12 #[dv d] w fun e w' => e = .returned (.tuple #[.string (ba (enc d).1), .int .i64 (enc d).2]) ∧ w.grownBy w' none := by
  have he : enc d = finish (lays d (fieldsL d.kind) (some (headL d), false)) := by rw [enc, if_neg (fieldsL_some (by omega))]
  have hne : fieldsL d.kind ≠ [] := fieldsL_some (by omega)
  have h6 := fieldsL_len d.kind
  have HD : Keep (d.fine ∧ d.small) := ⟨hf, hs⟩
  obtain ⟨fs, hfs⟩ : ∃ fs, fieldsL d.kind = fs := ⟨_, rfl⟩
  have HF := fields_c d.kind
  rw [hfs] at he hne h6 HF
  rw [he]
  obtain ⟨n, hn⟩ : ∃ n, fs.length = n := ⟨_, rfl⟩
  rw [hn] at h6 HF
  have hn0 : 0 < n := by rw [← hn]; exact List.length_pos_iff.2 hne
  obtain ⟨kn, hkn⟩ : ∃ kn : Nat, d.kind = (kn : Int) := ⟨d.kind.toNat, by omega⟩
  have hkn7 : kn ≤ 7 := by omega
  have hhead : headL d = [74, 48, 49, UInt8.ofNat kn] := by
    unfold headL u64
    rw [hkn]
    rw [show ((kn : Int) % 18446744073709551616).toNat % 256 = kn by omega]
    rfl
  have HH : Keep (headL d = [74, 48, 49, UInt8.ofNat kn]) := ⟨hhead⟩
  obtain ⟨D, hD⟩ : ∃ D, d.cells = D := ⟨_, rfl⟩
  obtain ⟨w0, hw0⟩ : ∃ q, w.alloc (.cells D.toArray 26) = q := ⟨_, rfl⟩
  have h0 : Has w0 w.heap.size D 26 := by rw [← hw0]; exact Has.new w _ 26
  have g0 : w.grownBy w0 none := by rw [← hw0]; exact World.grownBy_alloc _ _ _
  have c0 : w0.cell? ⟨w.heap.size, 0, none⟩ = some (.int .i64 (kn : Int)) := h0.cellv 0 _ (by rw [← hD, ← hkn]; rfl)
  have HW : Keep (w.grownBy w0 none ∧ Has w0 w.heap.size d.cells 26) := ⟨g0, by rw [hD]; exact h0⟩
  have HFF := Keep.mk (HF w0)
  have HN : Keep (fs.length = n ∧ n ≤ 6) := ⟨hn, h6⟩
  rw [hkn] at HFF
  rw [← hD] at hw0
  have hw1 : w.alloc (.cells #[.int .i64 d.kind, .string d.nonce, .int .u64 d.epoch, .string d.cookie, .string d.name, .int .u64 d.session, .int .i64 d.player, .string d.salt, .int .u64 d.seq, .int .i64 d.thr, .int .i64 d.turn, .bool d.fire, .bool d.boost, .string d.data, .string d.tag] 26) = w0 := hw0
  clear h0 g0 HF hne he hfs hk hhead hD hw0 hf hs hkn
  unfold dv
  go_enter Tryz.func12, Tryz.ntmps12
  go_wp2_with fail
  refine HFF.out.mono ?_
  rintro e w1 ⟨a, c, rfl, fl, g1⟩
  have HW1 : Keep (w.grownBy w1 none ∧ Has w1 w.heap.size d.cells 26 ∧ Flds w1 a fs) := ⟨HW.out.1.trans g1, HW.out.2.kept g1 (by simp), fl⟩
  have c1 : w1.cell? ⟨w.heap.size, 0, none⟩ = some (.int .i64 (kn : Int)) := g1.cell c0 (by simp)
  clear g1 fl HFF
  have hb0 : ((n : Int) == 0) = false := by simp; omega
  obtain ⟨x8, hx8⟩ : ∃ x, UInt8.ofNat kn = x := ⟨_, rfl⟩
  have hx8n : (kn : Int) = (x8.toNat : Int) := by rw [← hx8]; simp; omega
  obtain ⟨w2, hw2⟩ : ∃ q, w1.alloc (.cells #[.int .u8 (kn : Int)] 5) = q := ⟨_, rfl⟩
  have h2 : Has w2 w1.heap.size [.int .u8 (kn : Int)] 5 := by rw [← hw2]; exact Has.newA w1 _ 5
  have g2 : w1.grownBy w2 none := by rw [← hw2]; exact World.grownBy_alloc _ _ _
  have hcv : (convert 39 9 (.slice (some ⟨w1.heap.size, 0, none⟩) 1 1)).run Tryz.prog w2 = .ok (.string (ba [x8])) w2 := by
    have := cvt_cells w2 (some ⟨w1.heap.size, 0, none⟩) 1 [x8] (fun e => by cases e) (fun ad e j x hx => by
      obtain rfl := Option.some.inj e
      match j, hx with
      | 0, rfl => rw [show ((⟨w1.heap.size, 0, none⟩ : Addr).add 0) = ⟨w1.heap.size, 0, none⟩ from rfl, h2.cellv 0 _ rfl, hx8n])
    exact this
  obtain ⟨X, hX⟩ : ∃ X, ba [x8] = X := ⟨_, rfl⟩
  obtain ⟨Y, hY⟩ : ∃ Y, mgB ++ X = Y := ⟨_, rfl⟩
  have hadd : ∀ W, (Op.stringOp .add { data := #[74, 48, 49] } X).run Tryz.prog W = .ok (.string Y) W := fun W => by
    rw [← hY]; exact addS mgB X (by rw [← hX]; show 3 + 1 ≤ 9223372036854775807; decide) W
  rw [hX] at hcv
  have HY : Keep (sl Y = headL d ∧ Y.size ≤ 1048576) := by
    have e : sl Y = headL d := by rw [HH.out, ← hY, ← hX, hx8]; rfl
    exact ⟨e, by rw [← sl_len, e, HH.out]; show 4 ≤ 1048576; decide⟩
  have HW2 : Keep (w1.grownBy w2 none) := ⟨g2⟩
  clear h2 g2 hX hY hx8 hx8n
  go_wp2_with fail
  refine (newO_c Y HY.out.2 w2).mono ?_
  rintro e w3 ⟨ob, wb, v, rfl, o3, g3, l1, l2, l3⟩
  have hg13 := HW2.out.trans g3
  have hs12 := HW2.out.size
  have hdb : w.heap.size < w1.heap.size := HW1.out.2.1.lt
  have HE0 : Keep (EL w1 w3 w.heap.size ob wb d fs (headL d) 0 v) := ⟨hg13, ⟨HW1.out.2.1.kept hg13 (by simp), by rw [HY.out.1] at o3; exact o3, not_of (w := w1) hdb (Nat.le_trans hs12 l1) (Nat.le_trans hs12 l2) (fun k e => Nat.le_trans hs12 (l3 k e)), by simp [lays, HH.out]⟩, Nat.le_trans hs12 l1, Nat.le_trans hs12 l2, fun k e => Nat.le_trans hs12 (l3 k e)⟩
  have HDB : Keep (w.heap.size < w1.heap.size) := ⟨hdb⟩
  clear o3 g3 l1 l2 l3 hg13 hs12 hdb HW2
  go_wp2_with fail
  go_loopw [23] (fun t w' => ∃ (k : Nat) (v : Value), k ≤ n ∧ t = .int .i64 k ∧ Keep (EL w1 w' w.heap.size ob wb d fs (headL d) k v)) (fun t _ => n - (intOf t).toNat)
  case atStart => exact ⟨0, v, by omega, rfl, HE0⟩
  case round =>
    obtain ⟨k, v, hkn, rfl, hrel⟩ := hrel
    by_cases hlt : k < n
    · have hfk : ∃ f, fs[k]? = some f := ⟨fs[k]'(by rw [HN.out.1]; exact hlt), List.getElem?_eq_getElem _⟩
      obtain ⟨f, hfk⟩ := hfk
      obtain ⟨vt, vl, fb, rfl, ct, cl, FC⟩ := HW1.out.2.2 k f hfk
      obtain ⟨nt, ct', nl, cl', rfl, rfl, _, enl, LC⟩ := FC
      have ct := hrel.out.g.cell ct (by simp)
      have cl := hrel.out.g.cell cl (by simp)
      have HL := Keep.mk LC
      have HFK := Keep.mk hfk
      rw [Nat.mul_comm] at ct cl
      clear LC hfk
      obtain ⟨wz, hwz⟩ : ∃ q, wr.alloc (.cells #[fc nt ct', fc nl cl'] 57) = q := ⟨_, rfl⟩
      have gz : wr.grownBy wz none := by rw [← hwz]; exact World.grownBy_alloc _ _ _
      have HZ : Keep (EL w1 wz w.heap.size ob wb d fs (headL d) k v) := by
        have h := hrel.out
        exact ⟨h.g.trans gz, ⟨h.l.d.kept gz (by simp), h.l.o.kept gz, h.l.n, h.l.l⟩, h.o, h.b, h.v⟩
      have cz : wz.cell? ⟨wr.heap.size, 1, none⟩ = some (fc nl cl') := by rw [← hwz]; exact (Has.newA wr #[fc nt ct', fc nl cl'] 57).cellv 1 _ rfl
      clear gz hrel
      go_wp2_with fail
      refine (HL.out wz w.heap.size ob wb v d _ _ HZ.out.g HZ.out.o HZ.out.b HZ.out.v HZ.out.l HD.out.1 HD.out.2).mono ?_
      rintro e wy ⟨rfl, v', hod⟩
      have HY2 : Keep (EL w1 wy w.heap.size ob wb d fs (headL d) (k + 1) v') := ⟨HZ.out.next HFK.out HD.out.2 (by rw [HH.out]; exact Nat.le_refl _) (by rw [HN.out.1]; exact HN.out.2) HDB.out hod⟩
      clear hod HZ
      go_wp2_with fail
      go_roundw
      case rel => exact ⟨k + 1, v', by omega, by go_num, HY2⟩
      case measure => simp [intOf]; omega
    · obtain rfl : k = n := by omega
      have HO : Keep (Ot wr ob wb v (lays d fs (some (headL d), false)).1 (lays d fs (some (headL d), false)).2 ∧ w.grownBy wr none) := by
        have h := hrel.out.l.o
        rw [← HN.out.1, List.take_length] at h
        exact ⟨h, HW1.out.1.trans hrel.out.g⟩
      clear hrel
      go_wp2_with fail
      refine (odone_c ob wb v _ _ wr HO.out.1).mono ?_
      rintro e w9 ⟨rfl, g9⟩
      have HG9 : Keep (w.grownBy w9 none) := ⟨HO.out.2.trans g9⟩
      clear g9
      go_wp2_with fail
      go_ret2
      exact ⟨rfl, HG9.out⟩
theorem encode_c (d : Dg) (hf : d.fine) (hs : d.small) (w : World) :
    Calls Tryz.prog 12 #[dv d] w fun e w' => e = .returned (.tuple #[.string (ba (enc d).1), .int .i64 (enc d).2]) ∧ w.grownBy w' none := by
  by_cases h : 1 ≤ d.kind ∧ d.kind ≤ 7
  · exact encode_yes d hf hs w h
  · have hn : fieldsL d.kind = [] := fieldsL_nil (by omega)
    have he : enc d = ([], 71) := by rw [enc, if_pos hn]
    rw [he]
    exact encode_no d w hn
end Go.Proofs.YtiphnlfbgbemfaaGreatDoor.Pk

