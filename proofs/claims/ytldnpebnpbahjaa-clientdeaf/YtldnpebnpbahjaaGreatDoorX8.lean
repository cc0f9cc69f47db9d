import Derived.Shelf.Strings.Builder1
import Derived.Shelf.Strings.Builder2
import Derived.Shelf.Strings.BuilderF
import Derived.Shelf.LaysM
import Derived.Shelf.Strconv.Clone
import Derived.Shelf.Strings.Prefix
import Derived.Shelf.Bits.Mul64
import Derived.Shelf.Strings.Repeat
import Derived.Test.YtldnpebnpbahjaaGreatDoorProg
import Derived.Test.YtldnpebnpbahjaaGreatDoorFA1
import Derived.Test.YtldnpebnpbahjaaGreatDoorX2
import Derived.Deep.RegionHeld
namespace Go.Proofs
open Go.Shelf
def Tryz.laysM316_ren : Go.Shelf.Ren := ⟨fun | 316 => 103 | n => n, fun | 9 => 9 | 3 => 3 | 4 => 4 | 37 => 60 | 0 => 0 | 127 => 209 | 5 => 5 | n => n, fun | n => n⟩
theorem Tryz.laysM316 : Go.Proofs.LaysM.n316 Tryz.prog Tryz.laysM316_ren := {
  mixed := by kernel_rfl
  f316 := Tryz.func103.trans (congrArg some (by kernel_rfl))
  t0 := Tryz.underlying0
  a0 := Tryz.isAgg0
  z0 := Tryz.sizeOf0
  v0 := Tryz.zeroValue0
  t3 := Tryz.underlying3
  a3 := Tryz.isAgg3
  z3 := Tryz.sizeOf3
  v3 := Tryz.zeroValue3
  t4 := Tryz.underlying4
  a4 := Tryz.isAgg4
  z4 := Tryz.sizeOf4
  v4 := Tryz.zeroValue4
  t9 := Tryz.underlying9
  a9 := Tryz.isAgg9
  z9 := Tryz.sizeOf9
  v9 := Tryz.zeroValue9
  t37 := Tryz.underlying60
  a37 := Tryz.isAgg60
  z37 := Tryz.sizeOf60
  v37 := Tryz.zeroValue60
  t127 := Tryz.underlying209
  a127 := Tryz.isAgg209
  z127 := Tryz.sizeOf209
  v127 := Tryz.zeroValue209
  t5 := Tryz.underlying5
  a5 := Tryz.isAgg5
  z5 := Tryz.sizeOf5
  v5 := Tryz.zeroValue5
  i0 := by kernel_rfl
  i3 := by kernel_rfl
  i4 := by kernel_rfl
  i5 := by kernel_rfl
  i9 := by kernel_rfl
  i37 := by kernel_rfl
  i127 := by kernel_rfl }
open Go.RowKit in
/-- internal/stringslite.Clone (what strings.Clone calls): "Clone returns a fresh copy of s.": THE SAME BYTES. Of what was there nothing has turned (a new row is laid, and frozen, where s is not empty). (LAID: no walk: one application.) -/
theorem Tryz.stringslite_Clone (s : ByteArray) (w : World) (hlim : s.size ≤ 281474976710656) :
    Calls Tryz.prog 103 #[.string s] w fun e w' => e = .returned (.string s) ∧ Below w.heap.size w w' := Any.stringslite_Clone Tryz.laysM316 s w hlim
def Tryz.lays99_ren : Go.Shelf.Ren := ⟨fun | 99 => 35 | 206 => 72 | n => n, fun | 9 => 9 | 4 => 4 | 3 => 3 | n => n, fun | n => n⟩
theorem Tryz.lays99 : Go.Proofs.Lays.n99 Tryz.prog Tryz.lays99_ren := {
  mixed := by kernel_rfl
  f99 := Tryz.func35.trans (congrArg some (by kernel_rfl))
  f206 := Tryz.func72.trans (congrArg some (by kernel_rfl))
  t3 := Tryz.underlying3
  a3 := Tryz.isAgg3
  z3 := Tryz.sizeOf3
  v3 := Tryz.zeroValue3
  t4 := Tryz.underlying4
  a4 := Tryz.isAgg4
  z4 := Tryz.sizeOf4
  v4 := Tryz.zeroValue4
  t9 := Tryz.underlying9
  a9 := Tryz.isAgg9
  z9 := Tryz.sizeOf9
  v9 := Tryz.zeroValue9 }
open Go.RowKit Go.Lib in
/-- strings.HasPrefix: "HasPrefix reports whether the string s begins with prefix.": IT RETURNS 'Lib.hasPrefix s prefix'; the world is as it was. (LAID: no walk: one application.) -/
theorem Tryz.strings_HasPrefix (s p : ByteArray) (w : World) :
    Calls Tryz.prog 35 #[.string s, .string p] w fun e w' => e = .returned (.bool (Lib.hasPrefix s.data.toList p.data.toList)) ∧ w' = w := Any.strings_HasPrefix Tryz.lays99 s p w
def Tryz.lays105_ren : Go.Shelf.Ren := ⟨fun | 105 => 49 | 212 => 96 | 99 => 35 | 165 => 97 | 166 => 98 | 170 => 99 | 169 => 100 | 263 => 161 | 264 => 162 | 206 => 72 | 240 => 163 | 241 => 164 | 276 => 201 | 277 => 202 | n => n, fun | 9 => 9 | 3 => 3 | 4 => 4 | 20 => 20 | 0 => 0 | 46 => 119 | 109 => 136 | 5 => 5 | 72 => 140 | 76 => 144 | 51 => 179 | 146 => 205 | 53 => 26 | 148 => 207 | 70 => 138 | 37 => 60 | 75 => 143 | 127 => 209 | 164 => 237 | 80 => 147 | n => n, fun | 1 => 0 | n => n⟩
theorem Tryz.lays105 : Go.Proofs.Lays.n105 Tryz.prog Tryz.lays105_ren := {
  mixed := by kernel_rfl
  f99 := Tryz.func35.trans (congrArg some (by kernel_rfl))
  f105 := Tryz.func49.trans (congrArg some (by kernel_rfl))
  f165 := Tryz.func97.trans (congrArg some (by kernel_rfl))
  f166 := Tryz.func98.trans (congrArg some (by kernel_rfl))
  f169 := Tryz.func100.trans (congrArg some (by kernel_rfl))
  f170 := Tryz.func99.trans (congrArg some (by kernel_rfl))
  f206 := Tryz.func72.trans (congrArg some (by kernel_rfl))
  f212 := Tryz.func96.trans (congrArg some (by kernel_rfl))
  f240 := Tryz.func163.trans (congrArg some (by kernel_rfl))
  f241 := Tryz.func164.trans (congrArg some (by kernel_rfl))
  f263 := Tryz.func161.trans (congrArg some (by kernel_rfl))
  f264 := Tryz.func162.trans (congrArg some (by kernel_rfl))
  f276 := Tryz.func201.trans (congrArg some (by kernel_rfl))
  f277 := Tryz.func202.trans (congrArg some (by kernel_rfl))
  t0 := Tryz.underlying0
  a0 := Tryz.isAgg0
  z0 := Tryz.sizeOf0
  v0 := Tryz.zeroValue0
  t3 := Tryz.underlying3
  a3 := Tryz.isAgg3
  z3 := Tryz.sizeOf3
  v3 := Tryz.zeroValue3
  t4 := Tryz.underlying4
  a4 := Tryz.isAgg4
  z4 := Tryz.sizeOf4
  v4 := Tryz.zeroValue4
  t5 := Tryz.underlying5
  a5 := Tryz.isAgg5
  z5 := Tryz.sizeOf5
  v5 := Tryz.zeroValue5
  t9 := Tryz.underlying9
  a9 := Tryz.isAgg9
  z9 := Tryz.sizeOf9
  v9 := Tryz.zeroValue9
  t20 := Tryz.underlying20
  a20 := Tryz.isAgg20
  z20 := Tryz.sizeOf20
  v20 := Tryz.zeroValue20
  t37 := Tryz.underlying60
  a37 := Tryz.isAgg60
  z37 := Tryz.sizeOf60
  v37 := Tryz.zeroValue60
  t46 := Tryz.underlying119
  a46 := Tryz.isAgg119
  z46 := Tryz.sizeOf119
  v46 := Tryz.zeroValue119
  t51 := Tryz.underlying179
  a51 := Tryz.isAgg179
  z51 := Tryz.sizeOf179
  v51 := Tryz.zeroValue179
  t53 := Tryz.underlying26
  a53 := Tryz.isAgg26
  z53 := Tryz.sizeOf26
  v53 := Tryz.zeroValue26
  t70 := Tryz.underlying138
  a70 := Tryz.isAgg138
  z70 := Tryz.sizeOf138
  v70 := Tryz.zeroValue138
  t72 := Tryz.underlying140
  a72 := Tryz.isAgg140
  z72 := Tryz.sizeOf140
  v72 := Tryz.zeroValue140
  t75 := Tryz.underlying143
  a75 := Tryz.isAgg143
  z75 := Tryz.sizeOf143
  v75 := Tryz.zeroValue143
  t76 := Tryz.underlying144
  a76 := Tryz.isAgg144
  z76 := Tryz.sizeOf144
  v76 := Tryz.zeroValue144
  t109 := Tryz.underlying136
  a109 := Tryz.isAgg136
  z109 := Tryz.sizeOf136
  v109 := Tryz.zeroValue136
  t127 := Tryz.underlying209
  a127 := Tryz.isAgg209
  z127 := Tryz.sizeOf209
  v127 := Tryz.zeroValue209
  t146 := Tryz.underlying205
  a146 := Tryz.isAgg205
  z146 := Tryz.sizeOf205
  v146 := Tryz.zeroValue205
  t148 := Tryz.underlying207
  a148 := Tryz.isAgg207
  z148 := Tryz.sizeOf207
  v148 := Tryz.zeroValue207
  t164 := Tryz.underlying237
  a164 := Tryz.isAgg237
  z164 := Tryz.sizeOf237
  v164 := Tryz.zeroValue237 }
theorem Tryz.Builder_Extra_105 : Builder.Extra Tryz.prog Tryz.lays105_ren := {
  sizeBuilder := by kernel_rfl
  liesBuilder := by kernel_rfl
  t5 := Tryz.underlying5
  a5 := Tryz.isAgg5
  z5 := Tryz.sizeOf5
  v5 := Tryz.zeroValue5
  infoByte := by kernel_rfl
  cellsByte := by kernel_rfl
  sizeByte := by kernel_rfl
  neB5 := by decide }
open Go.RowKit Go.Lib in
/-- **strings.Repeat: count ≥ 0, the result within one allocation: count copies of s.** (LAID: no walk: one application.) -/
theorem Tryz.strings_Repeat (s : ByteArray) (c : Nat) (w : World) (hc : c ≤ 9223372036854775807) (hlen : s.size * c ≤ 140737488355328) :
    Calls Tryz.prog 49 #[.string s, .int .i64 c] w fun e w' => e = .returned (.string ⟨(Lib.repeatL s.data.toList c).toArray⟩) ∧ Below w.heap.size w w' := Any.strings_Repeat Tryz.lays105 Tryz.Builder_Extra_105 s c w hc hlen
end Go.Proofs

namespace Go.Proofs.YtldnpebnpbahjaaGreatDoor.Pk
open Go Go.RowKit

set_option maxRecDepth 100000 in
theorem grown_of_below {w w' : World} (h : Below w.heap.size w w') : w.grownBy w' none := ⟨h.os, h.tape, h.output, h.size, fun k hk _ => h.block k hk⟩
def mgB : ByteArray := { data := #[74, 48, 49] }
set_option maxRecDepth 100000 in
theorem prefix_take (s : List UInt8) : Lib.hasPrefix s magic = decide (s.take 3 = magic) := by
  rw [Bool.eq_iff_iff, decide_eq_true_iff, Lib.hasPrefix, List.isPrefixOf_iff_prefix]
  exact ⟨fun h => (List.prefix_iff_eq_take.1 h).symm, fun h => h ▸ List.take_prefix _ _⟩
set_option maxRecDepth 100000 in
theorem hp_c (s : ByteArray) (w : World) :
    Calls Tryz.prog 35 #[.string s, .string mgB] w fun e w' => e = .returned (.bool (decide ((sl s).take 3 = magic))) ∧ w' = w := by
  refine (Tryz.strings_HasPrefix s mgB w).mono ?_
  rintro e w' ⟨rfl, rfl⟩
  refine ⟨?_, rfl⟩
  rw [← prefix_take]; rfl
set_option maxRecDepth 100000 in
theorem idx3 (s : ByteArray) (h : 4 ≤ s.size) (W : World) : (Instr.index 9 (.string s) (.int .i64 3)).run Tryz.prog W = .ok (.int .u8 ((sl s).getD 3 0).toNat) W := by
  have hl : 3 < s.size := by omega
  have := idx9 s 3 s[3] hl (sl_at s 3 hl) W
  rw [show (sl s).getD 3 0 = s[3] by rw [List.getD_eq_getElem?_getD, show (sl s)[3]? = some s[3] from sl_at s 3 hl]; rfl]
  exact this
set_option maxHeartbeats 4000000 in
set_option maxRecDepth 100000 in
theorem kind_c (s : ByteArray) (w : World) (hs : s.size ≤ 4611686018427387904) :
    Calls Tryz.prog 37 #[.string s] w fun e w' => e = .returned (.int .i64 (kindL (sl s))) ∧ w' = w := by
  by_cases h4 : s.size < 4
  · have hk : kindL (sl s) = 0 := by rw [kindL, if_pos (.inl (by rw [sl_len]; exact h4))]
    rw [hk]
    have hd : decide ((s.size : Int) < 4) = true := decide_eq_true (by omega)
    clear hk h4
    go_enter Tryz.func37, Tryz.ntmps37
    go_wp2_with fail
    go_ret
    exact ⟨rfl, rfl⟩
  · have hd : decide ((s.size : Int) < 4) = false := decide_eq_false (by omega)
    by_cases hm : (sl s).take 3 = magic
    · have hk : kindL (sl s) = (((sl s).getD 3 0).toNat : Int) := by rw [kindL, if_neg (by rw [sl_len]; simp [hm]; omega)]
      rw [hk]
      have hi := idx3 s (by omega)
      have HC := Keep.mk (hp_c s w)
      rw [decide_eq_true hm] at HC
      have hlt : ((sl s).getD 3 0).toNat < 256 := UInt8.toNat_lt _
      generalize ((sl s).getD 3 0).toNat = x at hi hlt ⊢
      clear hk h4 hm
      go_enter Tryz.func37, Tryz.ntmps37
      go_wp2_with fail
      refine HC.out.mono ?_
      rintro e w1 ⟨rfl, rfl⟩
      go_wp2_with fail
      go_ret
      exact ⟨rfl, rfl⟩
    · have hk : kindL (sl s) = 0 := by rw [kindL, if_pos (.inr hm)]
      rw [hk]
      have HC := Keep.mk (hp_c s w)
      rw [decide_eq_false hm] at HC
      clear hk h4 hm
      go_enter Tryz.func37, Tryz.ntmps37
      go_wp2_with fail
      refine HC.out.mono ?_
      rintro e w1 ⟨rfl, rfl⟩
      go_wp2_with fail
      go_ret
      exact ⟨rfl, rfl⟩
set_option maxHeartbeats 4000000 in
set_option maxRecDepth 100000 in
theorem tagged_c (k : Int) (w : World) :
    Calls Tryz.prog 48 #[.int .i64 k] w fun e w' => e = .returned (.bool (decide (3 ≤ k ∧ k ≤ 7))) ∧ w' = w := by
  by_cases h3 : 3 ≤ k
  · have hd : decide (3 ≤ k) = true := decide_eq_true h3
    have he : decide (3 ≤ k ∧ k ≤ 7) = decide (k ≤ 7) := by simp [h3]
    rw [he]
    clear h3 he
    go_enter Tryz.func48, Tryz.ntmps48
    go_wp2
    go_ret
    exact ⟨rfl, rfl⟩
  · have hd : decide (3 ≤ k) = false := decide_eq_false h3
    have he : decide (3 ≤ k ∧ k ≤ 7) = false := by simp [h3]
    rw [he]
    clear h3 he
    go_enter Tryz.func48, Tryz.ntmps48
    go_wp2
    go_ret
    exact ⟨rfl, rfl⟩
set_option maxHeartbeats 4000000 in
set_option maxRecDepth 100000 in
theorem clone_c (s : ByteArray) (w : World) (hs : s.size ≤ 281474976710656) :
    Calls Tryz.prog 51 #[.string s] w fun e w' => e = .returned (.string s) ∧ w.grownBy w' none := by
  go_enter Tryz.func51, Tryz.ntmps51
  go_wp2_with fail
  refine (Tryz.stringslite_Clone s w hs).mono ?_
  rintro e w1 ⟨rfl, g1⟩
  have HG := Keep.mk (grown_of_below g1)
  clear g1
  go_wp2
  go_ret
  exact ⟨rfl, HG.out⟩
set_option maxRecDepth 100000 in
theorem rep_c (c : Nat) (w : World) (hc : c ≤ 1000) :
    Calls Tryz.prog 49 #[.string { data := #[0] }, .int .i64 c] w fun e w' => e = .returned (.string (ba (List.replicate c 0))) ∧ w.grownBy w' none := by
  refine (Tryz.strings_Repeat ⟨#[0]⟩ c w (by omega) (by simp [ByteArray.size]; omega)).mono ?_
  rintro e w' ⟨rfl, g⟩
  refine ⟨?_, grown_of_below g⟩
  have : ∀ n : Nat, Lib.repeatL [(0 : UInt8)] n = List.replicate n 0 := fun n => by
    induction n with
    | zero => rfl
    | succ n ih => rw [Lib.repeatL, ih]; rfl
  rw [show (ByteArray.mk #[0]).data.toList = [0] from rfl, this]
end Go.Proofs.YtldnpebnpbahjaaGreatDoor.Pk

namespace Go.Proofs.YtldnpebnpbahjaaGreatDoor.Pk
open Go Go.RowKit

def bodyB (s : ByteArray) : ByteArray := ba (bodyL (sl s))
set_option maxRecDepth 100000 in
theorem ext_to (s : ByteArray) (n : Nat) : s.extract 0 n = ba ((sl s).take n) := by
  apply sl_inj
  rw [sl_mk]
  simp only [sl, ByteArray.data_extract, Array.toList_extract, List.extract, Nat.sub_zero, List.drop_zero]
set_option maxRecDepth 100000 in
theorem ba_size (l : List UInt8) : (ba l).size = l.length := by simp [ByteArray.size]
set_option maxHeartbeats 4000000 in
set_option maxRecDepth 100000 in
theorem body_c (s : ByteArray) (w : World) (hs : s.size ≤ 281474976710656) :
    Calls Tryz.prog 40 #[.string s] w fun e w' => e = .returned (.string (bodyB s)) ∧ w.grownBy w' none := by
  by_cases h36 : s.size < 36
  · have hb : bodyB s = nob := by rw [bodyB, bodyL, if_pos (.inl (by rw [sl_len]; exact h36))]; rfl
    rw [hb]
    have hd : decide ((s.size : Int) < 36) = true := decide_eq_true (by omega)
    clear h36 hb
    go_enter Tryz.func40, Tryz.ntmps40
    go_wp2_with fail
    go_ret
    exact ⟨rfl, World.grownBy.refl _ _⟩
  · have hd : decide ((s.size : Int) < 36) = false := decide_eq_false (by omega)
    have HK := Keep.mk (kind_c s w (by omega))
    by_cases ht : 3 ≤ kindL (sl s) ∧ kindL (sl s) ≤ 7
    · have hb : bodyB s = ba ((sl s).take (s.size - 32)) := by rw [bodyB, bodyL, if_neg (by rw [sl_len]; simp [ht]; omega), sl_len]
      rw [hb]
      have HT := Keep.mk (tagged_c (kindL (sl s)) w)
      rw [decide_eq_true ht] at HT
      obtain ⟨m, hm⟩ : ∃ m, s.size - 32 = m := ⟨_, rfl⟩
      have hi : IntKind.i64.wrap ((s.size : Int) - 32) = (m : Int) := by rw [show (s.size : Int) - 32 = (m : Int) by omega]; exact IntWalk.i64_in _ (by omega)
      rw [hm]
      have hsz : (ba ((sl s).take m)).size ≤ 281474976710656 := by rw [ba_size, List.length_take, sl_len]; omega
      have hT := ext_to s m
      generalize ba ((sl s).take m) = T at hT hsz ⊢
      have hm0 : (m : Int) ≤ s.size := by omega
      generalize kindL (sl s) = k at HK HT
      have HZ := Keep.mk hsz
      clear ht hb hm hsz h36
      go_enter Tryz.func40, Tryz.ntmps40
      go_wp2_with fail
      refine HK.out.mono ?_
      rintro e w1 ⟨rfl, rfl⟩
      go_wp2_with fail
      refine HT.out.mono ?_
      rintro e w1 ⟨rfl, rfl⟩
      go_wp2_with fail
      refine (clone_c T _ HZ.out).mono ?_
      rintro e w1 ⟨rfl, g1⟩
      have HG := Keep.mk g1
      clear g1
      go_wp2_with fail
      go_ret
      exact ⟨rfl, HG.out⟩
    · have hb : bodyB s = nob := by rw [bodyB, bodyL, if_pos (.inr ht)]; rfl
      rw [hb]
      have HT := Keep.mk (tagged_c (kindL (sl s)) w)
      rw [decide_eq_false ht] at HT
      generalize kindL (sl s) = k at HK HT
      clear ht hb h36
      go_enter Tryz.func40, Tryz.ntmps40
      go_wp2_with fail
      refine HK.out.mono ?_
      rintro e w1 ⟨rfl, rfl⟩
      go_wp2_with fail
      refine HT.out.mono ?_
      rintro e w1 ⟨rfl, rfl⟩
      go_wp2_with fail
      go_ret
      exact ⟨rfl, World.grownBy.refl _ _⟩
end Go.Proofs.YtldnpebnpbahjaaGreatDoor.Pk

namespace Go.Proofs.YtldnpebnpbahjaaGreatDoor.Pk
open Go Go.RowKit

def sealed (s key : ByteArray) : Bool := decide (bodyB s ≠ nob ∧ s.extract (bodyB s).size s.size = hmacB key (bodyB s))
set_option maxRecDepth 100000 in
theorem emptyS (s : ByteArray) : s.toList.isEmpty = decide (s = nob) := by
  rw [Bool.eq_iff_iff, List.isEmpty_iff, decide_eq_true_iff, ByteArray.toList_eq]
  exact ⟨fun e => ByteArray.ext (Array.toList_inj.1 e), fun e => by rw [e]; rfl⟩
set_option maxRecDepth 100000 in
theorem bodyB_size (s : ByteArray) : (bodyB s).size ≤ s.size := by
  rw [bodyB, ba_size, bodyL]
  split
  · simp
  · rw [List.length_take, sl_len]; omega
set_option maxHeartbeats 4000000 in
set_option maxRecDepth 100000 in
theorem sealed_no (s key : ByteArray) (w : World) (hs : s.size ≤ 281474976710656) (hb : bodyB s = nob) :
    Calls Tryz.prog 11 #[.string s, .string key] w fun e w' => e = .returned (.bool false) ∧ w.grownBy w' none := by
  have HB := Keep.mk (body_c s w hs)
  have hE := emptyS (bodyB s)
  rw [decide_eq_true hb] at hE
  obtain ⟨B, hB⟩ : ∃ B, bodyB s = B := ⟨_, rfl⟩
  rw [hB] at HB hE
  clear hb hB
  go_enter Tryz.func11, Tryz.ntmps11
  go_wp2_with fail
  refine HB.out.mono ?_
  rintro e w1 ⟨rfl, g1⟩
  have HG := Keep.mk g1
  clear g1
  go_wp2_with fail
  go_quiet (fail)
  go_wp2_with fail
  go_ret
  exact ⟨rfl, HG.out.trans (gr_drewN _ _ _)⟩
set_option maxHeartbeats 4000000 in
set_option maxRecDepth 100000 in
theorem sealed_yes (s key : ByteArray) (w : World) (hk : Kc w) (hs : s.size ≤ 281474976710656) (hkey : key.size ≤ 2305843009213693952) (hb : bodyB s ≠ nob) :
    Calls Tryz.prog 11 #[.string s, .string key] w fun e w' => e = .returned (.bool (decide (s.extract (bodyB s).size s.size = hmacB key (bodyB s)))) ∧ w.grownBy w' none := by
  have HB := Keep.mk (body_c s w hs)
  have hE := emptyS (bodyB s)
  rw [decide_eq_false hb] at hE
  have hsz := bodyB_size s
  obtain ⟨B, hB⟩ : ∃ B, bodyB s = B := ⟨_, rfl⟩
  rw [hB] at HB hE hsz ⊢
  have hsz2 : (B.size : Int) ≤ (s.size : Int) := by omega
  obtain ⟨X, hX⟩ : ∃ X, s.extract B.size s.size = X := ⟨_, rfl⟩
  have hXs : X.size ≤ 4611686018427387904 := by rw [← hX, ByteArray.size_extract]; omega
  have HK : Keep (Kc w ∧ key.size ≤ 2305843009213693952 ∧ B.size ≤ 2305843009213693952 ∧ X.size ≤ 4611686018427387904 ∧ ∀ k t : ByteArray, (hmacB k t).size ≤ 4611686018427387904) := ⟨hk, hkey, by omega, hXs, fun k t => by rw [← sl_len]; show (Go.Proofs.YtldnpebnpbahjaaGreatDoor.sl (hmacB k t)).length ≤ _; rw [hmacB_sl]; have : (Mac.hmac (Go.Proofs.YtldnpebnpbahjaaGreatDoor.sl k) (Go.Proofs.YtldnpebnpbahjaaGreatDoor.sl t)).length = 32 := Mac.sha_len _; omega⟩
  rw [hX]
  clear hb hB hk hkey hXs
  go_enter Tryz.func11, Tryz.ntmps11
  go_wp2_with fail
  refine HB.out.mono ?_
  rintro e w1 ⟨rfl, g1⟩
  have HG : Keep (w.grownBy w1.drew none) := ⟨g1.trans (gr_drew _ _)⟩
  clear g1
  go_wp2_with fail
  refine wp_region_held_drew (S := fun _ => True) (by kernel_rfl) trivial (fun hHeld => ?_)
  refine wpAnyH_take (i := 0) (oi := _) (v := ?_) rfl (by kernel_rfl) (by kernel_rfl) (by kernel_rfl) (fun _ _ _ h => h) (Or.inl ⟨by rfl, ?_⟩) (by assumption) ?_
  rotate_left
  · (intro w hSw; go_simp; first | done | (with_reducible rfl))
  simp only [Act.put, List.getElem_toArray, List.getElem_cons_zero, List.setIfInBounds_toArray, List.set_cons_zero, List.set_cons_succ]
  refine wpAnyH_take (i := 1) (oi := _) (v := ?_) rfl (by kernel_rfl) (by kernel_rfl) (by kernel_rfl) (fun _ _ _ h => h) (Or.inl ⟨by rfl, ?_⟩) (by assumption) ?_
  rotate_left
  · (intro w hSw; go_simp; first | done | (with_reducible rfl))
  simp only [Act.put, List.getElem_toArray, List.getElem_cons_succ, List.getElem_cons_zero, List.setIfInBounds_toArray, List.set_cons_zero, List.set_cons_succ]
  refine wpAnyH_take (i := 2) (oi := _) (v := ?_) rfl (by kernel_rfl) (by kernel_rfl) (by kernel_rfl) (fun _ _ _ h => h) (Or.inl ⟨by rfl, ?_⟩) (by assumption) ?_
  rotate_left
  · (intro w hSw; go_simp; first | done | (with_reducible rfl))
  simp only [Act.put, List.getElem_toArray, List.getElem_cons_succ, List.getElem_cons_zero, List.setIfInBounds_toArray, List.set_cons_zero, List.set_cons_succ]
  refine wpAnyH_take (i := 3) (oi := _) (v := ?_) rfl (by kernel_rfl) (by kernel_rfl) (by kernel_rfl) (fun _ _ _ h => h) (Or.inl ⟨by rfl, ?_⟩) (by assumption) ?_
  rotate_left
  · (intro w hSw; go_simp; first | done | (with_reducible rfl))
  simp only [Act.put, List.getElem_toArray, List.getElem_cons_succ, List.getElem_cons_zero, List.setIfInBounds_toArray, List.set_cons_zero, List.set_cons_succ]
  refine wpAnyH_take (i := 4) (oi := _) (v := ?_) rfl (by kernel_rfl) (by kernel_rfl) (by kernel_rfl) (fun _ _ _ h => h) (Or.inl ⟨by rfl, ?_⟩) (by assumption) ?_
  rotate_left
  · (intro w hSw; go_simp; first | done | (with_reducible rfl))
  simp only [Act.put, List.getElem_toArray, List.getElem_cons_succ, List.getElem_cons_zero, List.setIfInBounds_toArray, List.set_cons_zero, List.set_cons_succ]
  refine wpAnyH_take (i := 5) (oi := _) (v := ?_) rfl (by kernel_rfl) (by kernel_rfl) (by kernel_rfl) (fun _ _ _ h => h) (Or.inl ⟨by rfl, ?_⟩) (by assumption) ?_
  rotate_left
  · (intro w hSw; go_simp; first | done | (with_reducible rfl))
  simp only [Act.put, List.getElem_toArray, List.getElem_cons_succ, List.getElem_cons_zero, List.setIfInBounds_toArray, List.set_cons_zero, List.set_cons_succ]
  refine wpAnyH_take (i := 6) (oi := _) (v := ?_) rfl (by kernel_rfl) (by kernel_rfl) (by kernel_rfl) (fun _ _ _ h => h) (Or.inl ⟨by rfl, ?_⟩) (by assumption) ?_
  rotate_left
  · (intro w hSw; go_simp; first | done | (with_reducible rfl))
  simp only [Act.put, List.getElem_toArray, List.getElem_cons_succ, List.getElem_cons_zero, List.setIfInBounds_toArray, List.set_cons_zero, List.set_cons_succ]
  refine wpAnyH_take (i := 7) (oi := _) (v := ?_) rfl (by kernel_rfl) (by kernel_rfl) (by kernel_rfl) (fun _ _ _ h => h) (Or.inl ⟨by rfl, ?_⟩) (by assumption) ?_
  rotate_left
  · (intro w hSw; go_simp; first | done | (with_reducible rfl))
  simp only [Act.put, List.getElem_toArray, List.getElem_cons_succ, List.getElem_cons_zero, List.setIfInBounds_toArray, List.set_cons_zero, List.set_cons_succ]
  refine wpAnyH_take (i := 8) (oi := _) (v := ?_) rfl (by kernel_rfl) (by kernel_rfl) (by kernel_rfl) (fun _ _ _ h => h) (Or.inl ⟨by rfl, ?_⟩) (by assumption) ?_
  rotate_left
  · (intro w hSw; go_simp; first | done | (with_reducible rfl))
  simp only [Act.put, List.getElem_toArray, List.getElem_cons_succ, List.getElem_cons_zero, List.setIfInBounds_toArray, List.set_cons_zero, List.set_cons_succ]
  refine wpAnyH_ready (rs := [9]) (by kernel_rfl) (by simp) ?_
  refine AllReadyH.cons rfl (fun K hK => ?_) AllReadyH.nil
  go_simp
  refine (tag_any key B _ (HK.out.1.kept HG.out (by simp)) HK.out.2.1 HK.out.2.2.1).mono ?_
  rintro e w2 ⟨rfl, g2⟩
  have HG2 : Keep (w.grownBy w2 none) := ⟨HG.out.trans g2⟩
  clear g2
  refine hK.out _ _ trivial (fun hHeld => ?_)
  clear hK K
  refine wpAnyH_ready (rs := [10]) (by kernel_rfl) (by simp) ?_
  refine AllReadyH.cons rfl (fun K hK => ?_) AllReadyH.nil
  go_simp
  refine (same_any X (hmacB key B) _ HK.out.2.2.2.1 (HK.out.2.2.2.2 _ _)).mono ?_
  rintro e w3 ⟨rfl, g3⟩
  have HG3 : Keep (w.grownBy w3 none) := ⟨HG2.out.trans g3⟩
  clear g3
  refine hK.out _ _ trivial (fun hHeld => ?_)
  clear hK K
  refine wpAnyH_take (i := 11) (oi := _) (v := ?_) rfl (by kernel_rfl) (by kernel_rfl) (by kernel_rfl) (fun _ _ _ h => h) (Or.inl ⟨by rfl, ?_⟩) (by assumption) ?_
  rotate_left
  · (intro w hSw; go_simp; first | done | (with_reducible rfl))
  simp only [Act.put, List.getElem_toArray, List.getElem_cons_succ, List.getElem_cons_zero, List.setIfInBounds_toArray, List.set_cons_zero, List.set_cons_succ]
  refine wpAnyH_take (i := 12) (oi := _) (v := ?_) rfl (by kernel_rfl) (by kernel_rfl) (by kernel_rfl) (fun _ _ _ h => h) (Or.inl ⟨by rfl, ?_⟩) (by assumption) ?_
  rotate_left
  · (intro w hSw; go_simp; first | done | (with_reducible rfl))
  simp only [Act.put, List.getElem_toArray, List.getElem_cons_succ, List.getElem_cons_zero, List.setIfInBounds_toArray, List.set_cons_zero, List.set_cons_succ]
  refine wpAnyH_done (by kernel_rfl) ?_ _
  clear hHeld
  go_wp2_with fail
  go_ret
  refine ⟨?_, HG3.out⟩
  have : decide (Go.Proofs.YtldnpebnpbahjaaGreatDoor.sl X = Go.Proofs.YtldnpebnpbahjaaGreatDoor.sl (hmacB key B)) = decide (X = hmacB key B) := decide_eq_decide.2 ⟨fun e => sl_inj e, fun e => by rw [e]⟩
  rw [← this]
  rfl
set_option maxRecDepth 100000 in
theorem sealed_c (s key : ByteArray) (w : World) (hk : Kc w) (hs : s.size ≤ 281474976710656) (hkey : key.size ≤ 2305843009213693952) :
    Calls Tryz.prog 11 #[.string s, .string key] w fun e w' => e = .returned (.bool (sealed s key)) ∧ w.grownBy w' none := by
  by_cases hb : bodyB s = nob
  · have : sealed s key = false := by simp [sealed, hb]
    rw [this]; exact sealed_no s key w hs hb
  · have : sealed s key = decide (s.extract (bodyB s).size s.size = hmacB key (bodyB s)) := by simp [sealed, hb]
    rw [this]; exact sealed_yes s key w hk hs hkey hb
end Go.Proofs.YtldnpebnpbahjaaGreatDoor.Pk

