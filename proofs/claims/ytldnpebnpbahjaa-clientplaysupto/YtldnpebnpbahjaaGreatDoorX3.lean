import Derived.Test.YtldnpebnpbahjaaGreatDoorProg
import Derived.Test.YtldnpebnpbahjaaGreatDoorPkP0
import Derived.WalkKit
import Derived.WalkSpells
import Derived.WalkLawsBesides
import Derived.BigQuiet
import Derived.Deep.QuietTactic
import Derived.Laws.BitsAllLaws
import Derived.Deep.MidRow
import Derived.Deep.WholeRow
import Derived.Lib.SliceRun
import Derived.Laws.ShiftsVarLaws
import Derived.Lib.ConvBytes
import Derived.Maps.AppendAt
import Derived.Laws.EntriesVeiled
import Derived.Test.YtldnpebnpbahjaaGreatDoorX2
import Derived.Lib.AppendStr
import Derived.Deep.DeepAppendWide
import Derived.Deep.RegionHeld
set_option maxRecDepth 100000
set_option maxHeartbeats 4000000
namespace Go.Proofs.YtldnpebnpbahjaaGreatDoor.Pk
open Go Go.RowKit
abbrev iv (x : Int) : Value := .int .i64 x
theorem gr_drew (w : World) (row : Option Nat) : w.grownBy w.drew row := ⟨rfl, rfl, rfl, Nat.le_refl _, fun _ _ _ => rfl⟩
structure Fr (S : Nat → Prop) (w w' : World) : Prop where
  os : w'.os = w.os
  tape : w'.tape = w.tape
  output : w'.output = w.output
  size : w.heap.size ≤ w'.heap.size
  block : ∀ i, i < w.heap.size → ¬ S i → w'.heap[i]? = w.heap[i]?
theorem Fr.refl (S : Nat → Prop) (w : World) : Fr S w w := ⟨rfl, rfl, rfl, Nat.le_refl _, fun _ _ _ => rfl⟩
theorem Fr.trans {S : Nat → Prop} {a b c : World} (h : Fr S a b) (k : Fr S b c) : Fr S a c :=
  ⟨k.os.trans h.os, k.tape.trans h.tape, k.output.trans h.output, Nat.le_trans h.size k.size, fun i hi hs => (k.block i (by have := h.size; omega) hs).trans (h.block i hi hs)⟩
theorem Fr.then {S S' : Nat → Prop} {a b c : World} (h : Fr S a b) (k : Fr S' b c) (hs : ∀ i, S' i → S i ∨ a.heap.size ≤ i) : Fr S a c :=
  ⟨k.os.trans h.os, k.tape.trans h.tape, k.output.trans h.output, Nat.le_trans h.size k.size, fun i hi hn => (k.block i (by have := h.size; omega) (fun e => by rcases hs i e with q | q; exact hn q; omega)).trans (h.block i hi hn)⟩
theorem Fr.mono {S S' : Nat → Prop} {a b : World} (h : Fr S a b) (hs : ∀ i, S i → S' i ∨ a.heap.size ≤ i) : Fr S' a b := (Fr.refl S' a).then h hs
theorem Fr.of {w w' : World} {row : Option Nat} (h : w.grownBy w' row) : Fr (fun i => row = some i) w w' :=
  ⟨h.os, h.tape, h.output, h.size, fun i hi hs => h.block i hi (fun e => hs e.symm)⟩
theorem Fr.ofNone {S : Nat → Prop} {w w' : World} (h : w.grownBy w' none) : Fr S w w' := (Fr.of h).mono (fun i e => by cases e)
theorem Fr.ofSome {S : Nat → Prop} {w w' : World} {b : Nat} (h : w.grownBy w' (some b)) (hb : S b) : Fr S w w' := (Fr.of h).mono (fun i e => by cases e; exact .inl hb)
theorem Fr.none {S : Nat → Prop} {w w' : World} (h : Fr S w w') (hs : ∀ i, S i → w.heap.size ≤ i) : w.grownBy w' none :=
  ⟨h.os, h.tape, h.output, h.size, fun i hi _ => h.block i hi (fun e => by have := hs i e; omega)⟩
theorem _root_.Go.Proofs.YtldnpebnpbahjaaGreatDoor.Has.fr {S : Nat → Prop} {w w' : World} {b : Nat} {cs : List Value} {t : TypeId} (h : Has w b cs t) (hf : Fr S w w') (hs : ¬ S b) : Has w' b cs t := by
  have := h.lt; unfold Has at h ⊢; rw [hf.block b this hs, h]
open Go.Proofs.Tryz
theorem sized_c (size : Int) (w : World) :
    CRs 231 #[.int .i64 size] w (.bool (decide (sized size))) := by
  go_enter func231, ntmps231; by_cases h1 : 1 ≤ size
  · by_cases h2 : size ≤ 8
    · have hd : decide (sized size) = true := decide_eq_true ⟨h1, h2⟩; rw [hd]
      go_wp2
      go_ret; exact ⟨rfl, rfl⟩
    · have hd : decide (sized size) = false := decide_eq_false (fun q => h2 q.2); rw [hd]
      go_wp2
      go_ret; exact ⟨rfl, rfl⟩
  · have hd : decide (sized size) = false := decide_eq_false (fun q => h1 q.1); rw [hd]
    go_wp2
    go_ret; exact ⟨rfl, rfl⟩
theorem spare_c (size : Int) (w : World) (h : sized size) :
    CRs 232 #[.int .i64 size] w (.int .i64 (8 * (8 - size))) := by
  go_enter func232, ntmps232; obtain ⟨h1, h2⟩ := h
  go_wp2
  go_ret; exact ⟨rfl, rfl⟩
abbrev fv (n : Nat) : Value := .func (.func n) #[] #[]
theorem under61 : ∃ d, prog.underlying 226 = some d ∧ d.isRow = true := ⟨_, underlying226, rfl⟩
theorem info61 : (prog.info? 226).map (·.size) = some 1 := by kernel_rfl
theorem plain_c (w : World) :
    CRt 189 #[] w (.agg #[fv 215]) := by
  go_enter func189, ntmps189
  go_wp2
  obtain ⟨d, hd, hr⟩ := under61; refine ret_cell rfl rfl (show Has _ w.heap.size [fv 215] 226 from Has.newA w _ 226) hd hr info61 rfl ⟨rfl, ?_⟩; exact gAl w _ none
theorem signed_c (w : World) :
    CRt 217 #[] w (.agg #[fv 233]) := by
  go_enter func217, ntmps217
  go_wp2
  obtain ⟨d, hd, hr⟩ := under61; refine ret_cell rfl rfl (show Has _ w.heap.size [fv 233] 226 from Has.newA w _ 226) hd hr info61 rfl ⟨rfl, ?_⟩; exact gAl w _ none
theorem ret_u64 {a b : Int} (h : a = b) : Ending.returned (.int .u64 a) = .returned (.int .u64 b) := by rw [h]
theorem wu (a : Int) : IntKind.u64.wrap a = a % 18446744073709551616 := by
  have e : IntKind.u64.wrap a = a % 2 ^ 64 := by rfl
  rw [e]; rfl
theorem plain1_c (x : Nat) (size : Int) (w : World) (hx : x < 18446744073709551616) (h : sized size) :
    CRs 215 #[.int .u64 x, .int .i64 (8 * (8 - size))] w (.int .u64 (x % 256 ^ size.toNat : Nat)) := by
  go_enter func215, ntmps215; have h8 : size = 1 ∨ size = 2 ∨ size = 3 ∨ size = 4 ∨ size = 5 ∨ size = 6 ∨ size = 7 ∨ size = 8 := by obtain ⟨h1, h2⟩ := h; omega
  rcases h8 with rfl | rfl | rfl | rfl | rfl | rfl | rfl | rfl
  all_goals
    go_wp2
    go_ret; refine ⟨ret_u64 ?_, rfl⟩
    try simp only [wu]
  · show _ = ((x % 256 : Nat) : Int); omega
  · show _ = ((x % 65536 : Nat) : Int); omega
  · show _ = ((x % 16777216 : Nat) : Int); omega
  · show _ = ((x % 4294967296 : Nat) : Int); omega
  · show _ = ((x % 1099511627776 : Nat) : Int); omega
  · show _ = ((x % 281474976710656 : Nat) : Int); omega
  · show _ = ((x % 72057594037927936 : Nat) : Int); omega
  · show _ = ((x % 18446744073709551616 : Nat) : Int); omega
def sx (x : Nat) (k : Nat) : Nat := if 2 * (x % 256 ^ k) < 256 ^ k then x % 256 ^ k else x % 256 ^ k + 18446744073709551616 - 256 ^ k
theorem signed1_c (x : Nat) (size : Int) (w : World) (hx : x < 18446744073709551616) (h : sized size) :
    CRs 233 #[.int .u64 x, .int .i64 (8 * (8 - size))] w (.int .u64 (sx x size.toNat : Nat)) := by
  go_enter func233, ntmps233; have h8 : size = 1 ∨ size = 2 ∨ size = 3 ∨ size = 4 ∨ size = 5 ∨ size = 6 ∨ size = 7 ∨ size = 8 := by obtain ⟨h1, h2⟩ := h; omega
  rcases h8 with rfl | rfl | rfl | rfl | rfl | rfl | rfl | rfl
  all_goals
    go_wp2
    go_ret; refine ⟨ret_u64 ?_, rfl⟩; simp only [wu, wrap64, sx]
  · show _ = ((if 2 * (x % 256) < 256 then x % 256 else x % 256 + 18446744073709551616 - 256 : Nat) : Int); split <;> omega
  · show _ = ((if 2 * (x % 65536) < 65536 then x % 65536 else x % 65536 + 18446744073709551616 - 65536 : Nat) : Int); split <;> omega
  · show _ = ((if 2 * (x % 16777216) < 16777216 then x % 16777216 else x % 16777216 + 18446744073709551616 - 16777216 : Nat) : Int); split <;> omega
  · show _ = ((if 2 * (x % 4294967296) < 4294967296 then x % 4294967296 else x % 4294967296 + 18446744073709551616 - 4294967296 : Nat) : Int); split <;> omega
  · show _ = ((if 2 * (x % 1099511627776) < 1099511627776 then x % 1099511627776 else x % 1099511627776 + 18446744073709551616 - 1099511627776 : Nat) : Int); split <;> omega
  · show _ = ((if 2 * (x % 281474976710656) < 281474976710656 then x % 281474976710656 else x % 281474976710656 + 18446744073709551616 - 281474976710656 : Nat) : Int); split <;> omega
  · show _ = ((if 2 * (x % 72057594037927936) < 72057594037927936 then x % 72057594037927936 else x % 72057594037927936 + 18446744073709551616 - 72057594037927936 : Nat) : Int); split <;> omega
  · show _ = ((if 2 * (x % 18446744073709551616) < 18446744073709551616 then x % 18446744073709551616 else x % 18446744073709551616 + 18446744073709551616 - 18446744073709551616 : Nat) : Int); split <;> omega
theorem sx_fits (i size : Int) (hs : sized size) (hi : -9223372036854775808 ≤ i ∧ i < 9223372036854775808) : sx (u64 i) size.toNat = u64 i ↔ fitsS i size := by
  have h8 : size = 1 ∨ size = 2 ∨ size = 3 ∨ size = 4 ∨ size = 5 ∨ size = 6 ∨ size = 7 ∨ size = 8 := by obtain ⟨h1, h2⟩ := hs; omega
  obtain ⟨n, hn⟩ : ∃ n, u64 i = n := ⟨_, rfl⟩; have hn' : (n : Int) = i % 18446744073709551616 := by rw [← hn]; unfold u64; omega
  unfold fitsS; rw [hn]; clear hn; simp only [hs, true_and]; rcases h8 with rfl | rfl | rfl | rfl | rfl | rfl | rfl | rfl
  · show (if 2 * (n % 256) < 256 then n % 256 else n % 256 + 18446744073709551616 - 256) = n ↔ -((256 : Nat) : Int) ≤ 2 * i ∧ 2 * i < ((256 : Nat) : Int); split <;> omega
  · show (if 2 * (n % 65536) < 65536 then n % 65536 else n % 65536 + 18446744073709551616 - 65536) = n ↔ -((65536 : Nat) : Int) ≤ 2 * i ∧ 2 * i < ((65536 : Nat) : Int); split <;> omega
  · show (if 2 * (n % 16777216) < 16777216 then n % 16777216 else n % 16777216 + 18446744073709551616 - 16777216) = n ↔ -((16777216 : Nat) : Int) ≤ 2 * i ∧ 2 * i < ((16777216 : Nat) : Int); split <;> omega
  · show (if 2 * (n % 4294967296) < 4294967296 then n % 4294967296 else n % 4294967296 + 18446744073709551616 - 4294967296) = n ↔ -((4294967296 : Nat) : Int) ≤ 2 * i ∧ 2 * i < ((4294967296 : Nat) : Int); split <;> omega
  · show (if 2 * (n % 1099511627776) < 1099511627776 then n % 1099511627776 else n % 1099511627776 + 18446744073709551616 - 1099511627776) = n ↔ -((1099511627776 : Nat) : Int) ≤ 2 * i ∧ 2 * i < ((1099511627776 : Nat) : Int); split <;> omega
  · show (if 2 * (n % 281474976710656) < 281474976710656 then n % 281474976710656 else n % 281474976710656 + 18446744073709551616 - 281474976710656) = n ↔ -((281474976710656 : Nat) : Int) ≤ 2 * i ∧ 2 * i < ((281474976710656 : Nat) : Int); split <;> omega
  · show (if 2 * (n % 72057594037927936) < 72057594037927936 then n % 72057594037927936 else n % 72057594037927936 + 18446744073709551616 - 72057594037927936) = n ↔ -((72057594037927936 : Nat) : Int) ≤ 2 * i ∧ 2 * i < ((72057594037927936 : Nat) : Int); split <;> omega
  · show (if 2 * (n % 18446744073709551616) < 18446744073709551616 then n % 18446744073709551616 else n % 18446744073709551616 + 18446744073709551616 - 18446744073709551616) = n ↔ -((18446744073709551616 : Nat) : Int) ≤ 2 * i ∧ 2 * i < ((18446744073709551616 : Nat) : Int); split <;> omega
theorem holds_plain (x : Nat) (size : Int) (w : World) (hx : x < 18446744073709551616) :
    CRt 213 #[.agg #[fv 215], .int .u64 x, .int .i64 size] w (.bool (decide (sized size ∧ (x % 256 ^ size.toNat) = x))) := by
  go_enter func213, ntmps213; by_cases hs : sized size
  · have HS : Kp (sized size) := ⟨hs⟩
    have c41 : ∀ W : World, CRs 231 #[.int .i64 size] W (.bool true) := fun W => by
      have := sized_c size W
      rwa [decide_eq_true hs] at this
    have HC : Kp (∀ W : World, CRs 231 #[.int .i64 size] W (.bool true)) := ⟨c41⟩; have HW : Kp (∀ W : World, CRs 215 #[.int .u64 x, .int .i64 (8 * (8 - size))] W (.int .u64 ((x % 256 ^ size.toNat) : Nat))) := ⟨fun W => plain1_c x size W hx hs⟩; clear c41; obtain ⟨y, hy⟩ : ∃ y : Nat, (x % 256 ^ size.toNat) = y := ⟨_, rfl⟩; rw [hy] at HW ⊢; (have hd : decide (sized size ∧ y = x) = decide (y = x) := by simp [hs]); rw [hd]; clear hd hy hs; go_wp2_with fail; obtain ⟨w1, hw1⟩ : ∃ w1, w.alloc (.cells #[fv 215] 226) = w1 := ⟨_, rfl⟩; have HG : Kp (w.grownBy w1 none) := ⟨by rw [← hw1]; exact gAl _ _ _⟩; (have hc0 : w1.cell? ⟨w.heap.size, 0, none⟩ = some (fv 215) := by rw [← hw1]; exact (Has.newA w #[fv 215] 226).cellv 0 _ rfl); rw [hw1]; clear hw1; generalize w.heap.size = kb at *; go_quiet (first | (go_at_call 231; exact Calls.quiet_of_same (HC.out _)) | (go_at_call 232; exact Calls.quiet_of_same (spare_c size _ HS.out)) | (go_at_call 215; exact Calls.quiet_of_same (HW.out _)))
    go_wp2
    go_ret; refine ⟨?_, HG.out.trans (gr_drewN _ _ _)⟩; by_cases e : y = x
    · subst e; simp
    · rw [decide_eq_false e]; (have : ((y : Int) == (x : Int)) = false := by simp; omega); simp [this]
  · have HC : Kp (∀ W : World, CRs 231 #[.int .i64 size] W (.bool false)) := ⟨fun W => by
      have := sized_c size W
      rwa [decide_eq_false hs] at this⟩
    (have hd : decide (sized size ∧ (x % 256 ^ size.toNat) = x) = false := by simp [hs]); rw [hd]; clear hd hs; go_wp2_with fail; obtain ⟨w1, hw1⟩ : ∃ w1, w.alloc (.cells #[fv 215] 226) = w1 := ⟨_, rfl⟩; have HG : Kp (w.grownBy w1 none) := ⟨by rw [← hw1]; exact gAl _ _ _⟩; rw [hw1]; clear hw1; generalize w.heap.size = kb at *; go_quiet ((go_at_call 231; exact Calls.quiet_of_same (HC.out _)))
    go_wp2
    go_ret; exact ⟨rfl, HG.out.trans (gr_drewN _ _ _)⟩
theorem holds_signed (x : Nat) (size : Int) (w : World) (hx : x < 18446744073709551616) :
    CRt 213 #[.agg #[fv 233], .int .u64 x, .int .i64 size] w (.bool (decide (sized size ∧ (sx x size.toNat) = x))) := by
  go_enter func213, ntmps213; by_cases hs : sized size
  · have HS : Kp (sized size) := ⟨hs⟩
    have c41 : ∀ W : World, CRs 231 #[.int .i64 size] W (.bool true) := fun W => by
      have := sized_c size W
      rwa [decide_eq_true hs] at this
    have HC : Kp (∀ W : World, CRs 231 #[.int .i64 size] W (.bool true)) := ⟨c41⟩; have HW : Kp (∀ W : World, CRs 233 #[.int .u64 x, .int .i64 (8 * (8 - size))] W (.int .u64 ((sx x size.toNat) : Nat))) := ⟨fun W => signed1_c x size W hx hs⟩; clear c41; obtain ⟨y, hy⟩ : ∃ y : Nat, (sx x size.toNat) = y := ⟨_, rfl⟩; rw [hy] at HW ⊢; (have hd : decide (sized size ∧ y = x) = decide (y = x) := by simp [hs]); rw [hd]; clear hd hy hs; go_wp2_with fail; obtain ⟨w1, hw1⟩ : ∃ w1, w.alloc (.cells #[fv 233] 226) = w1 := ⟨_, rfl⟩; have HG : Kp (w.grownBy w1 none) := ⟨by rw [← hw1]; exact gAl _ _ _⟩; (have hc0 : w1.cell? ⟨w.heap.size, 0, none⟩ = some (fv 233) := by rw [← hw1]; exact (Has.newA w #[fv 233] 226).cellv 0 _ rfl); rw [hw1]; clear hw1; generalize w.heap.size = kb at *; go_quiet (first | (go_at_call 231; exact Calls.quiet_of_same (HC.out _)) | (go_at_call 232; exact Calls.quiet_of_same (spare_c size _ HS.out)) | (go_at_call 233; exact Calls.quiet_of_same (HW.out _)))
    go_wp2
    go_ret; refine ⟨?_, HG.out.trans (gr_drewN _ _ _)⟩; by_cases e : y = x
    · subst e; simp
    · rw [decide_eq_false e]; (have : ((y : Int) == (x : Int)) = false := by simp; omega); simp [this]
  · have HC : Kp (∀ W : World, CRs 231 #[.int .i64 size] W (.bool false)) := ⟨fun W => by
      have := sized_c size W
      rwa [decide_eq_false hs] at this⟩
    (have hd : decide (sized size ∧ (sx x size.toNat) = x) = false := by simp [hs]); rw [hd]; clear hd hs; go_wp2_with fail; obtain ⟨w1, hw1⟩ : ∃ w1, w.alloc (.cells #[fv 233] 226) = w1 := ⟨_, rfl⟩; have HG : Kp (w.grownBy w1 none) := ⟨by rw [← hw1]; exact gAl _ _ _⟩; rw [hw1]; clear hw1; generalize w.heap.size = kb at *; go_quiet ((go_at_call 231; exact Calls.quiet_of_same (HC.out _)))
    go_wp2
    go_ret; exact ⟨rfl, HG.out.trans (gr_drewN _ _ _)⟩
theorem fitsU_iff (x : Nat) (size : Int) : (sized size ∧ x % 256 ^ size.toNat = x) ↔ fitsU x size := by
  unfold fitsU; refine and_congr_right fun _ => ⟨fun h => ?_, fun h => Nat.mod_eq_of_lt h⟩
  rw [← h]; exact Nat.mod_lt _ (Nat.pos_of_ne_zero (by simp))
abbrev bv (x : UInt8) : Value := .int .u8 x.toNat
def sl (s : ByteArray) : List UInt8 := s.data.toList
theorem sl_len (s : ByteArray) : (sl s).length = s.size := Array.length_toList
theorem sl_mk (l : List UInt8) : sl ⟨l.toArray⟩ = l := by simp [sl]
theorem sl_app (a b : ByteArray) : sl (a ++ b) = sl a ++ sl b := by simp [sl]
theorem sl_inj {a b : ByteArray} (h : sl a = sl b) : a = b := by
  apply ByteArray.ext; exact Array.toList_inj.1 h
theorem sl_back (s : ByteArray) : (⟨(sl s).toArray⟩ : ByteArray) = s := by
  apply ByteArray.ext; simp [sl]
theorem sl_cells (s : ByteArray) : Lib.strCells s = (sl s).map bv := by
  simp [Lib.strCells, sl]
theorem under53 : prog.underlying 60 = some (.slice 5) := by kernel_rfl
theorem under5 : prog.underlying 5 = some (.int .u8) := by kernel_rfl
theorem under9 : prog.underlying 9 = some .string := by kernel_rfl
theorem info5 : ∃ i, prog.info? 5 = some i ∧ i.size = 1 ∧ i.bytes = 1 ∧ i.zero = some (.int .u8 0) := ⟨_, rfl, by kernel_rfl, by kernel_rfl, by kernel_rfl⟩
abbrev Row (w : World) (v : Value) (xs : List UInt8) : Prop := w.ownsRow 0 5 1 v xs.length (xs.map bv)
theorem Row.lt {w : World} {v : Value} {xs : List UInt8} (h : Row w v xs) {k : Nat} (e : v.ownBlock = some k) : k < w.heap.size := by
  obtain ⟨_, h2⟩ := h; rcases h2 with ⟨rfl, _⟩ | ⟨g, cap, cur, rfl, a, b, c⟩
  · cases e
  · cases e; exact (Array.getElem?_eq_some_iff.1 b).1
theorem Row.fr {S : Nat → Prop} {w w' : World} {v : Value} {xs : List UInt8} (h : Row w v xs) (f : Fr S w w') (hs : ∀ k, v.ownBlock = some k → ¬ S k) : Row w' v xs := by
  have hl : ∀ k, v.ownBlock = some k → k < w.heap.size := fun k e => Row.lt h e
  obtain ⟨h1, h2⟩ := h; refine ⟨h1, ?_⟩; rcases h2 with h2 | ⟨g, cap, cur, rfl, a, b, c⟩
  · exact .inl h2
  · exact .inr ⟨g, cap, cur, rfl, a, by rw [f.block g (hl g rfl) (hs g rfl), b], c⟩
theorem Row.shape {w : World} {v : Value} {xs : List UInt8} (h : Row w v xs) : ∃ a c, v = .slice a xs.length c ∧ (a = none → xs = []) ∧ ∀ ad, a = some ad → ∀ j x, xs[j]? = some x → w.cell? (ad.add j) = some (bv x) := by
  have hc := fun g (hv : v.ownBlock = some g) => World.ownsRow.cells (w := w) h (g := g) hv
  obtain ⟨h1, h2⟩ := h; rcases h2 with ⟨rfl, h0⟩ | ⟨g, cap, cur, rfl, hb, hheap, h1, h2, h3, h4⟩
  · exact ⟨none, 0, by rw [h0], fun _ => List.eq_nil_of_length_eq_zero h0, fun _ e => (by cases e)⟩
  · refine ⟨_, cap, rfl, fun e => (by cases e), fun ad e j x hx => ?_⟩; cases e; exact hc g rfl j _ (by rw [List.getElem?_map, hx]; rfl)
theorem app_byte {w : World} {v : Value} {xs : List UInt8} (h : Row w v xs) (b : UInt8) (hsz : xs.length + 1 ≤ 140737488355328) :
    ∃ v' w', (Builtin.append_ #[60, 60] 60 #[v, .slice (some ⟨w.heap.size, 0, none⟩) 1 1]).run prog (w.alloc (.cells #[.int .u8 b.toNat] 5)) = .ok v' w' ∧ Row w' v' (xs ++ [b]) ∧ w.grownBy w' v.ownBlock ∧ (v'.ownBlock = v.ownBlock ∨ ∃ k, v'.ownBlock = some k ∧ w.heap.size ≤ k) := by
  obtain ⟨i, h1, h2, h3, h4⟩ := info5; have ga := gAl w (.cells #[.int .u8 b.toNat] 5) none; have h' : Row (w.alloc (.cells #[.int .u8 b.toNat] 5)) v xs := h.fr (S := fun _ => False) (Fr.ofNone ga) (fun _ _ e => e)
  obtain ⟨v', w', r1, r2, r3, _, r5⟩ := run_append_own_at (P := prog) _ 0 60 60 5 i (.int .u8 0) 1 1 under53 h1 h4 h2 h3 rfl (by decide) v xs.length _ h' ⟨w.heap.size, 0, none⟩ 1 1 [.int .u8 b.toNat] rfl (fun j u hu => by
      rw [Addr.add_mid, Nat.zero_add]
      exact (Has.newA w #[.int .u8 b.toNat] 5).cellv j _ hu) (fun u hu => by simp at hu; subst hu; rfl) (by unfold maxLen; omega) (by omega) (Nat.zero_le _)
  refine ⟨v', w', r1, ?_, ?_, ?_⟩
  · (have e : xs.map bv ++ [.int .u8 b.toNat] = (xs ++ [b]).map bv := by simp); (have el : (xs ++ [b]).length = xs.length + 1 := by simp); rw [e] at r2; unfold Row; rw [el]; exact r2
  · exact ⟨r3.os.trans ga.os, r3.tape.trans ga.tape, r3.output.trans ga.output, Nat.le_trans ga.size r3.size, fun k hk hne => by rw [r3.block k (by have := ga.size; omega) hne, ga.block k hk (by simp)]⟩
  · rcases r5 with e | e
    · exact .inl e
    · exact .inr ⟨_, e, by rw [World.size_alloc]; omega⟩
theorem app_str {w : World} {v : Value} {xs : List UInt8} (h : Row w v xs) (s : ByteArray) (hsz : xs.length + s.size ≤ 140737488355328) :
    ∃ v' w', (Builtin.append_ #[60, 9] 60 #[v, .string s]).run prog w = .ok v' w' ∧ Row w' v' (xs ++ sl s) ∧ w.grownBy w' v.ownBlock ∧ (v'.ownBlock = v.ownBlock ∨ ∃ k, v'.ownBlock = some k ∧ w.heap.size ≤ k) := by
  obtain ⟨i, h1, h2, h3, h4⟩ := info5; obtain ⟨v', w', r1, r2, r3, r4⟩ := Lib.run_append_own_string (P := prog) w 0 60 9 60 5 i under53 under9 h1 h4 h2 h3 v xs.length _ h s (by unfold maxLen; omega) hsz (Nat.zero_le _); refine ⟨v', w', r1, ?_, r3, ?_⟩
  · rw [sl_cells, ← List.map_append] at r2; (have el : (xs ++ sl s).length = xs.length + s.size := by simp [sl_len]); unfold Row; rw [el]; exact r2
  · obtain ⟨hl, h5⟩ := h; rcases h5 with ⟨rfl, h0⟩ | ⟨g, cap, cur, rfl, hbg, hg, hnc, hcm, hcs, htake⟩
    · obtain ⟨v2, w2, q1, q2, _⟩ := Lib.run_append_own_string (P := prog) w w.heap.size 60 9 60 5 i under53 under9 h1 h4 h2 h3 (.slice none 0 0) 0 [] (World.ownsRow_nil _ _ _ _) s (by unfold maxLen; omega) (by omega) (Nat.le_refl _); (have e : (Result.ok v2 w2 : Result Value) = .ok v' w' := by rw [← q1, r1]); injection e with e1 e2
      subst e1 e2; obtain ⟨_, q2⟩ := q2; rcases q2 with ⟨rfl, _⟩ | ⟨g, cap, cur, rfl, hbg, _⟩
      · exact .inl rfl
      · exact .inr ⟨g, rfl, hbg⟩
    · by_cases hroom : xs.length + s.size ≤ cap
      · (have hcs' : cur.size = cap := by simpa using hcs); have hr := Lib.run_append_room_string (P := prog) w 60 9 60 5 i under53 under9 h1 h2 g xs.length cap cur hg s hroom (by omega); rw [hr] at r1; injection r1 with e1 e2
        subst e1; exact .inl rfl
      · have holds : ∀ j u, (xs.map bv)[j]? = some u → w.cell? ((⟨g, 0, none⟩ : Addr).add j) = some u := World.ownsRow.cells (w := w) (base := 0) (e := 5) (size := 1) ⟨hl, .inr ⟨g, cap, cur, rfl, hbg, hg, hnc, hcm, hcs, htake⟩⟩ (g := g) rfl; have hr := Lib.run_append_grow_string (P := prog) w 60 9 60 5 i (.int .u8 0) under53 under9 h1 h4 ⟨g, 0, none⟩ xs.length cap (xs.map bv) (by rw [h2]; simp) holds s (by omega) (by omega) (by rw [h3]; exact growslice_fits (by omega) (by omega)); rw [hr] at r1; injection r1 with e1 e2
        subst e1; exact .inr ⟨_, rfl, Nat.le_refl _⟩
structure WAt (w : World) (wb : Nat) (v : Value) (st : WS) : Prop where
  h : Has w wb [v, .int .i64 (if st = none then 51 else 0)] 198
  r : Row w v (st.getD [])
  ne : v.ownBlock ≠ some wb
def WF (wb : Nat) (v : Value) (i : Nat) : Prop := i = wb ∨ v.ownBlock = some i
theorem WAt.lt {w : World} {wb : Nat} {v : Value} {st : WS} (h : WAt w wb v st) : ∀ i, WF wb v i → i < w.heap.size := fun i hi => by
  rcases hi with rfl | e
  · exact h.h.lt
  · exact Row.lt h.r e
theorem WAt.fr {S : Nat → Prop} {w w' : World} {wb : Nat} {v : Value} {st : WS} (h : WAt w wb v st) (f : Fr S w w') (hs : ∀ i, WF wb v i → ¬ S i) : WAt w' wb v st :=
  ⟨h.h.fr f (hs _ (.inl rfl)), h.r.fr f (fun k e => hs k (.inr e)), h.ne⟩
theorem WAt.kept {w w' : World} {wb : Nat} {v : Value} {st : WS} (h : WAt w wb v st) (hg : w.grownBy w' none) : WAt w' wb v st :=
  h.fr (S := fun _ => False) (Fr.ofNone hg) (fun _ _ e => e)
structure WDid (w w' : World) (wb : Nat) (v : Value) (st : WS) (v' : Value) : Prop where
  a : WAt w' wb v' st
  f : Fr (WF wb v) w w'
  n : ∀ k, v'.ownBlock = some k → v.ownBlock = some k ∨ w.heap.size ≤ k
theorem WDid.refl {w : World} {wb : Nat} {v : Value} {st : WS} (h : WAt w wb v st) : WDid w w wb v st v := ⟨h, Fr.refl _ _, fun _ e => .inl e⟩
theorem WDid.trans {w w1 w2 : World} {wb : Nat} {v v1 v2 : Value} {st st2 : WS} (h : WDid w w1 wb v st v1) (k : WDid w1 w2 wb v1 st2 v2) : WDid w w2 wb v st2 v2 := by
  have hs := h.f.size; refine ⟨k.a, h.f.then k.f (fun i hi => ?_), fun i e => ?_⟩
  · rcases hi with e | e
    · exact .inl (.inl e)
    · exact (h.n i e).imp_left .inr
  · rcases k.n i e with q | q
    · exact h.n i q
    · exact .inr (by omega)
theorem WDid.grown {w w1 w2 : World} {wb : Nat} {v v1 : Value} {st : WS} (h : WDid w w1 wb v st v1) (hg : w1.grownBy w2 none) : WDid w w2 wb v st v1 :=
  ⟨h.a.kept hg, h.f.trans (Fr.ofNone hg), h.n⟩
theorem WDid.ahead {w w1 w2 : World} {wb : Nat} {v v1 : Value} {st : WS} (hg : w.grownBy w1 none) (h : WDid w1 w2 wb v st v1) : WDid w w2 wb v st v1 :=
  ⟨h.a, (Fr.ofNone hg).trans h.f, fun k e => (h.n k e).imp_right (fun q => Nat.le_trans hg.size q)⟩
theorem WAt.set {w w1 : World} {wb : Nat} {v v' : Value} {xs ys : List UInt8} (h : WAt w wb v (some xs)) (r : Row w1 v' ys) (g : w.grownBy w1 v.ownBlock) (hn : v'.ownBlock = v.ownBlock ∨ ∃ k, v'.ownBlock = some k ∧ w.heap.size ≤ k) : WDid w (w1.setCell ⟨wb, 0, none⟩ v') wb v (some ys) v' := by
  have hw := h.h.lt
  have hne : v'.ownBlock ≠ some wb := fun e => by
    rcases hn with q | ⟨k, q1, q2⟩
    · rw [q] at e; exact h.ne e
    · rw [q1] at e; cases e; omega
  have hh : Has w1 wb [v, .int .i64 0] 198 := (show Has w wb [v, .int .i64 0] 198 from h.h).kept g (fun e => h.ne e.symm); have f1 : Fr (WF wb v) w w1 := (Fr.of g).mono (fun i e => .inl (.inr e)); refine ⟨⟨hh.setCell 0 v', ?_, hne⟩, f1.then (Fr.of (gr_set w1 wb 0 v')) (fun i e => by cases e; exact .inl (.inl rfl)), fun k e => ?_⟩
  · exact r.fr (Fr.of (gr_set w1 wb 0 v')) (fun k e q => hne (by rw [e, q]))
  · rcases hn with q | ⟨k', q1, q2⟩
    · rw [q] at e; exact .inl e
    · rw [q1] at e; cases e; exact .inr q2
theorem row_nil (w : World) : Row w (.slice none 0 0) [] := World.ownsRow_nil _ _ _ _
theorem wfail_c (wb : Nat) (v : Value) (st : WS) (w : World) (h : WAt w wb v st) :
    Calls prog 214 #[.pointer (some ⟨wb, 0, none⟩)] w fun e w' => e = .returned (.tuple #[]) ∧ ∃ v', WDid w w' wb v none v' := by
  have HH : Kp (WAt w wb v st) := ⟨h⟩; have h0 : w.cell? ⟨wb, 0, none⟩ = some v := h.h.cellv 0 _ rfl; have h1 : w.cell? ⟨wb, 1, none⟩ = some (.int .i64 (if st = none then 51 else 0)) := h.h.cellv 1 _ rfl; have f0 := h.h.frozen 0; have f1 := h.h.frozen 1; clear h; generalize (if st = none then (51 : Int) else 0) = e1 at *; go_enter func214, ntmps214
  go_wp2
  go_end0
  refine ⟨rfl, .slice none 0 0, ⟨(HH.out.h.setCell 0 _).setCell 1 _, row_nil _, by simp [Value.ownBlock]⟩, ?_, fun k e => by cases e⟩; exact ((Fr.ofSome (gr_set _ _ _ _) (.inl rfl))).trans (Fr.ofSome (gr_set _ _ _ _) (.inl rfl))
theorem row_room {w : World} {g n cap m : Nat} {cur : Array Value} {xs news : List UInt8} (hg : w.heap[g]? = some (.cells cur 5 (0, 0))) (hcm : cap ≤ maxLen) (hcs : cur.size = cap) (htake : cur.toList.take n = xs.map bv) (hn : xs.length = n) (hm : news.length = m) (hroom : n + m ≤ cap) :
    Row (w.setRow g (cur.toList.take n ++ news.map bv ++ cur.toList.drop (n + m)).toArray) (.slice (some ⟨g, 0, none⟩) (n + m) cap) (xs ++ news) ∧ w.grownBy (w.setRow g (cur.toList.take n ++ news.map bv ++ cur.toList.drop (n + m)).toArray) (some g) := by
  have hlen : (xs ++ news).length = n + m := by rw [List.length_append, hn, hm]
  refine ⟨⟨by simp, .inr ⟨g, cap, _, by rw [hlen], Nat.zero_le _, setRow_heap w g cur _ 5 _ hg, by omega, hcm, ?_, ?_⟩⟩, ⟨rfl, rfl, rfl, by simp, fun k _ hk => setRow_other w g k _ (fun e => hk (by rw [e]))⟩⟩
  · simp only [List.size_toArray, List.length_append, List.length_take, List.length_drop, List.length_map, Array.length_toList]; omega
  · rw [htake, ← List.map_append, hlen, Nat.mul_one]; refine (List.take_append_of_le_length ?_).trans (List.take_of_length_le ?_) <;> rw [List.length_map, hlen] <;> exact Nat.le_refl _
theorem row_grown (w : World) (n m old : Nat) (xs news : List UInt8) (hn : xs.length = n) (hm : news.length = m) (h63 : n + m ≤ maxLen) (row : Option Nat) :
    Row (w.drew.alloc (.cells ((xs.map bv).toArray ++ (news.map bv).toArray ++ Builtin.zeroCells (Value.int .u8 0).cells (grownCap w (n + m) old 5 - (n + m))) 5)) (.slice (some ⟨w.heap.size, 0, none⟩) (n + m) (grownCap w (n + m) old 5)) (xs ++ news) ∧
    w.grownBy (w.drew.alloc (.cells ((xs.map bv).toArray ++ (news.map bv).toArray ++ Builtin.zeroCells (Value.int .u8 0).cells (grownCap w (n + m) old 5 - (n + m))) 5)) row := by
  have hlen : (xs ++ news).length = n + m := by rw [List.length_append, hn, hm]
  have hge := grownCap_ge w (n + m) old 5; refine ⟨⟨by simp, .inr ⟨w.heap.size, _, _, by rw [hlen], Nat.zero_le _, heap_alloc_last w.drew _, by omega, grownCap_le_maxLen w (n + m) old 5 h63, ?_, ?_⟩⟩, (gr_drew w row).trans (gAl _ _ _)⟩
  · have hz : (Value.int .u8 0).cells.size = 1 := rfl; simp only [Array.size_append, List.size_toArray, List.length_map, size_zeroCells, hn, hm, hz]; omega
  · simp only [Array.toList_append, hlen, Nat.mul_one]; rw [← List.map_append]; refine (List.take_append_of_le_length ?_).trans (List.take_of_length_le ?_) <;> rw [List.length_map, hlen] <;> exact Nat.le_refl _
theorem app_byte_w {w : World} {v : Value} {xs : List UInt8} (h : Row w v xs) (b : UInt8) (hsz : xs.length + 1 ≤ 180000000000000) :
    ∃ v' w', (Builtin.append_ #[60, 60] 60 #[v, .slice (some ⟨w.heap.size, 0, none⟩) 1 1]).run prog (w.alloc (.cells #[.int .u8 b.toNat] 5)) = .ok v' w' ∧ Row w' v' (xs ++ [b]) ∧ w.grownBy w' v.ownBlock ∧ (v'.ownBlock = v.ownBlock ∨ ∃ k, v'.ownBlock = some k ∧ w.heap.size ≤ k) := by
  by_cases hsm : xs.length + 1 ≤ 140737488355328
  · exact app_byte h b hsm
  obtain ⟨i, h1, h2, h3, h4⟩ := info5; have ga := gAl w (.cells #[.int .u8 b.toNat] 5) none; have h' : Row (w.alloc (.cells #[.int .u8 b.toNat] 5)) v xs := h.fr (S := fun _ => False) (Fr.ofNone ga) (fun _ _ e => e)
  have hnews : ∀ j u, ([b].map bv)[j]? = some u → (w.alloc (.cells #[.int .u8 b.toNat] 5)).cell? ((⟨w.heap.size, 0, none⟩ : Addr).add j) = some u := fun j u hu => by
    rw [Addr.add_mid, Nat.zero_add]; exact (Has.newA w #[.int .u8 b.toNat] 5).cellv j _ hu
  have fin : ∀ w' : World, (w.alloc (.cells #[.int .u8 b.toNat] 5)).grownBy w' v.ownBlock → w.grownBy w' v.ownBlock := fun w' r3 =>
    ⟨r3.os.trans ga.os, r3.tape.trans ga.tape, r3.output.trans ga.output, Nat.le_trans ga.size r3.size, fun k hk hne => by rw [r3.block k (by have := ga.size; omega) hne, ga.block k hk (by simp)]⟩
  obtain ⟨hl, h5⟩ := h'; rcases h5 with ⟨rfl, h0⟩ | ⟨g, cap, cur, rfl, hbg, hg, hnc, hcm, hcs, htake⟩
  · omega
  · (have hcs' : cur.size = cap := by simpa using hcs); (have htk : cur.toList.take xs.length = xs.map bv := by simpa using htake); by_cases hroom : xs.length + 1 ≤ cap
    · have hr := run_append_room (P := prog) (w.alloc (.cells #[.int .u8 b.toNat] 5)) 60 60 5 i under53 h1 g xs.length cap cur hg ⟨w.heap.size, 0, none⟩ 1 1 ([b].map bv) (by rw [h2]; rfl) hnews (fun u hu => by simp at hu; subst hu; rfl) hroom (by rw [h2]; simp; omega); rw [h2, Nat.mul_one] at hr; obtain ⟨r2, r3⟩ := row_room (news := [b]) (m := 1) hg hcm hcs' htk rfl rfl hroom; exact ⟨_, _, hr, r2, fin _ r3, .inl rfl⟩
    · have holds : ∀ j u, (xs.map bv)[j]? = some u → (w.alloc (.cells #[.int .u8 b.toNat] 5)).cell? ((⟨g, 0, none⟩ : Addr).add j) = some u := World.ownsRow.cells (base := 0) (e := 5) (size := 1) ⟨hl, .inr ⟨g, cap, cur, rfl, hbg, hg, hnc, hcm, hcs, htake⟩⟩ (g := g) rfl; have hr := run_append_grow (P := prog) (w.alloc (.cells #[.int .u8 b.toNat] 5)) 60 60 5 i (.int .u8 0) under53 h1 h4 ⟨g, 0, none⟩ xs.length cap (xs.map bv) (by rw [h2]; simp) holds ⟨w.heap.size, 0, none⟩ 1 1 ([b].map bv) (by rw [h2]; rfl) hnews (by omega) (by omega) (by rw [h3]; exact growslice_fits_wide (by omega) (by omega)); obtain ⟨r2, r3⟩ := row_grown (w.alloc (.cells #[.int .u8 b.toNat] 5)) xs.length 1 cap xs [b] rfl rfl (by unfold maxLen; omega) (some g); exact ⟨_, _, hr, r2, fin _ r3, .inr ⟨w.heap.size + 1, by simp [Value.ownBlock, World.size_alloc], by omega⟩⟩
theorem app_str_w {w : World} {v : Value} {xs : List UInt8} (h : Row w v xs) (s : ByteArray) (hsz : xs.length + s.size ≤ 180000000000000) (hs : s.size ≤ 140737488355328) :
    ∃ v' w', (Builtin.append_ #[60, 9] 60 #[v, .string s]).run prog w = .ok v' w' ∧ Row w' v' (xs ++ sl s) ∧ w.grownBy w' v.ownBlock ∧ (v'.ownBlock = v.ownBlock ∨ ∃ k, v'.ownBlock = some k ∧ w.heap.size ≤ k) := by
  by_cases hsm : xs.length + s.size ≤ 140737488355328
  · exact app_str h s hsm
  obtain ⟨i, h1, h2, h3, h4⟩ := info5; obtain ⟨hl, h5⟩ := h; rcases h5 with ⟨rfl, h0⟩ | ⟨g, cap, cur, rfl, hbg, hg, hnc, hcm, hcs, htake⟩
  · omega
  · (have hcs' : cur.size = cap := by simpa using hcs); (have htk : cur.toList.take xs.length = xs.map bv := by simpa using htake); by_cases hroom : xs.length + s.size ≤ cap
    · have hr := Lib.run_append_room_string (P := prog) w 60 9 60 5 i under53 under9 h1 h2 g xs.length cap cur hg s hroom (by omega); rw [sl_cells] at hr; obtain ⟨r2, r3⟩ := row_room (news := sl s) (m := s.size) hg hcm hcs' htk rfl (sl_len s) hroom; exact ⟨_, _, hr, r2, r3, .inl rfl⟩
    · have holds : ∀ j u, (xs.map bv)[j]? = some u → w.cell? ((⟨g, 0, none⟩ : Addr).add j) = some u := World.ownsRow.cells (w := w) (base := 0) (e := 5) (size := 1) ⟨hl, .inr ⟨g, cap, cur, rfl, hbg, hg, hnc, hcm, hcs, htake⟩⟩ (g := g) rfl; have hr := Lib.run_append_grow_string (P := prog) w 60 9 60 5 i (.int .u8 0) under53 under9 h1 h4 ⟨g, 0, none⟩ xs.length cap (xs.map bv) (by rw [h2]; simp) holds s (by omega) (by omega) (by rw [h3]; exact growslice_fits_wide (by omega) (by omega)); rw [sl_cells] at hr; obtain ⟨r2, r3⟩ := row_grown w xs.length s.size cap xs (sl s) rfl (sl_len s) (by unfold maxLen; omega) (some g); exact ⟨_, _, hr, r2, r3, .inr ⟨_, rfl, Nat.le_refl _⟩⟩
theorem be_at : ∀ (n x k : Nat), k < n → (be n x)[n - 1 - k]? = some (UInt8.ofNat (x / 256 ^ k))
  | 0, _, _, h => by omega
  | n + 1, x, k, h => by
    by_cases e : k = n
    · subst e; simp [be]
    · have := be_at n x k (by omega); obtain ⟨m, hm⟩ : ∃ m, n + 1 - 1 - k = m + 1 := ⟨n - 1 - k, by omega⟩; rw [hm, be, List.getElem?_cons_succ, ← this]
      congr 1; omega
theorem be_take (n x k : Nat) (h : k < n) : (be n x).take (n - k) = (be n x).take (n - (k + 1)) ++ [UInt8.ofNat (x / 256 ^ k)] := by
  have h1 := be_at n x k h; have e : n - k = (n - (k + 1)) + 1 := by omega
  have e2 : n - 1 - k = n - (k + 1) := by omega
  rw [e2] at h1; obtain ⟨h2, h3⟩ := List.getElem?_eq_some_iff.1 h1; rw [e, List.take_succ_eq_append_getElem h2, h3]
theorem wanted_append {P : Program} {o : Oper} {Y : Nat → Option Bool} {a : Act} {w : World} {K : Act → World → Prop} {Q : Exit → Act → World → Prop} (hgd : o.guard = none) (s x : Operand) (t u : TypeId)
    (ho : o.op = .call { callee := .builtin .append, args := #[s, x], argTypes := #[t, u] }) (v y : Value) (hs : a.eval s = v) (hx : a.eval x = y) {v' : Value} {w' : World}
    (hr : (Builtin.append_ #[t, u] o.type #[v, y]).run P w = .ok v' w') (h : K (a.put o.dst v') w') : if Region.wanted o Y = true then Oper.wp P o a w K Q else K (a.put o.dst undef) w := by
  rw [if_pos (by simp [Region.wanted, hgd])]; unfold Oper.wp execOp; simp only [ho, resolve, invoke, builtin, Sem.run_bind, Sem.run_pure, Result.andThen_ok, List.map_toArray, List.map_cons, List.map_nil, hs, hx, hr]; exact h
theorem wi (a : Int) (h1 : -9223372036854775808 ≤ a) (h2 : a < 9223372036854775808) : IntKind.i64.wrap a = a := by
  rw [IntKind.wrap_i64]; omega
theorem wnumber_plain (wb : Nat) (v : Value) (st : WS) (x : Nat) (size : Int) (w : World) (h : WAt w wb v st) (hx : x < 18446744073709551616) (hl : (st.getD []).length ≤ 179999999999992) :
    Calls prog 188 #[.pointer (some ⟨wb, 0, none⟩), .agg #[fv 215], .int .u64 (x : Nat), .int .i64 size] w fun e w' => e = .returned (.tuple #[]) ∧ ∃ v', WDid w w' wb v (wNum st x size) v' := by
  have HH : Kp (WAt w wb v st) := ⟨h⟩; have HL : Kp ((st.getD []).length ≤ 179999999999992) := ⟨hl⟩
  have HB : Kp (∀ W : World, CRt 213 #[.agg #[fv 215], .int .u64 (x : Nat), .int .i64 size] W (.bool (decide (fitsU x size)))) := ⟨fun W => by
    have := holds_plain x size W hx
    rwa [show decide (sized size ∧ x % 256 ^ size.toNat = x) = decide (fitsU x size) from decide_eq_decide.2 (fitsU_iff x size)] at this⟩
  have HX : Kp (x < 18446744073709551616) := ⟨hx⟩; have HF : Kp (¬ fitsU x size → wNum st x size = none) := ⟨fun q => by unfold wNum; rw [if_neg q]⟩; have HT : Kp (fitsU x size → wNum st x size = st.map (· ++ be size.toNat x)) := ⟨fun q => by unfold wNum; rw [if_pos q]⟩; have HZ : Kp (fitsU x size → 1 ≤ size ∧ size ≤ 8) := ⟨fun q => q.1⟩; obtain ⟨st2, hst2⟩ : ∃ q, wNum st x size = q := ⟨_, rfl⟩; obtain ⟨fit, hfit⟩ : ∃ q, (fitsU x size) = q := ⟨_, rfl⟩; obtain ⟨bo, hbo⟩ : ∃ q, decide (fitsU x size) = q := ⟨_, rfl⟩; have HBO : Kp (bo = true ↔ fit) := ⟨by rw [← hbo, ← hfit]; exact decide_eq_true_iff⟩; rw [hst2] at HF HT ⊢; rw [hbo] at HB; rw [hfit] at HF HT HZ
  
  
  clear h hx hl hst2 hfit hbo; go_enter func188, ntmps188; go_wp2_with fail; obtain ⟨w1, hw1⟩ : ∃ w1, w.alloc (.cells #[fv 215] 226) = w1 := ⟨_, rfl⟩; rw [hw1]; have HG : Kp (w.grownBy w1 none) := ⟨by rw [← hw1]; exact gAl _ _ _⟩; clear hw1; refine (HB.out w1).mono ?_; rintro e w2 ⟨rfl, g2⟩; have HG2 : Kp (w.grownBy w2 none) := ⟨HG.out.trans g2⟩; have HA2 : Kp (WAt w2 wb v st) := ⟨HH.out.kept HG2.out⟩; clear g2 HG HB HH; cases bo with
  | false =>
    have HN : Kp (st2 = none) := ⟨HF.out (fun q => by have := HBO.out.2 q; cases this)⟩; go_wp2_with fail; refine (wfail_c wb v st w2 HA2.out).mono ?_; rintro e w3 ⟨rfl, v3, d3⟩; have HD : Kp (WDid w w3 wb v none v3) := ⟨d3.ahead HG2.out⟩; have h1 : w3.cell? ⟨wb, 1, none⟩ = some (.int .i64 51) := d3.a.h.cellv 1 _ rfl; clear d3
    go_wp2
    refine bodyPost_ret (results_none rfl _ _ _) rfl ?_; exact ⟨rfl, v3, by rw [HN.out]; exact HD.out⟩
  | true =>
    have HFT : Kp fit := ⟨HBO.out.1 rfl⟩; cases st with
    | none =>
      have HN : Kp (st2 = none) := ⟨HT.out HFT.out⟩; have h1 : w2.cell? ⟨wb, 1, none⟩ = some (.int .i64 51) := HA2.out.h.cellv 1 _ rfl
      go_wp2
      refine bodyPost_ret (results_none rfl _ _ _) rfl ?_; exact ⟨rfl, v, by rw [HN.out]; exact (WDid.refl HA2.out).ahead HG2.out⟩
    | some l =>
      obtain ⟨n, rfl, hn1, hn8⟩ : ∃ n : Nat, size = n ∧ 1 ≤ n ∧ n ≤ 8 := ⟨size.toNat, by have := HZ.out HFT.out; omega, by have := HZ.out HFT.out; omega, by have := HZ.out HFT.out; omega⟩; have HN : Kp (st2 = some (l ++ be n x)) := ⟨by have := HT.out HFT.out; simpa using this⟩; have HLL : Kp (l.length ≤ 179999999999992) := ⟨HL.out⟩; have h1 : w2.cell? ⟨wb, 1, none⟩ = some (.int .i64 0) := HA2.out.h.cellv 1 _ rfl; clear HT HF HBO HZ HL
      go_wp2
      clear h1
      go_loopw [8] (fun t w' => ∃ (k : Nat) (v' : Value), k ≤ n ∧ t = .int .i64 ((k : Int) - 1) ∧ Kp (WDid w w' wb v (some (l ++ (be n x).take (n - k))) v')) (fun t _ => (intOf t + 1).toNat)
      case atStart => exact ⟨n, v, Nat.le_refl _, by simp, ⟨by rw [Nat.sub_self, List.take_zero, List.append_nil]; exact (WDid.refl HA2.out).ahead HG2.out⟩⟩
      case round =>
        obtain ⟨k, v', hk, rfl, HI⟩ := hrel; by_cases hk0 : k = 0
        · subst hk0
          have HE : Kp (WDid w wr wb v st2 v') := ⟨by
            have := HI.out; rw [Nat.sub_zero, List.take_of_length_le (by rw [be_len]; exact Nat.le_refl _), ← HN.out] at this
            exact this⟩
          clear HI
          go_wp2
          go_end0
          exact ⟨rfl, v', HE.out⟩
        · obtain ⟨j, rfl⟩ : ∃ j, k = j + 1 := ⟨k - 1, by omega⟩; (have hj : ((j + 1 : Nat) : Int) - 1 = (j : Int) := by omega); rw [hj]; (have hj8 : j < 8 := by omega); have hge : ((j : Int) ≥ 0) := by omega
          have hb : l.length + ((be n x).take (n - (j + 1))).length + 1 ≤ 180000000000000 := by
            have := HLL.out; rw [List.length_take, be_len]; omega
          obtain ⟨b, hbb⟩ : ∃ b, UInt8.ofNat (x / 256 ^ j) = b := ⟨_, rfl⟩; (have hsh : (b.toNat : Int) = (x / 256 ^ j % 256 : Nat) := by rw [← hbb, UInt8.toNat_ofNat']); have h0 : wr.cell? ⟨wb, 0, none⟩ = some v' := HI.out.a.h.cellv 0 _ rfl; obtain ⟨v2, w3, r1, r2, r3, r4⟩ := app_byte_w (HI.out.a.r.fr (S := fun _ => False) (Fr.ofNone (gr_drew wr none)) (fun _ _ e => e)) b (by simpa [Nat.add_assoc] using hb); have HD := (HI.out.a.kept (gr_drew wr none)).set r2 r3 r4; obtain ⟨a2, c2, hv2, _⟩ := Row.shape r2; obtain ⟨n2, hn2⟩ : ∃ q, ((some (l ++ List.take (n - (j + 1)) (be n x))).getD [] ++ [b]).length = q := ⟨_, rfl⟩; rw [hn2] at hv2; subst hv2; clear hn2; (have hw8 : IntKind.i64.wrap (8 * (j : Int)) = 8 * j := by rw [wi _ (by omega) (by omega)]); have hdg : decide ((j : Int) ≥ 0) = true := decide_eq_true hge; have hnn : ¬ (8 * (j : Int) < 0) := by omega
          have hs0 : IntKind.u8.wrap ((x : Int) / 2 ^ (8 * (j : Int)).toNat) = b.toNat := by
            rw [hsh, show (8 * (j : Int)).toNat = 8 * j by omega]; have e3 : ∀ q : Int, IntKind.u8.wrap q = q % 256 := fun q => rfl
            have e2 : (2 : Int) ^ (8 * j) = ((256 ^ j : Nat) : Int) := by
              rw [Int.pow_mul]; simp
            rw [e2, e3]; simp
          have r1' : (Builtin.append_ #[60, 60] 60 #[v', .slice (some ⟨wr.heap.size, 0, none⟩) 1 1]).run prog (wr.alloc (.cells #[.int .u8 b.toNat] 5)).drew = .ok (.slice a2 n2 c2) w3 := r1; have h0a : (wr.alloc (.cells #[.int .u8 b.toNat] 5)).cell? ⟨wb, 0, none⟩ = some v' := (HI.out.a.h.alloc _).cellv 0 _ rfl; clear r1; have f0 : w3.frozen? ⟨wb, 0, none⟩ = false := (show Has w3 wb [v', .int .i64 0] 198 from ((HI.out.a.kept (gr_drew wr none)).h.kept r3 (fun e => HI.out.a.ne e.symm))).frozen 0; have c0 : w3.cell? ⟨wb, 0, none⟩ = some v' := (show Has w3 wb [v', .int .i64 0] 198 from ((HI.out.a.kept (gr_drew wr none)).h.kept r3 (fun e => HI.out.a.ne e.symm))).cellv 0 _ rfl
          have HDD : Kp (WDid w (w3.setCell ⟨wb, 0, none⟩ (.slice a2 n2 c2)) wb v (some (l ++ (be n x).take (n - j))) (.slice a2 n2 c2)) := ⟨by
            rw [be_take n x j (by omega), hbb, ← List.append_assoc]
            exact (HI.out.grown (gr_drew wr none)).trans HD⟩
          (have hwj : IntKind.i64.wrap ((j : Int) - 1) = (j : Int) - 1 := by rw [wi _ (by omega) (by omega)]); clear HD r2 r3 r4 hsh hbb HI hb HX HN HLL HFT HA2 HG2 hj; go_wp2_with fail; refine wp_region_held_drew (S := fun _ => True) (by kernel_rfl) trivial (fun hHeld => ?_); refine hq 0 rfl ?_; refine hq 1 rfl ?_; refine hq 2 rfl ?_; refine hq 3 rfl ?_; refine hq 5 rfl ?_; refine hq 6 rfl ?_; refine hq 7 rfl ?_; refine hq 8 rfl ?_; refine hq 9 rfl ?_; simp only [Act.put, uz]; refine wpAnyH_ready (rs := [4, 10]) (by kernel_rfl) (by simp) ?_; refine AllReadyH.cons rfl (fun K hK => ?_) (AllReadyH.cons rfl (fun K hK => ?_) AllReadyH.nil)
          · go_simp; refine hK.out _ _ trivial (fun hHeld => ?_); clear hK K; refine ha 10 (fun K hK => ?_) (ho := rfl); go_simp; refine hK.out _ _ trivial (fun hHeld => ?_); clear hK K; refine ha 11 (fun K hK => ?_) (ho := rfl); refine wanted_append rfl (.tmp 31) (.tmp 37) 60 60 rfl v' (.slice (some ⟨wr.heap.size, 0, none⟩) 1 1) rfl rfl (v' := .slice a2 n2 c2) (w' := w3) r1' ?_; refine hK.out _ _ trivial (fun hHeld => ?_); clear hK K; refine hq 12 rfl ?_; refine hq 13 rfl ?_; simp only [Act.put, uz]; refine ha 14 (fun K hK => ?_) (ho := rfl); go_simp; refine hK.out _ _ trivial (fun hHeld => ?_); clear hK K; refine hd_ ?_; clear hHeld; go_wp2_with fail; exact ⟨⟨j, .slice a2 n2 c2, by omega, rfl, HDD⟩, by simp only [intOf]; omega⟩
          · go_simp; refine hK.out _ _ trivial (fun hHeld => ?_); clear hK K; refine ha 4 (fun K hK => ?_) (ho := rfl); go_simp; refine hK.out _ _ trivial (fun hHeld => ?_); clear hK K; refine ha 11 (fun K hK => ?_) (ho := rfl); refine wanted_append rfl (.tmp 31) (.tmp 37) 60 60 rfl v' (.slice (some ⟨wr.heap.size, 0, none⟩) 1 1) rfl rfl (v' := .slice a2 n2 c2) (w' := w3) r1' ?_; refine hK.out _ _ trivial (fun hHeld => ?_); clear hK K; refine hq 12 rfl ?_; refine hq 13 rfl ?_; simp only [Act.put, uz]; refine ha 14 (fun K hK => ?_) (ho := rfl); go_simp; refine hK.out _ _ trivial (fun hHeld => ?_); clear hK K; refine hd_ ?_; clear hHeld; go_wp2_with fail; exact ⟨⟨j, .slice a2 n2 c2, by omega, rfl, HDD⟩, by simp only [intOf]; omega⟩
theorem fitsS_iff (i size : Int) (hi : -9223372036854775808 ≤ i ∧ i < 9223372036854775808) : (sized size ∧ sx (u64 i) size.toNat = u64 i) ↔ fitsS i size := by
  constructor
  · rintro ⟨h1, h2⟩; exact (sx_fits i size h1 hi).1 h2
  · intro h; exact ⟨h.1, (sx_fits i size h.1 hi).2 h⟩
theorem wnumber_signed (wb : Nat) (v : Value) (st : WS) (i : Int) (size : Int) (w : World) (h : WAt w wb v st) (hi : -9223372036854775808 ≤ i ∧ i < 9223372036854775808) (hl : (st.getD []).length ≤ 179999999999992) :
    Calls prog 188 #[.pointer (some ⟨wb, 0, none⟩), .agg #[fv 233], .int .u64 ((u64 i) : Nat), .int .i64 size] w fun e w' => e = .returned (.tuple #[]) ∧ ∃ v', WDid w w' wb v (wSig st i size) v' := by
  have HH : Kp (WAt w wb v st) := ⟨h⟩; have HL : Kp ((st.getD []).length ≤ 179999999999992) := ⟨hl⟩
  have HB : Kp (∀ W : World, CRt 213 #[.agg #[fv 233], .int .u64 ((u64 i) : Nat), .int .i64 size] W (.bool (decide (fitsS i size)))) := ⟨fun W => by
    have := holds_signed (u64 i) size W (u64_lt i)
    rwa [show decide (sized size ∧ sx (u64 i) size.toNat = (u64 i)) = decide (fitsS i size) from decide_eq_decide.2 (fitsS_iff i size hi)] at this⟩
  have HX : Kp ((u64 i) < 18446744073709551616) := ⟨u64_lt i⟩; have HF : Kp (¬ fitsS i size → wSig st i size = none) := ⟨fun q => by unfold wSig; rw [if_neg q]⟩; have HT : Kp (fitsS i size → wSig st i size = st.map (· ++ be size.toNat (u64 i))) := ⟨fun q => by unfold wSig; rw [if_pos q]⟩; have HZ : Kp (fitsS i size → 1 ≤ size ∧ size ≤ 8) := ⟨fun q => q.1⟩; obtain ⟨st2, hst2⟩ : ∃ q, wSig st i size = q := ⟨_, rfl⟩; obtain ⟨fit, hfit⟩ : ∃ q, (fitsS i size) = q := ⟨_, rfl⟩; obtain ⟨bo, hbo⟩ : ∃ q, decide (fitsS i size) = q := ⟨_, rfl⟩; have HBO : Kp (bo = true ↔ fit) := ⟨by rw [← hbo, ← hfit]; exact decide_eq_true_iff⟩; rw [hst2] at HF HT ⊢; rw [hbo] at HB; rw [hfit] at HF HT HZ; obtain ⟨x, hxx⟩ : ∃ x, u64 i = x := ⟨_, rfl⟩; rw [hxx] at HX HT HB ⊢; clear h hi hxx hl hst2 hfit hbo; go_enter func188, ntmps188; go_wp2_with fail; obtain ⟨w1, hw1⟩ : ∃ w1, w.alloc (.cells #[fv 233] 226) = w1 := ⟨_, rfl⟩; rw [hw1]; have HG : Kp (w.grownBy w1 none) := ⟨by rw [← hw1]; exact gAl _ _ _⟩; clear hw1; refine (HB.out w1).mono ?_; rintro e w2 ⟨rfl, g2⟩; have HG2 : Kp (w.grownBy w2 none) := ⟨HG.out.trans g2⟩; have HA2 : Kp (WAt w2 wb v st) := ⟨HH.out.kept HG2.out⟩; clear g2 HG HB HH; cases bo with
  | false =>
    have HN : Kp (st2 = none) := ⟨HF.out (fun q => by have := HBO.out.2 q; cases this)⟩; go_wp2_with fail; refine (wfail_c wb v st w2 HA2.out).mono ?_; rintro e w3 ⟨rfl, v3, d3⟩; have HD : Kp (WDid w w3 wb v none v3) := ⟨d3.ahead HG2.out⟩; have h1 : w3.cell? ⟨wb, 1, none⟩ = some (.int .i64 51) := d3.a.h.cellv 1 _ rfl; clear d3
    go_wp2
    refine bodyPost_ret (results_none rfl _ _ _) rfl ?_; exact ⟨rfl, v3, by rw [HN.out]; exact HD.out⟩
  | true =>
    have HFT : Kp fit := ⟨HBO.out.1 rfl⟩; cases st with
    | none =>
      have HN : Kp (st2 = none) := ⟨HT.out HFT.out⟩; have h1 : w2.cell? ⟨wb, 1, none⟩ = some (.int .i64 51) := HA2.out.h.cellv 1 _ rfl
      go_wp2
      refine bodyPost_ret (results_none rfl _ _ _) rfl ?_; exact ⟨rfl, v, by rw [HN.out]; exact (WDid.refl HA2.out).ahead HG2.out⟩
    | some l =>
      obtain ⟨n, rfl, hn1, hn8⟩ : ∃ n : Nat, size = n ∧ 1 ≤ n ∧ n ≤ 8 := ⟨size.toNat, by have := HZ.out HFT.out; omega, by have := HZ.out HFT.out; omega, by have := HZ.out HFT.out; omega⟩; have HN : Kp (st2 = some (l ++ be n x)) := ⟨by have := HT.out HFT.out; simpa using this⟩; have HLL : Kp (l.length ≤ 179999999999992) := ⟨HL.out⟩; have h1 : w2.cell? ⟨wb, 1, none⟩ = some (.int .i64 0) := HA2.out.h.cellv 1 _ rfl; clear HT HF HBO HZ HL
      go_wp2
      clear h1
      go_loopw [8] (fun t w' => ∃ (k : Nat) (v' : Value), k ≤ n ∧ t = .int .i64 ((k : Int) - 1) ∧ Kp (WDid w w' wb v (some (l ++ (be n x).take (n - k))) v')) (fun t _ => (intOf t + 1).toNat)
      case atStart => exact ⟨n, v, Nat.le_refl _, by simp, ⟨by rw [Nat.sub_self, List.take_zero, List.append_nil]; exact (WDid.refl HA2.out).ahead HG2.out⟩⟩
      case round =>
        obtain ⟨k, v', hk, rfl, HI⟩ := hrel; by_cases hk0 : k = 0
        · subst hk0
          have HE : Kp (WDid w wr wb v st2 v') := ⟨by
            have := HI.out; rw [Nat.sub_zero, List.take_of_length_le (by rw [be_len]; exact Nat.le_refl _), ← HN.out] at this
            exact this⟩
          clear HI
          go_wp2
          go_end0
          exact ⟨rfl, v', HE.out⟩
        · obtain ⟨j, rfl⟩ : ∃ j, k = j + 1 := ⟨k - 1, by omega⟩; (have hj : ((j + 1 : Nat) : Int) - 1 = (j : Int) := by omega); rw [hj]; (have hj8 : j < 8 := by omega); have hge : ((j : Int) ≥ 0) := by omega
          have hb : l.length + ((be n x).take (n - (j + 1))).length + 1 ≤ 180000000000000 := by
            have := HLL.out; rw [List.length_take, be_len]; omega
          obtain ⟨b, hbb⟩ : ∃ b, UInt8.ofNat (x / 256 ^ j) = b := ⟨_, rfl⟩; (have hsh : (b.toNat : Int) = (x / 256 ^ j % 256 : Nat) := by rw [← hbb, UInt8.toNat_ofNat']); have h0 : wr.cell? ⟨wb, 0, none⟩ = some v' := HI.out.a.h.cellv 0 _ rfl; obtain ⟨v2, w3, r1, r2, r3, r4⟩ := app_byte_w (HI.out.a.r.fr (S := fun _ => False) (Fr.ofNone (gr_drew wr none)) (fun _ _ e => e)) b (by simpa [Nat.add_assoc] using hb); have HD := (HI.out.a.kept (gr_drew wr none)).set r2 r3 r4; obtain ⟨a2, c2, hv2, _⟩ := Row.shape r2; obtain ⟨n2, hn2⟩ : ∃ q, ((some (l ++ List.take (n - (j + 1)) (be n x))).getD [] ++ [b]).length = q := ⟨_, rfl⟩; rw [hn2] at hv2; subst hv2; clear hn2; (have hw8 : IntKind.i64.wrap (8 * (j : Int)) = 8 * j := by rw [wi _ (by omega) (by omega)]); have hdg : decide ((j : Int) ≥ 0) = true := decide_eq_true hge; have hnn : ¬ (8 * (j : Int) < 0) := by omega
          have hs0 : IntKind.u8.wrap ((x : Int) / 2 ^ (8 * (j : Int)).toNat) = b.toNat := by
            rw [hsh, show (8 * (j : Int)).toNat = 8 * j by omega]; have e3 : ∀ q : Int, IntKind.u8.wrap q = q % 256 := fun q => rfl
            have e2 : (2 : Int) ^ (8 * j) = ((256 ^ j : Nat) : Int) := by
              rw [Int.pow_mul]; simp
            rw [e2, e3]; simp
          have r1' : (Builtin.append_ #[60, 60] 60 #[v', .slice (some ⟨wr.heap.size, 0, none⟩) 1 1]).run prog (wr.alloc (.cells #[.int .u8 b.toNat] 5)).drew = .ok (.slice a2 n2 c2) w3 := r1; have h0a : (wr.alloc (.cells #[.int .u8 b.toNat] 5)).cell? ⟨wb, 0, none⟩ = some v' := (HI.out.a.h.alloc _).cellv 0 _ rfl; clear r1; have f0 : w3.frozen? ⟨wb, 0, none⟩ = false := (show Has w3 wb [v', .int .i64 0] 198 from ((HI.out.a.kept (gr_drew wr none)).h.kept r3 (fun e => HI.out.a.ne e.symm))).frozen 0; have c0 : w3.cell? ⟨wb, 0, none⟩ = some v' := (show Has w3 wb [v', .int .i64 0] 198 from ((HI.out.a.kept (gr_drew wr none)).h.kept r3 (fun e => HI.out.a.ne e.symm))).cellv 0 _ rfl
          have HDD : Kp (WDid w (w3.setCell ⟨wb, 0, none⟩ (.slice a2 n2 c2)) wb v (some (l ++ (be n x).take (n - j))) (.slice a2 n2 c2)) := ⟨by
            rw [be_take n x j (by omega), hbb, ← List.append_assoc]
            exact (HI.out.grown (gr_drew wr none)).trans HD⟩
          (have hwj : IntKind.i64.wrap ((j : Int) - 1) = (j : Int) - 1 := by rw [wi _ (by omega) (by omega)]); clear HD r2 r3 r4 hsh hbb HI hb HX HN HLL HFT HA2 HG2 hj; go_wp2_with fail; refine wp_region_held_drew (S := fun _ => True) (by kernel_rfl) trivial (fun hHeld => ?_); refine hq 0 rfl ?_; refine hq 1 rfl ?_; refine hq 2 rfl ?_; refine hq 3 rfl ?_; refine hq 5 rfl ?_; refine hq 6 rfl ?_; refine hq 7 rfl ?_; refine hq 8 rfl ?_; refine hq 9 rfl ?_; simp only [Act.put, uz]; refine wpAnyH_ready (rs := [4, 10]) (by kernel_rfl) (by simp) ?_; refine AllReadyH.cons rfl (fun K hK => ?_) (AllReadyH.cons rfl (fun K hK => ?_) AllReadyH.nil)
          · go_simp; refine hK.out _ _ trivial (fun hHeld => ?_); clear hK K; refine ha 10 (fun K hK => ?_) (ho := rfl); go_simp; refine hK.out _ _ trivial (fun hHeld => ?_); clear hK K; refine ha 11 (fun K hK => ?_) (ho := rfl); refine wanted_append rfl (.tmp 31) (.tmp 37) 60 60 rfl v' (.slice (some ⟨wr.heap.size, 0, none⟩) 1 1) rfl rfl (v' := .slice a2 n2 c2) (w' := w3) r1' ?_; refine hK.out _ _ trivial (fun hHeld => ?_); clear hK K; refine hq 12 rfl ?_; refine hq 13 rfl ?_; simp only [Act.put, uz]; refine ha 14 (fun K hK => ?_) (ho := rfl); go_simp; refine hK.out _ _ trivial (fun hHeld => ?_); clear hK K; refine hd_ ?_; clear hHeld; go_wp2_with fail; exact ⟨⟨j, .slice a2 n2 c2, by omega, rfl, HDD⟩, by simp only [intOf]; omega⟩
          · go_simp; refine hK.out _ _ trivial (fun hHeld => ?_); clear hK K; refine ha 4 (fun K hK => ?_) (ho := rfl); go_simp; refine hK.out _ _ trivial (fun hHeld => ?_); clear hK K; refine ha 11 (fun K hK => ?_) (ho := rfl); refine wanted_append rfl (.tmp 31) (.tmp 37) 60 60 rfl v' (.slice (some ⟨wr.heap.size, 0, none⟩) 1 1) rfl rfl (v' := .slice a2 n2 c2) (w' := w3) r1' ?_; refine hK.out _ _ trivial (fun hHeld => ?_); clear hK K; refine hq 12 rfl ?_; refine hq 13 rfl ?_; simp only [Act.put, uz]; refine ha 14 (fun K hK => ?_) (ho := rfl); go_simp; refine hK.out _ _ trivial (fun hHeld => ?_); clear hK K; refine hd_ ?_; clear hHeld; go_wp2_with fail; exact ⟨⟨j, .slice a2 n2 c2, by omega, rfl, HDD⟩, by simp only [intOf]; omega⟩
theorem newW_c (w : World) :
    Calls prog 89 #[] w fun e w' => ∃ wb, e = .returned (.pointer (some ⟨wb, 0, none⟩)) ∧ WAt w' wb (.slice none 0 0) (some []) ∧ w.grownBy w' none ∧ wb = w.heap.size := by
  go_enter func89, ntmps89
  go_wp2
  go_ret; exact ⟨_, rfl, ⟨Has.newA w _ 198, row_nil _, by simp [Value.ownBlock]⟩, gAl _ _ _, rfl⟩
theorem wNumber_c (wb : Nat) (v : Value) (st : WS) (x : Nat) (size : Int) (w : World) (h : WAt w wb v st) (hx : x < 18446744073709551616) (hl : (st.getD []).length ≤ 179999999999992) :
    Calls prog 148 #[.pointer (some ⟨wb, 0, none⟩), .int .u64 x, .int .i64 size] w fun e w' => e = .returned (.tuple #[]) ∧ ∃ v', WDid w w' wb v (wNum st x size) v' := by
  have HH : Kp (WAt w wb v st ∧ x < 18446744073709551616 ∧ (st.getD []).length ≤ 179999999999992) := ⟨h, hx, hl⟩; clear h hx hl; go_enter func148, ntmps148; go_wp2_with fail; refine (plain_c w).mono ?_; rintro e w1 ⟨rfl, g1⟩; go_wp2_with fail; refine (wnumber_plain wb v st x size w1 (HH.out.1.kept g1) HH.out.2.1 HH.out.2.2).mono ?_; rintro e w2 ⟨rfl, v2, d2⟩; have HD : Kp (WDid w w2 wb v (wNum st x size) v2) := ⟨d2.ahead g1⟩; clear d2 g1 HH
  go_wp2
  go_end0
  exact ⟨rfl, v2, HD.out⟩
theorem wSigned_c (wb : Nat) (v : Value) (st : WS) (i : Int) (size : Int) (w : World) (h : WAt w wb v st) (hi : -9223372036854775808 ≤ i ∧ i < 9223372036854775808) (hl : (st.getD []).length ≤ 179999999999992) :
    Calls prog 193 #[.pointer (some ⟨wb, 0, none⟩), .int .i64 i, .int .i64 size] w fun e w' => e = .returned (.tuple #[]) ∧ ∃ v', WDid w w' wb v (wSig st i size) v' := by
  have HH : Kp (WAt w wb v st ∧ (-9223372036854775808 ≤ i ∧ i < 9223372036854775808) ∧ (st.getD []).length ≤ 179999999999992) := ⟨h, hi, hl⟩; clear h hi hl; go_enter func193, ntmps193; go_wp2_with fail; refine (signed_c w).mono ?_; rintro e w1 ⟨rfl, g1⟩; have HW : Kp (IntKind.u64.wrap i = (u64 i : Nat)) := ⟨by rw [wu]; unfold u64; omega⟩; go_wp2_with fail; rw [HW.out]; refine (wnumber_signed wb v st i size w1 (HH.out.1.kept g1) HH.out.2.1 HH.out.2.2).mono ?_; rintro e w2 ⟨rfl, v2, d2⟩; have HD : Kp (WDid w w2 wb v (wSig st i size) v2) := ⟨d2.ahead g1⟩; clear d2 g1 HH
  go_wp2
  go_end0
  exact ⟨rfl, v2, HD.out⟩
theorem wpList_append_run2 {P : Program} (w : World) {ops : Array Oper} {rest : List Oper} {o : Oper} {a : Act} {Q : Exit → Act → World → Prop} (hgd : o.guard = none) (s x : Operand) (t u : TypeId)
    (ho : o.op = .call { callee := .builtin .append, args := #[s, x], argTypes := #[t, u] }) (v y : Value) (hs : a.eval s = v) (hx : a.eval x = y) {v' : Value} {w' : World}
    (hr : (Builtin.append_ #[t, u] o.type #[v, y]).run P w = .ok v' w') (h : wpList P ops Q rest (a.put o.dst v') w') : wpList P ops Q (o :: rest) a w :=
  wpList_plain hgd fun _ hK => by
    unfold Oper.wp execOp; simp only [ho, resolve, invoke, builtin, Sem.run_bind, Sem.run_pure, Result.andThen_ok, List.map_toArray, List.map_cons, List.map_nil, hs, hx, hr]; exact hK _ _ h
theorem wBytesW_c (wb : Nat) (v : Value) (st : WS) (s : ByteArray) (w : World) (h : WAt w wb v st) (hl : (st.getD []).length + s.size ≤ 180000000000000) (hs8 : s.size ≤ 140737488355328) :
    Calls prog 126 #[.pointer (some ⟨wb, 0, none⟩), .string s] w fun e w' => e = .returned (.tuple #[]) ∧ ∃ v', WDid w w' wb v (wBytes st (sl s)) v' := by
  have HH : Kp (WAt w wb v st) := ⟨h⟩; cases st with
  | none =>
    have h1 : w.cell? ⟨wb, 1, none⟩ = some (.int .i64 51) := h.h.cellv 1 _ rfl; clear h; go_enter func126, ntmps126
    go_wp2
    go_end0
    exact ⟨rfl, v, WDid.refl HH.out⟩
  | some l =>
    have h1 : w.cell? ⟨wb, 1, none⟩ = some (.int .i64 0) := h.h.cellv 1 _ rfl; have h0 : w.cell? ⟨wb, 0, none⟩ = some v := h.h.cellv 0 _ rfl; obtain ⟨v2, w3, r1, r2, r3, r4⟩ := app_str_w h.r s hl hs8; have hs := h.set r2 r3 r4; have HR : Kp ((Builtin.append_ #[60, 9] 60 #[v, .string s]).run prog w = .ok v2 w3) := ⟨r1⟩; obtain ⟨a2, c2, hv2, _⟩ := Row.shape r2; obtain ⟨n2, hn2⟩ : ∃ q, ((some l).getD [] ++ sl s).length = q := ⟨_, rfl⟩; rw [hn2] at hv2; subst hv2; have HD : Kp (WDid w (w3.setCell ⟨wb, 0, none⟩ (.slice a2 n2 c2)) wb v (wBytes (some l) (sl s)) (.slice a2 n2 c2)) := ⟨hs⟩; have hh3 : Has w3 wb [v, .int .i64 0] 198 := (show Has w wb [v, .int .i64 0] 198 from h.h).kept r3 (fun e => h.ne e.symm); have c0 : w3.cell? ⟨wb, 0, none⟩ = some v := hh3.cellv 0 _ rfl; have f0 := hh3.frozen 0; clear hs r2 r3 r4 r1 h hl hn2 hh3 hs8; go_enter func126, ntmps126
    go_wp2_with (at_builtin; refine wpList_append_run2 _ rfl (.tmp 13) (.tmp 14) 60 9 rfl _ _ rfl rfl HR.out ?_)
    go_end0
    exact ⟨rfl, _, HD.out⟩
theorem wBytes_c (wb : Nat) (v : Value) (st : WS) (s : ByteArray) (w : World) (h : WAt w wb v st) (hl : (st.getD []).length + s.size ≤ 140737488355328) :
    Calls prog 126 #[.pointer (some ⟨wb, 0, none⟩), .string s] w fun e w' => e = .returned (.tuple #[]) ∧ ∃ v', WDid w w' wb v (wBytes st (sl s)) v' :=
  wBytesW_c wb v st s w h (by omega) (by omega)
theorem wNum_len (st : WS) (x : Nat) (size : Int) : ((wNum st x size).getD []).length ≤ (st.getD []).length + 8 := by
  unfold wNum; split
  · rename_i h; cases st with
    | none => simp
    | some l =>
      have := h.1.2; simp [be_len]; omega
  · simp
theorem wSig_len (st : WS) (x : Int) (size : Int) : ((wSig st x size).getD []).length ≤ (st.getD []).length + 8 := by
  unfold wSig; split
  · rename_i h; cases st with
    | none => simp
    | some l =>
      have := h.1.2; simp [be_len]; omega
  · simp
theorem wBytes_len (st : WS) (s : List UInt8) : ((wBytes st s).getD []).length ≤ (st.getD []).length + s.length := by
  cases st <;> simp [wBytes]
theorem wText_len (st : WS) (s : List UInt8) : ((wText st s).getD []).length ≤ (st.getD []).length + s.length + 1 := by
  unfold wText; split
  · cases st <;> simp; omega
  · simp
theorem wTextW_c (wb : Nat) (v : Value) (st : WS) (s : ByteArray) (w : World) (h : WAt w wb v st) (hl : (st.getD []).length + s.size ≤ 179999999999984) (hs8 : s.size ≤ 140737488355328) :
    Calls prog 142 #[.pointer (some ⟨wb, 0, none⟩), .string s] w fun e w' => e = .returned (.tuple #[]) ∧ ∃ v', WDid w w' wb v (wText st (sl s)) v' := by
  have HH : Kp (WAt w wb v st) := ⟨h⟩; have HL : Kp ((st.getD []).length + s.size ≤ 179999999999984 ∧ s.size ≤ 140737488355328) := ⟨hl, hs8⟩; have HW : Kp (IntKind.u64.wrap (s.size : Int) = (s.size : Nat)) := ⟨by rw [wu]; omega⟩; clear h hl hs8; go_enter func142, ntmps142; go_wp2_with fail
  try rw [HW.out]
  refine (wNumber_c wb v st s.size 1 w HH.out (by have := HL.out; omega) (by have := HL.out; omega)).mono ?_; rintro e w1 ⟨rfl, v1, d1⟩; have HD : Kp (WDid w w1 wb v (wNum st s.size 1) v1) := ⟨d1⟩; clear d1 HH; go_wp2_with fail; refine (wBytesW_c wb v1 _ s w1 HD.out.a (by have := HL.out; have := wNum_len st s.size 1; omega) HL.out.2).mono ?_; rintro e w2 ⟨rfl, v2, d2⟩
  have HE : Kp (WDid w w2 wb v (wText st (sl s)) v2) := ⟨by
    have := HD.out.trans d2; rw [← sl_len, wText_eq] at this
    exact this⟩
  clear d2 HD
  go_wp2
  go_end0
  exact ⟨rfl, v2, HE.out⟩
theorem wText_c (wb : Nat) (v : Value) (st : WS) (s : ByteArray) (w : World) (h : WAt w wb v st) (hl : (st.getD []).length + s.size ≤ 140737488355312) :
    Calls prog 142 #[.pointer (some ⟨wb, 0, none⟩), .string s] w fun e w' => e = .returned (.tuple #[]) ∧ ∃ v', WDid w w' wb v (wText st (sl s)) v' :=
  wTextW_c wb v st s w h (by omega) (by omega)
theorem cvt_cells (w : World) (a : Option Addr) (c : Nat) (q : List UInt8) (h0 : a = none → q = []) (hc : ∀ ad, a = some ad → ∀ j x, q[j]? = some x → w.cell? (ad.add j) = some (bv x)) : (convert 60 9 (.slice a q.length c)).run prog w = .ok (.string ⟨q.toArray⟩) w := by
  cases a with
  | none =>
    obtain rfl := h0 rfl; rw [List.length_nil, run_convert_bytes_string w 60 9 5 none 0 c under53 under5 under9]; simp [Conv.bytesToString]; rfl
  | some ad => exact run_convert_bytes_back (P := prog) w 60 9 5 ad c q under53 under5 under9 (fun j hj => hc ad rfl j _ (List.getElem?_eq_getElem hj))
theorem cvt_row {w : World} {v : Value} {xs : List UInt8} (h : Row w v xs) : (convert 60 9 v).run prog w = .ok (.string ⟨xs.toArray⟩) w := by
  obtain ⟨a, c, rfl, h0, hc⟩ := h.shape; exact cvt_cells w a c xs h0 hc
def werr (st : WS) : Int := if st = none then 51 else 0
theorem wDone_c (wb : Nat) (v : Value) (st : WS) (w : World) (h : WAt w wb v st) :
    CRt 92 #[.pointer (some ⟨wb, 0, none⟩)] w (.tuple #[.string ⟨(st.getD []).toArray⟩, .int .i64 (werr st)]) := by
  have h0 : w.cell? ⟨wb, 0, none⟩ = some v := h.h.cellv 0 _ rfl; have h1 : w.cell? ⟨wb, 1, none⟩ = some (.int .i64 (werr st)) := h.h.cellv 1 _ rfl; have hc : ∀ k, (convert 60 9 v).run prog (w.drewN k) = .ok (.string ⟨(st.getD []).toArray⟩) (w.drewN k) := fun k => cvt_row (h.kept (gr_drewN w k none)).r
  obtain ⟨a, c, hv, _⟩ := h.r.shape; obtain ⟨n, hn⟩ : ∃ n, (st.getD []).length = n := ⟨_, rfl⟩; rw [hn] at hv; subst hv; clear h hn; generalize (⟨(st.getD []).toArray⟩ : ByteArray) = s at *; generalize werr st = er at *; go_enter func92, ntmps92; go_wp2_with fail; go_quiet (fail)
  go_wp2
  go_ret2; exact ⟨rfl, gr_drewN _ _ _⟩
structure Bs (w : World) (B : Nat) (a : Option Addr) (n c : Nat) (q : List UInt8) : Prop where
  len : q.length = n
  cap : n ≤ c
  nil : a = none → q = []
  at_ : 0 < n → ∃ o, a = some ⟨B, o, none⟩ ∧ ∀ j x, q[j]? = some x → w.cell? ⟨B, o + j, none⟩ = some (bv x)
theorem Bs.fr {S : Nat → Prop} {w w' : World} {B : Nat} {a : Option Addr} {n c : Nat} {q : List UInt8} (h : Bs w B a n c q) (f : Fr S w w') (hs : ¬ S B) : Bs w' B a n c q := by
  refine ⟨h.len, h.cap, h.nil, fun hn => ?_⟩; obtain ⟨o, e, h3⟩ := h.at_ hn; refine ⟨o, e, fun j x hx => ?_⟩; have h4 := h3 j x hx; have hb : B < w.heap.size := World.block_lt_of_cell? w _ h4; rw [← h4]; simp only [World.cell?]; rw [f.block B hb hs]
theorem Bs.cvt {w : World} {B : Nat} {a : Option Addr} {n c : Nat} {q : List UInt8} (h : Bs w B a n c q) : (convert 60 9 (.slice a n c)).run prog w = .ok (.string ⟨q.toArray⟩) w := by
  have := cvt_cells w a c q h.nil (fun ad e j x hx => by
    have hn : 0 < n := by rw [← h.len]; have := (List.getElem?_eq_some_iff.1 hx).1; omega
    obtain ⟨o, e2, h3⟩ := h.at_ hn; rw [e] at e2; obtain rfl := Option.some.inj e2
    rw [Addr.add_mid]; exact h3 j x hx)
  rwa [h.len] at this
theorem Bs.none (w : World) (B : Nat) : Bs w B .none 0 0 [] := ⟨rfl, Nat.le_refl _, fun _ => rfl, fun h => by omega⟩
theorem add_zero' (a : Addr) : a.add 0 = a := by
  unfold Addr.add; split <;> simp_all
theorem sl_h (a : Option Addr) (n c p : Nat) (hp : p ≤ c) (W : World) : (Instr.slice 60 (.slice a n c) none (some (.int .i64 (p : Int))) none).run prog W = .ok (.slice a p c) W := by
  have z : (sizeOf (prog.elem 60)).run prog W = .ok 1 W := by kernel_rfl
  rw [run_slice_h W 60 a n c (by kernel_rfl) .i64 p (by omega) (by omega), z]; have e : a.map (·.add (0 * 1)) = a := by cases a <;> simp [add_zero']
  simp only [Result.andThen, sliced, e, Int.toNat_natCast, Nat.sub_zero, ite_self]
theorem sl_l (B : Nat) (a : Option Addr) (n c p : Nat) (hp : p ≤ n) (hc : n ≤ c) : ∃ A1, (∀ W : World, (Instr.slice 60 (.slice a n c) (some (.int .i64 (p : Int))) none none).run prog W = .ok (.slice A1 (n - p) (c - p)) W) ∧ ∀ (w : World) (q : List UInt8), Bs w B a n c q → Bs w B A1 (n - p) (c - p) (q.drop p) := by
  refine ⟨if c = p then a else a.map (·.add (p * 1)), fun W => ?_, fun w q h => ⟨by rw [List.length_drop, h.len], by omega, fun e => ?_, fun hn => ?_⟩⟩
  · (have z : (sizeOf (prog.elem 60)).run prog W = .ok 1 W := by kernel_rfl); rw [run_slice_l W 60 a n c (by kernel_rfl) .i64 p (by omega) (by omega), z]; simp only [Result.andThen, sliced, Int.toNat_natCast]
  · have : a = none := by
      split at e
      · exact e
      · cases a <;> simp_all
    rw [h.nil this]; simp
  · obtain ⟨o, rfl, h3⟩ := h.at_ (by omega); rw [if_neg (by omega)]; refine ⟨o + p, by simp [Addr.add_mid], fun j x hx => ?_⟩; rw [List.getElem?_drop] at hx; rw [Nat.add_assoc]; exact h3 _ _ hx
theorem Bs.take {w : World} {B : Nat} {a : Option Addr} {n c p : Nat} {q : List UInt8} (h : Bs w B a n c q) (hp : p ≤ n) : Bs w B a p c (q.take p) := by
  refine ⟨by rw [List.length_take, h.len]; omega, by have := h.cap; omega, fun e => by rw [h.nil e]; simp, fun hn => ?_⟩; obtain ⟨o, e, h3⟩ := h.at_ (by omega); refine ⟨o, e, fun j x hx => ?_⟩; rw [List.getElem?_take] at hx; split at hx
  · exact h3 j x hx
  · cases hx
structure RAt (w : World) (rb B : Nat) (st : RS) : Prop where
  h : ∃ a c, Has w rb [.slice a st.1.length c, .int .i64 st.2] 204 ∧ Bs w B a st.1.length c st.1
  ne : rb ≠ B
  lt : B < w.heap.size
  ok : st.ok
structure RDid (w w' : World) (rb B : Nat) (st : RS) : Prop where
  a : RAt w' rb B st
  f : Fr (fun i => i = rb) w w'
theorem RAt.fr {S : Nat → Prop} {w w' : World} {rb B : Nat} {st : RS} (h : RAt w rb B st) (f : Fr S w w') (hs : ¬ S rb) (hs2 : ¬ S B) : RAt w' rb B st := by
  obtain ⟨⟨a, c, h1, h2⟩, h3, h4, h5⟩ := h; exact ⟨⟨a, c, h1.fr f hs, h2.fr f hs2⟩, h3, Nat.lt_of_lt_of_le h4 f.size, h5⟩
theorem RAt.kept {w w' : World} {rb B : Nat} {st : RS} (h : RAt w rb B st) (hg : w.grownBy w' none) : RAt w' rb B st :=
  h.fr (S := fun _ => False) (Fr.ofNone hg) (fun e => e) (fun e => e)
theorem RDid.trans {w w1 w2 : World} {rb B : Nat} {st st2 : RS} (h : RDid w w1 rb B st) (k : RDid w1 w2 rb B st2) : RDid w w2 rb B st2 := ⟨k.a, h.f.trans k.f⟩
theorem RDid.grown {w w1 w2 : World} {rb B : Nat} {st : RS} (h : RDid w w1 rb B st) (hg : w1.grownBy w2 none) : RDid w w2 rb B st := ⟨h.a.kept hg, h.f.trans (Fr.ofNone hg)⟩
theorem RDid.ahead {w w1 w2 : World} {rb B : Nat} {st : RS} (hg : w.grownBy w1 none) (h : RDid w1 w2 rb B st) : RDid w w2 rb B st := ⟨h.a, (Fr.ofNone hg).trans h.f⟩
theorem rfail_c (rb B : Nat) (st : RS) (e : Int) (w : World) (h : RAt w rb B st) :
    Calls prog 230 #[.pointer (some ⟨rb, 0, none⟩), .int .i64 e] w fun en w' => en = .returned (.tuple #[]) ∧ RDid w w' rb B (st.fail e) := by
  obtain ⟨⟨a, c, h1, h2⟩, h3, h4, h5⟩ := h; obtain ⟨l, er⟩ := st; have HH : Kp (Has w rb [.slice a l.length c, .int .i64 er] 204 ∧ rb ≠ B ∧ B < w.heap.size) := ⟨h1, h3, h4⟩; have c0 : w.cell? ⟨rb, 0, none⟩ = some (.slice a l.length c) := h1.cellv 0 _ rfl; have c1 : w.cell? ⟨rb, 1, none⟩ = some (.int .i64 er) := h1.cellv 1 _ rfl; have f0 := h1.frozen 0; have f1 := h1.frozen 1; clear h1 h2 h3 h4 h5; generalize l.length = n at *; go_enter func230, ntmps230; by_cases he : er = 0
  · subst he
    go_wp2
    go_end0
    have f2 : Fr (fun i => i = rb) w _ := (Fr.ofSome (S := fun i => i = rb) (gr_set w rb 1 (.int .i64 e)) rfl).trans (Fr.ofSome (S := fun i => i = rb) (gr_set _ rb 0 (.slice none 0 0)) rfl); exact ⟨rfl, ⟨⟨none, 0, (HH.out.1.setCell 1 _).setCell 0 _, Bs.none _ _⟩, HH.out.2.1, Nat.lt_of_lt_of_le HH.out.2.2 f2.size, fail_ok _ _⟩, f2⟩
  · go_wp2
    go_end0
    have f2 : Fr (fun i => i = rb) w _ := (Fr.ofSome (S := fun i => i = rb) (gr_set w rb 0 (.slice none 0 0)) rfl); (have e2 : RS.fail (l, er) e = ([], er) := by unfold RS.fail; rw [if_neg he]); rw [e2]; exact ⟨rfl, ⟨⟨none, 0, HH.out.1.setCell 0 _, Bs.none _ _⟩, HH.out.2.1, Nat.lt_of_lt_of_le HH.out.2.2 f2.size, fun _ => rfl⟩, f2⟩
theorem rtake_c (rb B : Nat) (st : RS) (n : Int) (w : World) (h : RAt w rb B st) :
    Calls prog 211 #[.pointer (some ⟨rb, 0, none⟩), .int .i64 n] w fun en w' => ∃ a c, en = .returned (.slice a (rTake st n).1.length c) ∧ Bs w' B a (rTake st n).1.length c (rTake st n).1 ∧ RDid w w' rb B (rTake st n).2 := by
  have HH : Kp (RAt w rb B st) := ⟨h⟩; obtain ⟨⟨a, c, h1, h2⟩, h3, h4, h5⟩ := h; obtain ⟨l, er⟩ := st; have c0 : w.cell? ⟨rb, 0, none⟩ = some (.slice a l.length c) := h1.cellv 0 _ rfl; have f0 := h1.frozen 0; have HB : Kp (Has w rb [.slice a l.length c, .int .i64 er] 204 ∧ Bs w B a l.length c l ∧ rb ≠ B ∧ B < w.heap.size ∧ RS.ok (l, er)) := ⟨h1, h2, h3, h4, h5⟩; clear h1 h2 h3 h4 h5; go_enter func211, ntmps211; by_cases hn : n < 0
  · have HE : Kp (rTake (l, er) n = ([], RS.fail (l, er) 51)) := ⟨by unfold rTake; rw [if_pos hn]⟩; go_wp2_with fail; refine (rfail_c rb B _ 51 w HH.out).mono ?_; rintro e w1 ⟨rfl, d1⟩; have HD : Kp (RDid w w1 rb B (RS.fail (l, er) 51)) := ⟨d1⟩; clear d1
    go_wp2
    go_ret; rw [HE.out]; exact ⟨none, 0, rfl, Bs.none _ _, HD.out⟩
  · by_cases hl : (l.length : Int) < n
    · have HE : Kp (rTake (l, er) n = ([], RS.fail (l, er) 50)) := ⟨by unfold rTake; rw [if_neg hn, if_pos hl]⟩; go_wp2_with fail; refine (rfail_c rb B _ 50 w HH.out).mono ?_; rintro e w1 ⟨rfl, d1⟩; have HD : Kp (RDid w w1 rb B (RS.fail (l, er) 50)) := ⟨d1⟩; clear d1
      go_wp2
      go_ret; rw [HE.out]; exact ⟨none, 0, rfl, Bs.none _ _, HD.out⟩
    · obtain ⟨k, rfl⟩ : ∃ k : Nat, n = k := ⟨n.toNat, by omega⟩; (have hk : k ≤ l.length := by omega); have HE : Kp (rTake (l, er) k = (l.take k, (l.drop k, er))) := ⟨by unfold rTake; rw [if_neg hn, if_neg hl]; rfl⟩; have s1 := sl_h a l.length c k (by have := HB.out.2.1.cap; omega); obtain ⟨A1, s2, s3⟩ := sl_l B a l.length c k hk HB.out.2.1.cap; have HS : Kp (∀ (w : World) (q : List UInt8), Bs w B a l.length c q → Bs w B A1 (l.length - k) (c - k) (q.drop k)) := ⟨s3⟩; have HK : Kp (k ≤ l.length) := ⟨hk⟩; clear s3; generalize hln : l.length = ln at *; have HL : Kp (l.length = ln) := ⟨hln⟩; clear hln; have hlt : ¬ ((ln : Int) < (k : Int)) := hl; clear hl hk; go_wp2_with fail; go_ret; have f2 : Fr (fun i => i = rb) w _ := Fr.ofSome (S := fun i => i = rb) (gr_set w rb 0 (.slice A1 (ln - k) (c - k))) rfl; have e1 : (l.take k).length = k := by rw [List.length_take, HL.out]; have := HK.out; omega
      (have e2 : (l.drop k).length = ln - k := by rw [List.length_drop, HL.out]); obtain ⟨q1, q2, q3, q4, q5⟩ := HB.out; (have hs : ¬ B = rb := fun e => q3 e.symm); rw [HE.out]; simp only [e1]; refine ⟨a, c, rfl, (q2.take HK.out).fr f2 hs, ⟨⟨A1, c - k, ?_, ?_⟩, q3, Nat.lt_of_lt_of_le q4 f2.size, ?_⟩, f2⟩
      · simp only [e2]; exact q1.setCell 0 _
      · simp only [e2]; exact (HS.out _ _ q2).fr f2 hs
      · intro e; have : l = [] := q5 e; simp [this]
end Go.Proofs.YtldnpebnpbahjaaGreatDoor.Pk
