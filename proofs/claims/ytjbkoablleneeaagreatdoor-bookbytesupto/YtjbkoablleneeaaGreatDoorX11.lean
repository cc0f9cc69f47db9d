import Derived.Test.YtjbkoablleneeaaGreatDoorX9
import Derived.Test.YtjbkoablleneeaaGreatDoorX10
import Derived.Test.YtjbkoablleneeaaGreatDoorX8
/- strings: parts of them; the prefix; the reference's big, number, cut -/
namespace Go.Proofs.YtjbkoablleneeaaGreatDoor.Pk
open Go Go.RowKit

abbrev ba (l : List UInt8) : ByteArray := ⟨l.toArray⟩
theorem ba_sl (s : ByteArray) : ba (sl s) = s := sl_back s
theorem ba_size (l : List UInt8) : (ba l).size = l.length := by rw [← sl_len, sl_mk]
theorem ba_inj {a b : List UInt8} (h : ba a = ba b) : a = b := by have := congrArg sl h; rwa [sl_mk, sl_mk] at this
theorem sl_ext (s : ByteArray) (a b : Nat) : sl (s.extract a b) = ((sl s).take b).drop a := by
  simp [sl, ByteArray.data_extract, List.extract_eq_take_drop, List.drop_take]
theorem ext_sl (L : ByteArray) (a b : Nat) : L.extract a b = ba (((sl L).take b).drop a) := by rw [← sl_ext, ba_sl]
theorem ext_ba (l : List UInt8) (a b : Nat) : (ba l).extract a b = ba ((l.take b).drop a) := by
  apply sl_inj; rw [sl_ext, sl_mk, sl_mk]
theorem app_ba (a b : List UInt8) : ba a ++ ba b = ba (a ++ b) := by
  apply sl_inj; rw [sl_app, sl_mk, sl_mk, sl_mk]
theorem u9 : Tryz.prog.underlying 9 = some .string := by kernel_rfl
theorem cut_h (l : List UInt8) (n : Nat) (hn : n ≤ l.length) (W : World) : (Instr.slice 9 (.string (ba l)) none (some (.int .i64 (n : Int))) none).run Tryz.prog W = .ok (.string (ba (l.take n))) W := by
  rw [run_slice_string_h W 9 _ u9 .i64 (n : Int) (by omega) (by rw [ba_size]; omega), ext_ba, List.drop_zero, Int.toNat_natCast]
theorem cut_l (l : List UInt8) (n : Nat) (hn : n ≤ l.length) (W : World) : (Instr.slice 9 (.string (ba l)) (some (.int .i64 (n : Int))) none none).run Tryz.prog W = .ok (.string (ba (l.drop n))) W := by
  rw [run_slice_string_l W 9 _ u9 .i64 (n : Int) (by omega) (by rw [ba_size]; omega), ext_ba, ba_size, List.take_length, Int.toNat_natCast]
theorem cut_m (l : List UInt8) (i n : Nat) (hn : i + n ≤ l.length) (W : World) : (Instr.slice 9 (.string (ba l)) (some (.int .i64 (i : Int))) (some (.int .i64 ((i : Int) + (n : Int)))) none).run Tryz.prog W = .ok (.string (ba ((l.drop i).take n))) W := by
  rw [run_slice_string_if W 9 _ .i64 .i64 i ((i : Int) + n) u9, if_pos ⟨by omega, by rw [ba_size]; omega⟩, if_pos ⟨by omega, by omega⟩, ext_ba, Int.toNat_natCast, show ((i : Int) + (n : Int)).toNat = i + n by omega, List.drop_take]
  congr 4
  omega
theorem eqS (a b : List UInt8) : ((ba a).toList == (ba b).toList) = decide (a = b) := by
  rw [beqL, show Go.Proofs.YtjbkoablleneeaaGreatDoor.sl (ba a) = a from sl_mk a, show Go.Proofs.YtjbkoablleneeaaGreatDoor.sl (ba b) = b from sl_mk b]
theorem addB (a b : List UInt8) (h : a.length + b.length ≤ 9223372036854775807) (W : World) : (Op.stringOp .add (ba a) (ba b)).run Tryz.prog W = .ok (.string (ba (a ++ b))) W := by
  rw [addS _ _ (by rw [ba_size, ba_size]; exact h), app_ba]
def mgB : ByteArray := { data := #[74, 66, 48, 49] }
set_option maxRecDepth 100000 in
set_option maxHeartbeats 4000000 in
theorem hasPrefix_c (L P : ByteArray) (w : World) :
    Calls Tryz.prog 105 #[.string L, .string P] w fun e w' => e = .returned (.bool (decide ((sl L).take P.size = sl P))) ∧ w' = w := by
  by_cases h : P.size ≤ L.size
  · have hd : decide ((P.size : Int) ≤ (L.size : Int)) = true := decide_eq_true (by omega)
    go_enter Tryz.func105, Tryz.ntmps105
    go_wp2
    go_ret
    refine ⟨?_, rfl⟩
    show Ending.returned (.bool ((L.extract 0 P.size).toList == P.toList)) = _
    rw [ext_sl, List.drop_zero, show P.toList = (ba (sl P)).toList by rw [ba_sl], eqS]
  · have hb : decide ((sl L).take P.size = sl P) = false := decide_eq_false (fun e => h (by have := congrArg List.length e; rw [List.length_take, sl_len, sl_len] at this; omega))
    have hd : decide ((P.size : Int) ≤ (L.size : Int)) = false := decide_eq_false (by omega)
    rw [hb]
    clear hb
    go_enter Tryz.func105, Tryz.ntmps105
    go_wp2
    go_ret
    exact ⟨rfl, rfl⟩
set_option maxRecDepth 100000 in
set_option maxHeartbeats 4000000 in
theorem strPrefix_c (L P : ByteArray) (w : World) :
    Calls Tryz.prog 110 #[.string L, .string P] w fun e w' => e = .returned (.bool (decide ((sl L).take P.size = sl P))) ∧ w' = w := by
  have HC := Keep.mk (hasPrefix_c L P w)
  generalize decide ((sl L).take P.size = sl P) = bb at HC ⊢
  go_enter Tryz.func110, Tryz.ntmps110
  go_wp2_with (go_at_call 105; refine HC.out.mono ?_; rintro e w1 ⟨rfl, rfl⟩)
  go_ret
  exact ⟨rfl, rfl⟩
set_option maxRecDepth 100000 in
set_option maxHeartbeats 4000000 in
theorem cutPrefix_c (L P : ByteArray) (w : World) :
    Calls Tryz.prog 64 #[.string L, .string P] w fun e w' => e = .returned (.tuple #[.string (if (sl L).take P.size = sl P then ba ((sl L).drop P.size) else L), .bool (decide ((sl L).take P.size = sl P))]) ∧ w' = w := by
  have HC := Keep.mk (hasPrefix_c L P w)
  by_cases h : (sl L).take P.size = sl P
  · rw [if_pos h, decide_eq_true h]
    rw [decide_eq_true h] at HC
    have hl : P.size ≤ L.size := by have := congrArg List.length h; rw [List.length_take, sl_len, sl_len] at this; omega
    have he : L.extract P.size L.size = ba ((sl L).drop P.size) := by rw [ext_sl, ← sl_len L, List.take_length]
    clear h
    go_enter Tryz.func64, Tryz.ntmps64
    go_wp2_with (go_at_call 105; refine HC.out.mono ?_; rintro e w1 ⟨rfl, rfl⟩)
    go_ret2
    exact ⟨rfl, rfl⟩
  · rw [if_neg h, decide_eq_false h]
    rw [decide_eq_false h] at HC
    clear h
    go_enter Tryz.func64, Tryz.ntmps64
    go_wp2_with (go_at_call 105; refine HC.out.mono ?_; rintro e w1 ⟨rfl, rfl⟩)
    go_ret2
    exact ⟨rfl, rfl⟩
set_option maxRecDepth 100000 in
set_option maxHeartbeats 4000000 in
theorem strCut_c (L P : ByteArray) (w : World) :
    Calls Tryz.prog 36 #[.string L, .string P] w fun e w' => e = .returned (.tuple #[.string (if (sl L).take P.size = sl P then ba ((sl L).drop P.size) else L), .bool (decide ((sl L).take P.size = sl P))]) ∧ w' = w := by
  have HC := Keep.mk (cutPrefix_c L P w)
  generalize decide ((sl L).take P.size = sl P) = bb at HC ⊢
  generalize (if (sl L).take P.size = sl P then ba ((sl L).drop P.size) else L) = X at HC ⊢
  go_enter Tryz.func36, Tryz.ntmps36
  go_wp2_with (go_at_call 64; refine HC.out.mono ?_; rintro e w1 ⟨rfl, rfl⟩)
  go_ret2
  exact ⟨rfl, rfl⟩
/-- big's bytes: the last j laid, zeros ahead -/
def bR (k x j : Nat) : List UInt8 := List.replicate (k - j) 0 ++ (be k x).drop (k - j)
theorem bR_len (k x j : Nat) (hj : j ≤ k) : (bR k x j).length = k := by
  simp only [bR, List.length_append, List.length_replicate, List.length_drop, be_len]; omega
theorem bR_step (k x j : Nat) (hj : j < k) : (bR k x j).set (k - 1 - j) (UInt8.ofNat (x / 256 ^ j)) = bR k x (j + 1) := by
  unfold bR
  have e1 : k - j = (k - 1 - j) + 1 := by omega
  have e2 : k - (j + 1) = k - 1 - j := by omega
  have h := be_at k x j hj
  rw [e2, e1, List.replicate_succ', List.append_assoc, List.set_append_right _ _ (by simp), List.length_replicate, Nat.sub_self, List.singleton_append, List.set_cons_zero]
  congr 1
  obtain ⟨hl, hv⟩ := List.getElem?_eq_some_iff.1 h
  rw [← hv]
  exact (List.drop_eq_getElem_cons hl).symm
structure BG (w w' : World) (k x j : Nat) : Prop where
  r : Has w' w.heap.size ((bR k x j).map bv) 5
  g : w.grownBy w' none
set_option maxRecDepth 100000 in
set_option maxHeartbeats 4000000 in
theorem big_c (x k : Nat) (w : World) (_hx : x < 18446744073709551616) (hk : 1 ≤ k) (hk8 : k ≤ 8) :
    Calls Tryz.prog 34 #[.int .u64 x, .int .i64 k] w fun e w' => e = .returned (.string (ba (be k x))) ∧ w.grownBy w' none := by
  have hmk := make28 k (by omega)
  have HZ : Keep (∀ W : World, Has (W.alloc (.cells ((List.replicate k (0 : UInt8)).map bv).toArray 5)) W.heap.size ((List.replicate k (0 : UInt8)).map bv) 5) := ⟨fun W => Has.new _ _ _⟩
  generalize ((List.replicate k (0 : UInt8)).map bv).toArray = Z at hmk HZ
  go_enter Tryz.func34, Tryz.ntmps34
  go_wp2_with fail
  go_loopw [6] (fun t w' => ∃ j : Nat, j ≤ k ∧ t = .int .i64 j ∧ Keep (BG w w' k x j)) (fun t _ => k - (intOf t).toNat)
  case atStart => exact ⟨0, by omega, rfl, ⟨by have := HZ.out w; rw [bR, Nat.sub_zero, List.drop_of_length_le (by rw [be_len]; exact Nat.le_refl _), List.append_nil]; exact this, World.grownBy_alloc _ _ _⟩⟩
  case round =>
    obtain ⟨j, hj, rfl, hrel⟩ := hrel
    by_cases hlj : j < k
    · obtain ⟨b, hbb⟩ : ∃ b, UInt8.ofNat (x / 256 ^ j) = b := ⟨_, rfl⟩
      have hs0 : (x : Int) / 2 ^ (8 * j) % 256 = b.toNat := by
        rw [← hbb, UInt8.toNat_ofNat']
        have e2 : (2 : Int) ^ (8 * j) = ((256 ^ j : Nat) : Int) := by
          rw [Int.pow_mul]; simp
        rw [e2]
        simp
      have hf := hrel.out.r.frozen (k - 1 - j)
      obtain ⟨y0, hc⟩ : ∃ y, wr.cell? ⟨w.heap.size, k - 1 - j, none⟩ = some y := Option.isSome_iff_exists.1 (hrel.out.r.there (k - 1 - j) 1 (by rw [List.length_map, bR_len k x j hj]; omega) 0 (by decide)).1
      have H2 : Keep (BG w (wr.setCell ⟨w.heap.size, k - 1 - j, none⟩ (.int .u8 b.toNat)) k x (j + 1)) := ⟨by
        have := hrel.out.r.setCell (k - 1 - j) (bv b)
        rw [← List.map_set, ← hbb, bR_step k x j hlj] at this
        rw [← hbb]
        exact this, gr_new hrel.out.g (gr_set _ _ _ _) (Nat.le_refl _)⟩
      clear hrel hbb
      go_wp2
      refine ⟨⟨j + 1, by omega, by go_num, H2⟩, ?_⟩
      simp only [intOf]; omega
    · obtain rfl : j = k := by omega
      have hcv := cvt_cells wr (some ⟨w.heap.size, 0, none⟩) j (be j x) (fun e => by cases e) (fun ad e m z hz => by
        obtain rfl := Option.some.inj e
        rw [Addr.add_mid, Nat.zero_add]
        have h := hrel.out.r
        rw [bR, Nat.sub_self, List.replicate_zero, List.nil_append, List.drop_zero] at h
        exact h.cellv m _ (by rw [List.getElem?_map, hz]; rfl))
      rw [be_len] at hcv
      have H9 : Keep (w.grownBy wr none) := ⟨hrel.out.g⟩
      have hlt : decide ((j : Int) < (j : Int)) = false := decide_eq_false (by omega)
      clear hrel
      go_wp2
      go_ret
      exact ⟨rfl, H9.out⟩
end Go.Proofs.YtjbkoablleneeaaGreatDoor.Pk

