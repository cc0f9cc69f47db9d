/- the reference: Tag, Length -/
import Derived.Test.YtbmnlhmelbhjeaaDoorMaR1
namespace Go.Proofs.YtbmnlhmelbhjeaaDoor
open Go Go.RowKit

set_option maxRecDepth 100000 in
set_option maxHeartbeats 4000000 in
theorem rtag_any (key text : ByteArray) (w : World) (hk : RK w) (h3 : 3 ≤ w.heap.size) (h1 : key.size ≤ 2147483648) (h2 : text.size ≤ 2147483648) :
    Calls Tryd.prog 42 #[.string key, .string text] w fun e w' => e = .returned (.string (hmacB key text)) ∧ w.grownBy w' none := by
  have HK : Keep (RK w) := ⟨hk⟩
  clear hk
  obtain ⟨K, hK⟩ : ∃ K, Mac.keyOf (sl key) = K := ⟨_, rfl⟩
  obtain ⟨ib, hib⟩ : ∃ x, ByteArray.mk (Mac.kx 54 K).toArray = x := ⟨_, rfl⟩
  obtain ⟨ob, hob⟩ : ∃ x, ByteArray.mk (Mac.kx 92 K).toArray = x := ⟨_, rfl⟩
  have hKl : K.length = 64 := by rw [← hK]; exact Mac.keyOf_len _
  have sib : ib.size = 64 := by rw [← hib, ← sl_len, sl_mk (Mac.kx 54 K), Mac.kx_len, hKl]
  have sob : ob.size = 64 := by rw [← hob, ← sl_len, sl_mk (Mac.kx 92 K), Mac.kx_len, hKl]
  have hai := addS ib text (by omega)
  have hao := addS ob (shaB (ib ++ text)) (by rw [shaB_size]; omega)
  have zit : (ib ++ text).size ≤ 4294967296 := by rw [ByteArray.size_append]; omega
  have zot : (ob ++ shaB (ib ++ text)).size ≤ 4294967296 := by rw [ByteArray.size_append, shaB_size]; omega
  have HEQ : Keep (shaB (ob ++ shaB (ib ++ text)) = hmacB key text) := ⟨hmac_eq key text K ib ob hK hib hob⟩
  generalize ht1 : ib ++ text = t1 at hai hao zit zot HEQ
  generalize ht2 : shaB t1 = t2 at hao zot HEQ
  have HT2 : Keep (shaB t1 = t2) := ⟨ht2⟩
  generalize ht3 : ob ++ t2 = t3 at hao zot HEQ
  have HQ : Keep (ByteArray.mk (Mac.kx 54 (Mac.keyOf (sl key))).toArray = ib ∧ ByteArray.mk (Mac.kx 92 (Mac.keyOf (sl key))).toArray = ob) := ⟨by rw [hK]; exact ⟨hib, hob⟩⟩
  clear ht1 ht2 ht3 hK hib hob
  go_enter Tryd.func42, Tryd.ntmps42
  go_wp2_with fail
  refine (block_any key 92 _ HK.out h3 (by omega)).mono ?_
  rintro e w1 ⟨rfl, g1⟩
  rw [HQ.out.2]
  have H1 : Keep (w.grownBy w1 none) := ⟨g1⟩
  clear g1
  go_wp2_with fail
  refine (block_any key 54 _ (HK.out.kept H1.out) (Nat.le_trans h3 H1.out.size) (by omega)).mono ?_
  rintro e w2 ⟨rfl, g2⟩
  rw [HQ.out.1]
  have H2 : Keep (w.grownBy w2 none) := ⟨H1.out.trans g2⟩
  clear g2
  go_wp2_with fail
  refine (rlsum_any t1 _ (HK.out.kept H2.out) (Nat.le_trans h3 H2.out.size) zit).mono ?_
  rintro e w3 ⟨rfl, g3⟩
  rw [HT2.out]
  have H3 : Keep (w.grownBy w3 none) := ⟨H2.out.trans g3⟩
  clear g3
  go_wp2_with fail
  refine (rlsum_any t3 _ (HK.out.kept H3.out) (Nat.le_trans h3 H3.out.size) zot).mono ?_
  rintro e w4 ⟨rfl, g4⟩
  rw [HEQ.out]
  have H4 : Keep (w.grownBy w4 none) := ⟨H3.out.trans g4⟩
  clear g4
  go_wp2_with fail
  go_ret
  exact ⟨rfl, H4.out⟩

/-- the last j bytes laid, zeros ahead -/
def l8R (n j : Nat) : List UInt8 := List.replicate (8 - j) 0 ++ (Mac.len8 n).drop (8 - j)
theorem l8R_step (n j : Nat) (hj : j < 8) : (l8R n j).set (7 - j) (UInt8.ofNat (n / 2 ^ (8 * j))) = l8R n (j + 1) := by
  match j, hj with
  | 0, _ => simp [l8R, Mac.len8]
  | 1, _ => rfl
  | 2, _ => rfl
  | 3, _ => rfl
  | 4, _ => rfl
  | 5, _ => rfl
  | 6, _ => rfl
  | 7, _ => rfl
theorem l8R_len (n j : Nat) (hj : j ≤ 8) : (l8R n j).length = 8 := by
  simp only [l8R, List.length_append, List.length_replicate, List.length_drop, Mac.len8_len]; omega
structure LG (w w' : World) (n j : Nat) : Prop where
  r : Has w' w.heap.size ((l8R n j).map bv) 5
  g : w.grownBy w' none

set_option maxRecDepth 100000 in
set_option maxHeartbeats 4000000 in
theorem length_any (n : Nat) (w : World) (hn : n < 18446744073709551616) :
    Calls Tryd.prog 44 #[.int .u64 n] w fun e w' => e = .returned (.string ⟨(Mac.len8 n).toArray⟩) ∧ w.grownBy w' none := by
  have hmk := make28 8 (by decide)
  have HZ : Keep (∀ W : World, Has (W.alloc (.cells ((List.replicate 8 (0 : UInt8)).map bv).toArray 5)) W.heap.size ((List.replicate 8 (0 : UInt8)).map bv) 5) := ⟨fun W => Has.new _ _ _⟩
  generalize ((List.replicate 8 (0 : UInt8)).map bv).toArray = Z at hmk HZ
  have hmk' : ∀ W : World, (Instr.makeSlice 67 (.int .i64 8) (.int .i64 8)).run Tryd.prog W = .ok (.slice (some ⟨W.heap.size, 0, none⟩) 8 8) (W.alloc (.cells Z 5)) := hmk
  clear hmk
  go_enter Tryd.func44, Tryd.ntmps44
  go_wp2_with fail
  go_loopw [0, 4] (fun nv t w' => ∃ j : Nat, j ≤ 8 ∧ t = .int .i64 (7 - (j : Int)) ∧ nv = .int .u64 ((n / 2 ^ (8 * j) : Nat) : Int) ∧ Keep (LG w w' n j)) (fun _ t _ => (intOf t + 1).toNat)
  case atStart => exact ⟨0, by omega, rfl, by simp, ⟨HZ.out _, World.grownBy_alloc _ _ _⟩⟩
  case round =>
    obtain ⟨j, hj, rfl, rfl, hrel⟩ := hrel
    by_cases hlj : j < 8
    · obtain ⟨i, hi⟩ : ∃ i : Nat, i + j = 7 := ⟨7 - j, by omega⟩
      obtain ⟨m, hm⟩ : ∃ m, n / 2 ^ (8 * j) = m := ⟨_, rfl⟩
      obtain ⟨v, hv⟩ : ∃ v, UInt8.ofNat m = v := ⟨_, rfl⟩
      have hm2 : m / 256 = n / 2 ^ (8 * (j + 1)) := by
        rw [← hm, Nat.div_div_eq_div_mul, Nat.mul_add, Nat.pow_add]
      have HM : Keep (m / 256 = n / 2 ^ (8 * (j + 1))) := ⟨hm2⟩
      have hmn : m < 18446744073709551616 := by rw [← hm]; exact Nat.lt_of_le_of_lt (Nat.div_le_self _ _) hn
      have ei : 7 - j = i := by omega
      have e7 : (7 : Int) - (j : Int) = (i : Int) := by omega
      have hv1 : (m : Int) % 256 = (v.toNat : Int) := by rw [← hv]; simp
      have hv2 : (v.toNat : Int) % 256 = (v.toNat : Int) := by have := v.toNat_lt; omega
      have hf := hrel.out.r.frozen i
      have hil : i < 8 := by omega
      obtain ⟨y0, hc⟩ : ∃ y, wr.cell? ⟨w.heap.size, i, none⟩ = some y := Option.isSome_iff_exists.1 (hrel.out.r.there i 1 (by rw [List.length_map, l8R_len n j hj]; omega) 0 (by decide)).1
      have H2 : Keep (LG w (wr.setCell ⟨w.heap.size, i, none⟩ (.int .u8 v.toNat)) n (j + 1)) := ⟨by
        have := hrel.out.r.setCell i (bv v)
        rw [← List.map_set, ← hv, ← hm, ← ei, l8R_step n j hlj, hm, hv, ei] at this
        exact this, gr_new hrel.out.g (gr_set _ _ _ _) (Nat.le_refl _)⟩
      rw [hm, e7]
      clear hrel hv hm hm2
      go_wp2
      refine ⟨⟨j + 1, by omega, by congr 1; omega, ?_, H2⟩, ?_⟩
      · rw [← HM.out]; rfl
      · simp only [intOf]; omega
    · obtain rfl : j = 8 := by omega
      have hbe : BytesOf wr (some ⟨w.heap.size, 0, none⟩) 8 8 (Mac.len8 n) := by
        have h := hrel.out.r
        exact ⟨rfl, Nat.le_refl _, fun _ => ⟨_, 0, rfl, fun j z hz => by rw [Nat.zero_add]; exact h.cellv j _ (by rw [List.getElem?_map, show l8R n 8 = Mac.len8 n from rfl, hz]; rfl)⟩⟩
      have hcv := cvt_back _ _ _ _ _ hbe (by simp)
      have H9 : Keep (w.grownBy wr none) := ⟨hrel.out.g⟩
      clear hrel hbe
      go_wp2
      go_ret
      exact ⟨rfl, H9.out⟩
end Go.Proofs.YtbmnlhmelbhjeaaDoor
