/- MacSame's walk -/
import Derived.Test.YtabiomfgmdnikaaDoorS0
namespace Go.Proofs.YtabiomfgmdnikaaDoor
open Go Go.RowKit

theorem bytes_frozen (W : World) (s : ByteArray) (j : Nat) (hj : j < s.size) : (Lib.bytesWorld W 5 s).frozen? ⟨W.heap.size, j, none⟩ = false := by
  have h := Lib.bytesWorld_at_new W 5 s
  have hs : s.size ≤ (Lib.bytesCells W 5 s).size := by
    have e : s.data.size = s.size := rfl
    simp only [Lib.bytesCells, Array.size_append, Array.size_map, e]; omega
  simp only [World.frozen?, h]
  simp; omega
theorem uwrap (y : Int) : ∃ u : Nat, IntKind.u64.wrap y = (u : Int) := ⟨(y % 18446744073709551616).toNat, by
  simp [IntKind.wrap, IntKind.bits, IntKind.signed]; omega⟩
theorem wrap_nat (i : Nat) (h : i ≤ 4611686018427387904) : wrap64 (i : Int) = (i : Int) := by unfold wrap64; omega
theorem pow8 (k : Nat) (h : k < 8) : ∃ p : UInt8, (2 : Int) ^ k = (p.toNat : Int) ∧ Op.shift .shl .u8 1 .u64 (k : Int) = pure (.int .u8 (p.toNat : Int)) ∧ p ≠ 0 := by
  have h2 : ∃ p : UInt8, (2 : Int) ^ k = (p.toNat : Int) ∧ p ≠ 0 := by
    match k, h with
    | 0, _ => exact ⟨1, by decide, by decide⟩
    | 1, _ => exact ⟨2, by decide, by decide⟩
    | 2, _ => exact ⟨4, by decide, by decide⟩
    | 3, _ => exact ⟨8, by decide, by decide⟩
    | 4, _ => exact ⟨16, by decide, by decide⟩
    | 5, _ => exact ⟨32, by decide, by decide⟩
    | 6, _ => exact ⟨64, by decide, by decide⟩
    | 7, _ => exact ⟨128, by decide, by decide⟩
  obtain ⟨p, h1, h3⟩ := h2
  refine ⟨p, h1, ?_, h3⟩
  rw [shift_shl .u8 .u64 1 (k : Int) (by omega) (by have : IntKind.u8.bits = 8 := rfl
                                                    omega)]
  have := p.toNat_lt
  simp only [Int.toNat_natCast, Int.one_mul, h1]
  rw [show IntKind.u8.wrap (p.toNat : Int) = (p.toNat : Int) by simp [IntKind.wrap, IntKind.bits, IntKind.signed]; omega]
theorem prep (a : ByteArray) (y : Int) (h0 : ¬ a.size = 0) (ha : a.size ≤ 140737488355328) : ∃ (u i k : Nat) (z p v : UInt8), IntKind.u64.wrap y = (u : Int) ∧ (u : Int) % (a.size : Int) = (i : Int) ∧ wrap64 (i : Int) = (i : Int) ∧ (i : Int) < (a.size : Int) ∧ (u : Int) % 8 = (k : Int) ∧ Op.shift .shl .u8 1 .u64 (k : Int) = pure (.int .u8 (p.toNat : Int)) ∧ (2 : Int) ^ k = (p.toNat : Int) ∧ (p.toNat : Int) % 256 = (p.toNat : Int) ∧ bits .xor .u8 (z.toNat : Int) (p.toNat : Int) = (v.toNat : Int) ∧ Keep (i < a.size ∧ (sl a)[i]? = some z ∧ v ≠ z) := by
  obtain ⟨u, hu⟩ := uwrap y
  have hil := Nat.mod_lt u (show 0 < a.size from Nat.pos_of_ne_zero h0)
  have hk8 := Nat.mod_lt u (show 0 < 8 from by decide)
  obtain ⟨p, hp1, hp2, hp0⟩ := pow8 (u % 8) hk8
  have hz := sl_at a (u % a.size) hil
  refine ⟨u, u % a.size, u % 8, _, p, a[u % a.size] ^^^ p, hu, (Int.natCast_emod u a.size).symm, wrap_nat _ (Nat.le_trans (Nat.le_of_lt hil) (Nat.le_trans ha (by decide))), Int.ofNat_lt.2 hil, (Int.natCast_emod u 8).symm, hp2, hp1, ?_, c_xor _ p, ⟨hil, hz, fun e => hp0 ?_⟩⟩
  · have := p.toNat_lt; omega
  · have h2 : a[u % a.size] ^^^ (a[u % a.size] ^^^ p) = a[u % a.size] ^^^ a[u % a.size] := by rw [e]
    rw [← UInt8.xor_assoc, UInt8.xor_self, UInt8.zero_xor] at h2
    exact h2
theorem row_set (W : World) (a : ByteArray) (i : Nat) (v : UInt8) (c : Nat) (hc : a.size ≤ c) (hi : i < a.size) : BytesOf ((Lib.bytesWorld W 5 a).setCell ⟨W.heap.size, i, none⟩ (bv v)) (some ⟨W.heap.size, 0, none⟩) a.size c ((sl a).set i v) ∧ W.grownBy ((Lib.bytesWorld W 5 a).setCell ⟨W.heap.size, i, none⟩ (bv v)) none := by
  refine ⟨⟨by rw [List.length_set, sl_len], hc, fun _ => ⟨_, 0, rfl, fun j x hx => ?_⟩⟩, gr_new (gr_bytes W a) (gr_set _ _ _ _) (Nat.le_refl _)⟩
  rw [Nat.zero_add]
  have h := Lib.bytesWorld_at_new W 5 a
  by_cases hj : i = j
  · subst hj
    rw [List.getElem?_set_self (by rw [sl_len]; exact hi)] at hx
    obtain rfl := Option.some.inj hx
    have hs : i < (Lib.bytesCells W 5 a).size := by
      have e : a.data.size = a.size := rfl
      simp only [Lib.bytesCells, Array.size_append, Array.size_map, e]; omega
    simp [World.cell?, World.setCell, Array.getElem?_modify, h, hs]
  · rw [List.getElem?_set_ne hj] at hx
    have := bytes_cells W a j x hx
    rw [← this]
    have hb : ∀ (W' : World) (b : Nat), i ≠ j → (W'.setCell ⟨b, i, none⟩ (bv v)).cell? ⟨b, j, none⟩ = W'.cell? ⟨b, j, none⟩ := fun W' b hij => by
      simp only [World.cell?, World.setCell, Array.getElem?_modify, if_true]
      cases hq : W'.heap[b]? with
      | none => rfl
      | some o => cases o <;> simp [hij]
    exact hb _ _ hj
theorem dec_size (x y : ByteArray) (h : x.size ≠ y.size) : decide (sl x = sl y) = false := by
  rw [decide_eq_false_iff_not]
  intro e
  exact h (by rw [← sl_len, ← sl_len, e])
theorem turned (a : ByteArray) (i : Nat) (v z : UInt8) (hz : (sl a)[i]? = some z) (hv : v ≠ z) (c : ByteArray) (hc : ByteArray.mk ((sl a).set i v).toArray = c) : decide (sl a = sl c) = false ∧ decide (sl c = sl a) = false ∧ c.size = a.size := by
  subst hc
  have hl := (List.getElem?_eq_some_iff.1 hz).1
  have hne : ¬ sl a = (sl a).set i v := fun e => hv (by
    have h2 := List.getElem?_set_self (a := v) hl
    rw [← e, hz] at h2
    exact (Option.some.inj h2).symm)
  rw [sl_mk ((sl a).set i v)]
  refine ⟨decide_eq_false hne, decide_eq_false (fun e => hne e.symm), ?_⟩
  rw [← sl_len (ByteArray.mk ((sl a).set i v).toArray), sl_mk ((sl a).set i v), List.length_set, sl_len]
def oneZ : ByteArray := { data := #[0] }
def oneX : ByteArray := { data := #[120] }

set_option maxRecDepth 100000 in
set_option maxHeartbeats 8000000 in
theorem msame_any (a b : ByteArray) (y : Int) (w : World) (hk : Kc w) (ha : a.size ≤ 140737488355328) (hb : b.size ≤ 140737488355328) :
    Calls Tryd.prog 4 #[.string a, .string b, .int .i64 y] w fun e w' => e = .returned (.bool true) ∧ w.grownBy w' none := by
  have HK : Keep (Kc w) := ⟨hk⟩
  clear hk
  obtain ⟨X, hX⟩ : ∃ X, decide (sl a = sl b) = X := ⟨_, rfl⟩
  have hXl : (a.toList == b.toList) = X := by rw [beqL, hX]
  have hX2 : decide (sl b = sl a) = X := by rw [← hX]; simp [eq_comm]
  have hc1 := cvt a
  have hc2 := fun W => cvt_cvt a W (grownCap W a.size 0 5) (grownCap_ge W a.size 0 5)
  have ha1 := addS a oneZ (by have : oneZ.size = 1 := rfl
                              omega)
  have ha2 := addS oneX a (by have : oneX.size = 1 := rfl
                              omega)
  have e1 : decide (sl a = sl (a ++ oneZ)) = false := by
    rw [decide_eq_false_iff_not, sl_app]
    intro e
    have := congrArg List.length e
    simp [oneZ, sl] at this
  have e2 : decide (sl (oneX ++ a) = sl a) = false := by
    rw [decide_eq_false_iff_not, sl_app]
    intro e
    have := congrArg List.length e
    simp [oneX, sl] at this
  have s1 : (a ++ oneZ).size ≤ 4611686018427387904 := by
    have : oneZ.size = 1 := rfl
    rw [ByteArray.size_append]; omega
  have s2 : (oneX ++ a).size ≤ 4611686018427387904 := by
    have : oneX.size = 1 := rfl
    rw [ByteArray.size_append]; omega
  obtain ⟨aZ, hZ⟩ : ∃ x, a ++ oneZ = x := ⟨_, rfl⟩
  obtain ⟨aX, hX'⟩ : ∃ x, oneX ++ a = x := ⟨_, rfl⟩
  rw [hZ] at ha1 e1 s1
  rw [hX'] at ha2 e2 s2
  clear hZ hX'
  unfold oneZ at ha1
  unfold oneX at ha2
  go_enter Tryd.func4, Tryd.ntmps4
  go_wp2_with fail
  refine (malive_any _ HK.out).mono ?_
  rintro e w1 ⟨rfl, g1⟩
  have H1 : Keep (w.grownBy w1 none) := ⟨g1⟩
  clear g1
  go_wp2_with fail
  refine (same_any a b _ (by omega) (by omega)).mono ?_
  rintro e w2 ⟨rfl, g2⟩
  have H2 : Keep (w.grownBy w2 none) := ⟨H1.out.trans g2⟩
  rw [hX]
  clear g2 H1
  cases X
  all_goals
    go_wp2_with fail
    refine (same_any b a _ (by omega) (by omega)).mono ?_
    rintro e w3 ⟨rfl, g3⟩
    have H3 : Keep (w.grownBy w3 none) := ⟨H2.out.trans g3⟩
    rw [hX2]
    clear g3 H2
    go_wp2_with fail
    refine (same_any a a _ (by omega) (by omega)).mono ?_
    rintro e w4 ⟨rfl, g4⟩
    have H4 : Keep (w.grownBy w4 none) := ⟨(H3.out.trans (gr_bytes _ _)).trans g4⟩
    rw [decide_eq_true rfl]
    clear g4 H3
    go_wp2_with fail
    refine (same_any a aZ _ (by omega) s1).mono ?_
    rintro e w5 ⟨rfl, g5⟩
    have H5 : Keep (w.grownBy w5 none) := ⟨H4.out.trans g5⟩
    rw [e1]
    clear g5 H4
    go_wp2_with fail
    refine (same_any aX a _ s2 (by omega)).mono ?_
    rintro e w6 ⟨rfl, g6⟩
    have H6 : Keep (w.grownBy w6 none) := ⟨H5.out.trans g6⟩
    rw [e2]
    clear g6 H5
    by_cases h0 : a.size = 0
    · go_wp2_with fail
      go_ret
      exact ⟨rfl, H6.out⟩
    · obtain ⟨u, i, k, z, p, v, hu, hi, hw64, hil2, hm8, hp2, hp1, hp256, c1, HV⟩ := prep a y h0 ha
      have hcell : (Lib.bytesWorld w6 5 a).cell? ⟨w6.heap.size, i, none⟩ = some (.int .u8 z.toNat) := bytes_cells w6 a i z HV.out.2.1
      have hfr := bytes_frozen w6 a i HV.out.1
      obtain ⟨hrow, hgr⟩ := row_set w6 a i v (grownCap w6 a.size 0 5) (grownCap_ge w6 a.size 0 5) HV.out.1
      have hcv := cvt_back _ _ _ _ _ hrow (by simp)
      obtain ⟨c', hc'⟩ : ∃ c', ByteArray.mk ((sl a).set i v).toArray = c' := ⟨_, rfl⟩
      obtain ⟨t1, t2, t3⟩ := turned a i v z HV.out.2.1 HV.out.2.2 c' hc'
      have H7 : Keep (BytesOf ((Lib.bytesWorld w6 5 a).setCell ⟨w6.heap.size, i, none⟩ (bv v)) (some ⟨w6.heap.size, 0, none⟩) a.size (grownCap w6 a.size 0 5) ((sl a).set i v) ∧ w.grownBy ((Lib.bytesWorld w6 5 a).setCell ⟨w6.heap.size, i, none⟩ (bv v)) none ∧ ByteArray.mk ((sl a).set i v).toArray = c') := ⟨hrow, H6.out.trans hgr, hc'⟩
      rw [hc'] at hcv
      clear hrow hgr hc' hc2 ha1 ha2
      go_wp2_with fail
      generalize hw7 : World.setCell _ _ _ = w7 at H7 hcv ⊢
      refine (same_any a c' _ (by omega) (by omega)).mono ?_
      rintro e w8 ⟨rfl, g8⟩
      rw [t1]
      have hcv2 := cvt_back _ _ _ _ _ (H7.out.1.kept g8) (by simp)
      rw [H7.out.2.2] at hcv2
      have H8 : Keep (w.grownBy w8 none) := ⟨H7.out.2.1.trans g8⟩
      clear g8 hcv hcell hfr hw7
      go_wp2_with fail
      refine (same_any c' a _ (by omega) (by omega)).mono ?_
      rintro e w9 ⟨rfl, g9⟩
      rw [t2]
      have H9 : Keep (w.grownBy w9 none) := ⟨H8.out.trans g9⟩
      clear g9 hcv2
      have t4 : (a.extract 0 (a.size - 1)).size = a.size - 1 := by rw [ByteArray.size_extract]; omega
      have t5 : (a.extract 1 a.size).size = a.size - 1 := by rw [ByteArray.size_extract]; omega
      have d4 := dec_size (a.extract 0 (a.size - 1)) a (by omega)
      have d5 := dec_size a (a.extract 1 a.size) (by omega)
      go_wp2_with fail
      refine (same_any (a.extract 0 (a.size - 1)) a _ (by omega) (by omega)).mono ?_
      rintro e w10 ⟨rfl, g10⟩
      rw [d4]
      have H10 : Keep (w.grownBy w10 none) := ⟨H9.out.trans g10⟩
      clear g10
      go_wp2_with fail
      refine (same_any a (a.extract 1 a.size) _ (by omega) (by omega)).mono ?_
      rintro e w11 ⟨rfl, g11⟩
      rw [d5]
      have H11 : Keep (w.grownBy w11 none) := ⟨H10.out.trans g11⟩
      clear g11
      go_wp2_with fail
      go_ret
      exact ⟨rfl, H11.out⟩
end Go.Proofs.YtabiomfgmdnikaaDoor
