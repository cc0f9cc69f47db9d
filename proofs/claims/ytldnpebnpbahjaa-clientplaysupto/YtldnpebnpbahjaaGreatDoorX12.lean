import Derived.Test.YtldnpebnpbahjaaGreatDoorX8
import Derived.Test.YtldnpebnpbahjaaGreatDoorShelf
import Derived.Test.YtldnpebnpbahjaaGreatDoorX11
import Derived.Test.YtldnpebnpbahjaaGreatDoorX9
import Derived.Deep.RegionHeld
set_option maxRecDepth 100000
set_option maxHeartbeats 8000000
namespace Go.Proofs.YtldnpebnpbahjaaGreatDoor.Pk
open Go Go.RowKit Go.Proofs.Tryz
theorem grown_of_below {w w' : World} (h : Below w.heap.size w w') : w.grownBy w' none := ⟨h.os, h.tape, h.output, h.size, fun k hk _ => h.block k hk⟩
def mgB : ByteArray := { data := #[74, 48, 49] }
theorem prefix_take (s : List UInt8) : Lib.hasPrefix s magic = decide (s.take 3 = magic) := by
  rw [Bool.eq_iff_iff, decide_eq_true_iff, Lib.hasPrefix, List.isPrefixOf_iff_prefix]; exact ⟨fun h => (List.prefix_iff_eq_take.1 h).symm, fun h => h ▸ List.take_prefix _ _⟩
theorem hp_c (s : ByteArray) (w : World) :
    CRs 35 #[.string s, .string mgB] w (.bool (decide ((sl s).take 3 = magic))) := by
  refine (Tryz.strings_HasPrefix s mgB w).mono ?_; rintro e w' ⟨rfl, rfl⟩; refine ⟨?_, rfl⟩; rw [← prefix_take]; rfl
theorem idx3 (s : ByteArray) (h : 4 ≤ s.size) (W : World) : (Instr.index 9 (.string s) (.int .i64 3)).run prog W = .ok (.int .u8 ((sl s).getD 3 0).toNat) W := by
  have hl : 3 < s.size := by omega
  have := idx9 s 3 s[3] hl (sl_at s 3 hl) W; rw [show (sl s).getD 3 0 = s[3] by rw [List.getD_eq_getElem?_getD, show (sl s)[3]? = some s[3] from sl_at s 3 hl]; rfl]; exact this
theorem kind_c (s : ByteArray) (w : World) (hs : s.size ≤ 4611686018427387904) :
    CRs 37 #[.string s] w (.int .i64 (kindL (sl s))) := by
  by_cases h4 : s.size < 4
  · (have hk : kindL (sl s) = 0 := by rw [kindL, if_pos (.inl (by rw [sl_len]; exact h4))]); rw [hk]; have hd : decide ((s.size : Int) < 4) = true := decide_eq_true (by omega); clear hk h4; go_enter func37, ntmps37; go_wp2_with fail; go_ret; exact ⟨rfl, rfl⟩
  · have hd : decide ((s.size : Int) < 4) = false := decide_eq_false (by omega); by_cases hm : (sl s).take 3 = magic
    · (have hk : kindL (sl s) = (((sl s).getD 3 0).toNat : Int) := by rw [kindL, if_neg (by rw [sl_len]; simp [hm]; omega)]); rw [hk]; have hi := idx3 s (by omega); have HC := Kp.mk (hp_c s w); rw [decide_eq_true hm] at HC; have hlt : ((sl s).getD 3 0).toNat < 256 := UInt8.toNat_lt _; generalize ((sl s).getD 3 0).toNat = x at hi hlt ⊢; clear hk h4 hm; go_enter func37, ntmps37; go_wp2_with fail; refine HC.out.mono ?_; rintro e w1 ⟨rfl, rfl⟩; go_wp2_with fail; go_ret; exact ⟨rfl, rfl⟩
    · (have hk : kindL (sl s) = 0 := by rw [kindL, if_pos (.inr hm)]); rw [hk]; have HC := Kp.mk (hp_c s w); rw [decide_eq_false hm] at HC; clear hk h4 hm; go_enter func37, ntmps37; go_wp2_with fail; refine HC.out.mono ?_; rintro e w1 ⟨rfl, rfl⟩; go_wp2_with fail; go_ret; exact ⟨rfl, rfl⟩
theorem tagged_c (k : Int) (w : World) :
    CRs 48 #[.int .i64 k] w (.bool (decide (3 ≤ k ∧ k ≤ 7))) := by
  by_cases h3 : 3 ≤ k
  · have hd : decide (3 ≤ k) = true := decide_eq_true h3; (have he : decide (3 ≤ k ∧ k ≤ 7) = decide (k ≤ 7) := by simp [h3]); rw [he]; clear h3 he; go_enter func48, ntmps48
    go_wp2
    go_ret; exact ⟨rfl, rfl⟩
  · have hd : decide (3 ≤ k) = false := decide_eq_false h3; (have he : decide (3 ≤ k ∧ k ≤ 7) = false := by simp [h3]); rw [he]; clear h3 he; go_enter func48, ntmps48
    go_wp2
    go_ret; exact ⟨rfl, rfl⟩
theorem clone_c (s : ByteArray) (w : World) (hs : s.size ≤ 281474976710656) :
    CRt 51 #[.string s] w (.string s) := by
  go_enter func51, ntmps51; go_wp2_with fail; refine (Tryz.stringslite_Clone s w hs).mono ?_; rintro e w1 ⟨rfl, g1⟩; have HG := Kp.mk (grown_of_below g1); clear g1
  go_wp2
  go_ret; exact ⟨rfl, HG.out⟩
theorem rep_c (c : Nat) (w : World) (hc : c ≤ 1000) :
    CRt 49 #[.string { data := #[0] }, .int .i64 c] w (.string (ba (List.replicate c 0))) := by
  refine (Tryz.strings_Repeat ⟨#[0]⟩ c w (by omega) (by simp [ByteArray.size]; omega)).mono ?_; rintro e w' ⟨rfl, g⟩; refine ⟨?_, grown_of_below g⟩
  have : ∀ n : Nat, Lib.repeatL [(0 : UInt8)] n = List.replicate n 0 := fun n => by
    induction n with
    | zero => rfl
    | succ n ih => rw [Lib.repeatL, ih]; rfl
  rw [show (ByteArray.mk #[0]).data.toList = [0] from rfl, this]
theorem mk_zeros : Makes 74 .zeros := fun w => by
  obtain ⟨d, hd, hr⟩ := under57; have hmf : MF := fun _ _ _ _ => rfl
  have HR := Kp.mk (rep_c 76 (w.alloc (.cells #[.nilFunc, .nilFunc] 109)) (by decide)); rw [show ba (List.replicate 76 0) = ba zero76 from rfl] at HR; have HT : Kp (∀ W, Has W (w.heap.size + 7) [.string (ba zero76)] 9 → True) := ⟨fun _ _ => trivial⟩; obtain ⟨Z, hZ⟩ : ∃ Z, ba zero76 = Z := ⟨_, rfl⟩; rw [hZ] at HR HT; have HZ := Kp.mk hZ; clear hZ HT; go_enter func74, ntmps74; go_wp2_with fail; refine HR.out.mono ?_; rintro e w2 ⟨rfl, g2⟩; have h0 : Has w2 w.heap.size [.nilFunc, .nilFunc] 109 := (Has.newA w #[.nilFunc, .nilFunc] 109).kept g2 (by simp); obtain ⟨w3, hw3⟩ : ∃ q, w2.alloc (.cells #[.string Z] 9) = q := ⟨_, rfl⟩; obtain ⟨zb, hzb⟩ : ∃ q, w2.heap.size = q := ⟨_, rfl⟩; have g3 : w2.grownBy w3 none := by rw [← hw3]; exact gAl _ _ _
  have h1 : Has w3 zb [.string Z] 9 := by rw [← hw3, ← hzb]; exact Has.newA w2 _ 9
  have h03 := h0.kept g3 (by simp); have hne : zb ≠ w.heap.size := by have := h0.lt; omega
  have c0 : w3.cell? ⟨w.heap.size, 0, none⟩ = some .nilFunc := h03.cellv 0 _ rfl; have c1 : w3.cell? ⟨w.heap.size, 1, none⟩ = some .nilFunc := h03.cellv 1 _ rfl; have z0 : w3.frozen? ⟨w.heap.size, 0, none⟩ = false := h03.frozen 0; have z1 : w3.frozen? ⟨w.heap.size, 1, none⟩ = false := h03.frozen 1
  have HE : Kp (Has ((w3.setCell ⟨w.heap.size, 0, none⟩ (fc 132 #[pv zb])).setCell ⟨w.heap.size, 1, none⟩ (fc 135 #[pv zb])) w.heap.size [fc 132 #[pv zb], fc 135 #[pv zb]] 109 ∧ w.grownBy ((w3.setCell ⟨w.heap.size, 0, none⟩ (fc 132 #[pv zb])).setCell ⟨w.heap.size, 1, none⟩ (fc 135 #[pv zb])) none ∧ FieldC ((w3.setCell ⟨w.heap.size, 0, none⟩ (fc 132 #[pv zb])).setCell ⟨w.heap.size, 1, none⟩ (fc 135 #[pv zb])) .zeros (fc 132 #[pv zb]) (fc 135 #[pv zb])) := by
    have g5 : w3.grownBy ((w3.setCell ⟨w.heap.size, 0, none⟩ (fc 132 #[pv zb])).setCell ⟨w.heap.size, 1, none⟩ (fc 135 #[pv zb])) (some w.heap.size) := (gr_set _ _ _ _).trans (gr_set _ _ _ _); rw [← HZ.out] at h1; refine ⟨(h03.setCell 0 _).setCell 1 _, gr_new (((gAl w (.cells #[.nilFunc, .nilFunc] 109) none).trans g2).trans g3) g5 (Nat.le_refl _), 132, #[pv zb], 135, #[pv zb], rfl, rfl, ?_, ?_⟩
    · exact tk_zeros _ zb (h1.kept g5 (by simp; omega))
    · exact ly_zeros _ zb (h1.kept g5 (by simp; omega))
  clear h0 h1 h03 g2 g3 hne
  go_wp2
  exact ret_cell rfl rfl HE.out.1 hd hr info57 rfl ⟨_, _, rfl, HE.out.2.2, HE.out.2.1⟩
def Flds (w : World) (a : Option Addr) (fs : List Fd) : Prop := ∀ i f, fs[i]? = some f → ∃ vt vl fb, a = some ⟨fb, 0, none⟩ ∧ w.cell? ⟨fb, 2 * i, none⟩ = some vt ∧ w.cell? ⟨fb, 2 * i + 1, none⟩ = some vl ∧ FieldC w f vt vl
theorem Flds.kept {w w' : World} {a : Option Addr} {fs : List Fd} (h : Flds w a fs) (g : w.grownBy w' none) : Flds w' a fs := fun i f e => by
  obtain ⟨vt, vl, fb, h1, h2, h3, h4⟩ := h i f e; exact ⟨vt, vl, fb, h1, g.cell h2 (by simp), g.cell h3 (by simp), h4.kept g⟩
theorem fields1 (w : World) :
    Calls prog 36 #[.int .i64 1] w fun e w' => ∃ a c, e = .returned (.slice a (fieldsL 1).length c) ∧ Flds w' a (fieldsL 1) ∧ w.grownBy w' none := by
  go_enter func36, ntmps36; go_wp2_with fail; refine (mk_nonce w).mono ?_; rintro e w0 ⟨vt0, vl0, rfl, f0, g0⟩; have HF : Kp (FieldC w0 .nonce vt0 vl0 ∧ w.grownBy w0 none) := ⟨f0, g0⟩; clear f0 g0; go_wp2_with fail; refine (mk_zeros w0).mono ?_; rintro e w1 ⟨vt1, vl1, rfl, f1, g1⟩; replace HF : Kp (FieldC w1 .nonce vt0 vl0 ∧ FieldC w1 .zeros vt1 vl1 ∧ w.grownBy w1 none) := ⟨(HF.out.1).kept g1, f1, (HF.out.2).trans g1⟩; clear f1 g1; go_wp2_with fail; go_ret; have hn := Has.newA w1 #[vt0, vl0, vt1, vl1] 109; have gn := gAl w1 (.cells #[vt0, vl0, vt1, vl1] 109) none; refine ⟨_, _, rfl, ?_, (HF.out.2.2).trans gn⟩; intro i f e; have e' : [Fd.nonce, Fd.zeros][i]? = some f := e
  match i, e' with
  | 0, rfl => exact ⟨vt0, vl0, _, rfl, hn.cellv 0 _ rfl, hn.cellv 1 _ rfl, (HF.out.1).kept gn⟩
  | 1, rfl => exact ⟨vt1, vl1, _, rfl, hn.cellv 2 _ rfl, hn.cellv 3 _ rfl, (HF.out.2.1).kept gn⟩
theorem fields2 (w : World) :
    Calls prog 36 #[.int .i64 2] w fun e w' => ∃ a c, e = .returned (.slice a (fieldsL 2).length c) ∧ Flds w' a (fieldsL 2) ∧ w.grownBy w' none := by
  go_enter func36, ntmps36; go_wp2_with fail; refine (mk_nonce w).mono ?_; rintro e w0 ⟨vt0, vl0, rfl, f0, g0⟩; have HF : Kp (FieldC w0 .nonce vt0 vl0 ∧ w.grownBy w0 none) := ⟨f0, g0⟩; clear f0 g0; go_wp2_with fail; refine (mk_epoch w0).mono ?_; rintro e w1 ⟨vt1, vl1, rfl, f1, g1⟩; replace HF : Kp (FieldC w1 .nonce vt0 vl0 ∧ FieldC w1 .epoch vt1 vl1 ∧ w.grownBy w1 none) := ⟨(HF.out.1).kept g1, f1, (HF.out.2).trans g1⟩; clear f1 g1; go_wp2_with fail; refine (mk_cookie w1).mono ?_; rintro e w2 ⟨vt2, vl2, rfl, f2, g2⟩; replace HF : Kp (FieldC w2 .nonce vt0 vl0 ∧ FieldC w2 .epoch vt1 vl1 ∧ FieldC w2 .cookie vt2 vl2 ∧ w.grownBy w2 none) := ⟨(HF.out.1).kept g2, (HF.out.2.1).kept g2, f2, (HF.out.2.2).trans g2⟩; clear f2 g2; go_wp2_with fail; go_ret; have hn := Has.newA w2 #[vt0, vl0, vt1, vl1, vt2, vl2] 109; have gn := gAl w2 (.cells #[vt0, vl0, vt1, vl1, vt2, vl2] 109) none; refine ⟨_, _, rfl, ?_, (HF.out.2.2.2).trans gn⟩; intro i f e; have e' : [Fd.nonce, Fd.epoch, Fd.cookie][i]? = some f := e
  match i, e' with
  | 0, rfl => exact ⟨vt0, vl0, _, rfl, hn.cellv 0 _ rfl, hn.cellv 1 _ rfl, (HF.out.1).kept gn⟩
  | 1, rfl => exact ⟨vt1, vl1, _, rfl, hn.cellv 2 _ rfl, hn.cellv 3 _ rfl, (HF.out.2.1).kept gn⟩
  | 2, rfl => exact ⟨vt2, vl2, _, rfl, hn.cellv 4 _ rfl, hn.cellv 5 _ rfl, (HF.out.2.2.1).kept gn⟩
theorem fields3 (w : World) :
    Calls prog 36 #[.int .i64 3] w fun e w' => ∃ a c, e = .returned (.slice a (fieldsL 3).length c) ∧ Flds w' a (fieldsL 3) ∧ w.grownBy w' none := by
  go_enter func36, ntmps36; go_wp2_with fail; refine (mk_nonce w).mono ?_; rintro e w0 ⟨vt0, vl0, rfl, f0, g0⟩; have HF : Kp (FieldC w0 .nonce vt0 vl0 ∧ w.grownBy w0 none) := ⟨f0, g0⟩; clear f0 g0; go_wp2_with fail; refine (mk_epoch w0).mono ?_; rintro e w1 ⟨vt1, vl1, rfl, f1, g1⟩; replace HF : Kp (FieldC w1 .nonce vt0 vl0 ∧ FieldC w1 .epoch vt1 vl1 ∧ w.grownBy w1 none) := ⟨(HF.out.1).kept g1, f1, (HF.out.2).trans g1⟩; clear f1 g1; go_wp2_with fail; refine (mk_cookie w1).mono ?_; rintro e w2 ⟨vt2, vl2, rfl, f2, g2⟩; replace HF : Kp (FieldC w2 .nonce vt0 vl0 ∧ FieldC w2 .epoch vt1 vl1 ∧ FieldC w2 .cookie vt2 vl2 ∧ w.grownBy w2 none) := ⟨(HF.out.1).kept g2, (HF.out.2.1).kept g2, f2, (HF.out.2.2).trans g2⟩; clear f2 g2; go_wp2_with fail; refine (mk_name w2).mono ?_; rintro e w3 ⟨vt3, vl3, rfl, f3, g3⟩; replace HF : Kp (FieldC w3 .nonce vt0 vl0 ∧ FieldC w3 .epoch vt1 vl1 ∧ FieldC w3 .cookie vt2 vl2 ∧ FieldC w3 .name vt3 vl3 ∧ w.grownBy w3 none) := ⟨(HF.out.1).kept g3, (HF.out.2.1).kept g3, (HF.out.2.2.1).kept g3, f3, (HF.out.2.2.2).trans g3⟩; clear f3 g3; go_wp2_with fail; refine (mk_tag w3).mono ?_; rintro e w4 ⟨vt4, vl4, rfl, f4, g4⟩; replace HF : Kp (FieldC w4 .nonce vt0 vl0 ∧ FieldC w4 .epoch vt1 vl1 ∧ FieldC w4 .cookie vt2 vl2 ∧ FieldC w4 .name vt3 vl3 ∧ FieldC w4 .tag vt4 vl4 ∧ w.grownBy w4 none) := ⟨(HF.out.1).kept g4, (HF.out.2.1).kept g4, (HF.out.2.2.1).kept g4, (HF.out.2.2.2.1).kept g4, f4, (HF.out.2.2.2.2).trans g4⟩; clear f4 g4; go_wp2_with fail; go_ret; have hn := Has.newA w4 #[vt0, vl0, vt1, vl1, vt2, vl2, vt3, vl3, vt4, vl4] 109; have gn := gAl w4 (.cells #[vt0, vl0, vt1, vl1, vt2, vl2, vt3, vl3, vt4, vl4] 109) none; refine ⟨_, _, rfl, ?_, (HF.out.2.2.2.2.2).trans gn⟩; intro i f e; have e' : [Fd.nonce, Fd.epoch, Fd.cookie, Fd.name, Fd.tag][i]? = some f := e
  match i, e' with
  | 0, rfl => exact ⟨vt0, vl0, _, rfl, hn.cellv 0 _ rfl, hn.cellv 1 _ rfl, (HF.out.1).kept gn⟩
  | 1, rfl => exact ⟨vt1, vl1, _, rfl, hn.cellv 2 _ rfl, hn.cellv 3 _ rfl, (HF.out.2.1).kept gn⟩
  | 2, rfl => exact ⟨vt2, vl2, _, rfl, hn.cellv 4 _ rfl, hn.cellv 5 _ rfl, (HF.out.2.2.1).kept gn⟩
  | 3, rfl => exact ⟨vt3, vl3, _, rfl, hn.cellv 6 _ rfl, hn.cellv 7 _ rfl, (HF.out.2.2.2.1).kept gn⟩
  | 4, rfl => exact ⟨vt4, vl4, _, rfl, hn.cellv 8 _ rfl, hn.cellv 9 _ rfl, (HF.out.2.2.2.2.1).kept gn⟩
theorem fields4 (w : World) :
    Calls prog 36 #[.int .i64 4] w fun e w' => ∃ a c, e = .returned (.slice a (fieldsL 4).length c) ∧ Flds w' a (fieldsL 4) ∧ w.grownBy w' none := by
  go_enter func36, ntmps36; go_wp2_with fail; refine (mk_nonce w).mono ?_; rintro e w0 ⟨vt0, vl0, rfl, f0, g0⟩; have HF : Kp (FieldC w0 .nonce vt0 vl0 ∧ w.grownBy w0 none) := ⟨f0, g0⟩; clear f0 g0; go_wp2_with fail; refine (mk_session w0).mono ?_; rintro e w1 ⟨vt1, vl1, rfl, f1, g1⟩; replace HF : Kp (FieldC w1 .nonce vt0 vl0 ∧ FieldC w1 .session vt1 vl1 ∧ w.grownBy w1 none) := ⟨(HF.out.1).kept g1, f1, (HF.out.2).trans g1⟩; clear f1 g1; go_wp2_with fail; refine (mk_player w1).mono ?_; rintro e w2 ⟨vt2, vl2, rfl, f2, g2⟩; replace HF : Kp (FieldC w2 .nonce vt0 vl0 ∧ FieldC w2 .session vt1 vl1 ∧ FieldC w2 .player vt2 vl2 ∧ w.grownBy w2 none) := ⟨(HF.out.1).kept g2, (HF.out.2.1).kept g2, f2, (HF.out.2.2).trans g2⟩; clear f2 g2; go_wp2_with fail; refine (mk_salt w2).mono ?_; rintro e w3 ⟨vt3, vl3, rfl, f3, g3⟩; replace HF : Kp (FieldC w3 .nonce vt0 vl0 ∧ FieldC w3 .session vt1 vl1 ∧ FieldC w3 .player vt2 vl2 ∧ FieldC w3 .salt vt3 vl3 ∧ w.grownBy w3 none) := ⟨(HF.out.1).kept g3, (HF.out.2.1).kept g3, (HF.out.2.2.1).kept g3, f3, (HF.out.2.2.2).trans g3⟩; clear f3 g3; go_wp2_with fail; refine (mk_tag w3).mono ?_; rintro e w4 ⟨vt4, vl4, rfl, f4, g4⟩; replace HF : Kp (FieldC w4 .nonce vt0 vl0 ∧ FieldC w4 .session vt1 vl1 ∧ FieldC w4 .player vt2 vl2 ∧ FieldC w4 .salt vt3 vl3 ∧ FieldC w4 .tag vt4 vl4 ∧ w.grownBy w4 none) := ⟨(HF.out.1).kept g4, (HF.out.2.1).kept g4, (HF.out.2.2.1).kept g4, (HF.out.2.2.2.1).kept g4, f4, (HF.out.2.2.2.2).trans g4⟩; clear f4 g4; go_wp2_with fail; go_ret; have hn := Has.newA w4 #[vt0, vl0, vt1, vl1, vt2, vl2, vt3, vl3, vt4, vl4] 109; have gn := gAl w4 (.cells #[vt0, vl0, vt1, vl1, vt2, vl2, vt3, vl3, vt4, vl4] 109) none; refine ⟨_, _, rfl, ?_, (HF.out.2.2.2.2.2).trans gn⟩; intro i f e; have e' : [Fd.nonce, Fd.session, Fd.player, Fd.salt, Fd.tag][i]? = some f := e
  match i, e' with
  | 0, rfl => exact ⟨vt0, vl0, _, rfl, hn.cellv 0 _ rfl, hn.cellv 1 _ rfl, (HF.out.1).kept gn⟩
  | 1, rfl => exact ⟨vt1, vl1, _, rfl, hn.cellv 2 _ rfl, hn.cellv 3 _ rfl, (HF.out.2.1).kept gn⟩
  | 2, rfl => exact ⟨vt2, vl2, _, rfl, hn.cellv 4 _ rfl, hn.cellv 5 _ rfl, (HF.out.2.2.1).kept gn⟩
  | 3, rfl => exact ⟨vt3, vl3, _, rfl, hn.cellv 6 _ rfl, hn.cellv 7 _ rfl, (HF.out.2.2.2.1).kept gn⟩
  | 4, rfl => exact ⟨vt4, vl4, _, rfl, hn.cellv 8 _ rfl, hn.cellv 9 _ rfl, (HF.out.2.2.2.2.1).kept gn⟩
theorem fields5 (w : World) :
    Calls prog 36 #[.int .i64 5] w fun e w' => ∃ a c, e = .returned (.slice a (fieldsL 5).length c) ∧ Flds w' a (fieldsL 5) ∧ w.grownBy w' none := by
  go_enter func36, ntmps36; go_wp2_with fail; refine (mk_session w).mono ?_; rintro e w0 ⟨vt0, vl0, rfl, f0, g0⟩; have HF : Kp (FieldC w0 .session vt0 vl0 ∧ w.grownBy w0 none) := ⟨f0, g0⟩; clear f0 g0; go_wp2_with fail; refine (mk_seq w0).mono ?_; rintro e w1 ⟨vt1, vl1, rfl, f1, g1⟩; replace HF : Kp (FieldC w1 .session vt0 vl0 ∧ FieldC w1 .seq vt1 vl1 ∧ w.grownBy w1 none) := ⟨(HF.out.1).kept g1, f1, (HF.out.2).trans g1⟩; clear f1 g1; go_wp2_with fail; refine (mk_thr w1).mono ?_; rintro e w2 ⟨vt2, vl2, rfl, f2, g2⟩; replace HF : Kp (FieldC w2 .session vt0 vl0 ∧ FieldC w2 .seq vt1 vl1 ∧ FieldC w2 .thr vt2 vl2 ∧ w.grownBy w2 none) := ⟨(HF.out.1).kept g2, (HF.out.2.1).kept g2, f2, (HF.out.2.2).trans g2⟩; clear f2 g2; go_wp2_with fail; refine (mk_turn w2).mono ?_; rintro e w3 ⟨vt3, vl3, rfl, f3, g3⟩; replace HF : Kp (FieldC w3 .session vt0 vl0 ∧ FieldC w3 .seq vt1 vl1 ∧ FieldC w3 .thr vt2 vl2 ∧ FieldC w3 .turn vt3 vl3 ∧ w.grownBy w3 none) := ⟨(HF.out.1).kept g3, (HF.out.2.1).kept g3, (HF.out.2.2.1).kept g3, f3, (HF.out.2.2.2).trans g3⟩; clear f3 g3; go_wp2_with fail; refine (mk_flags w3).mono ?_; rintro e w4 ⟨vt4, vl4, rfl, f4, g4⟩; replace HF : Kp (FieldC w4 .session vt0 vl0 ∧ FieldC w4 .seq vt1 vl1 ∧ FieldC w4 .thr vt2 vl2 ∧ FieldC w4 .turn vt3 vl3 ∧ FieldC w4 .flags vt4 vl4 ∧ w.grownBy w4 none) := ⟨(HF.out.1).kept g4, (HF.out.2.1).kept g4, (HF.out.2.2.1).kept g4, (HF.out.2.2.2.1).kept g4, f4, (HF.out.2.2.2.2).trans g4⟩; clear f4 g4; go_wp2_with fail; refine (mk_tag w4).mono ?_; rintro e w5 ⟨vt5, vl5, rfl, f5, g5⟩; replace HF : Kp (FieldC w5 .session vt0 vl0 ∧ FieldC w5 .seq vt1 vl1 ∧ FieldC w5 .thr vt2 vl2 ∧ FieldC w5 .turn vt3 vl3 ∧ FieldC w5 .flags vt4 vl4 ∧ FieldC w5 .tag vt5 vl5 ∧ w.grownBy w5 none) := ⟨(HF.out.1).kept g5, (HF.out.2.1).kept g5, (HF.out.2.2.1).kept g5, (HF.out.2.2.2.1).kept g5, (HF.out.2.2.2.2.1).kept g5, f5, (HF.out.2.2.2.2.2).trans g5⟩; clear f5 g5; go_wp2_with fail; go_ret; have hn := Has.newA w5 #[vt0, vl0, vt1, vl1, vt2, vl2, vt3, vl3, vt4, vl4, vt5, vl5] 109; have gn := gAl w5 (.cells #[vt0, vl0, vt1, vl1, vt2, vl2, vt3, vl3, vt4, vl4, vt5, vl5] 109) none; refine ⟨_, _, rfl, ?_, (HF.out.2.2.2.2.2.2).trans gn⟩; intro i f e; have e' : [Fd.session, Fd.seq, Fd.thr, Fd.turn, Fd.flags, Fd.tag][i]? = some f := e
  match i, e' with
  | 0, rfl => exact ⟨vt0, vl0, _, rfl, hn.cellv 0 _ rfl, hn.cellv 1 _ rfl, (HF.out.1).kept gn⟩
  | 1, rfl => exact ⟨vt1, vl1, _, rfl, hn.cellv 2 _ rfl, hn.cellv 3 _ rfl, (HF.out.2.1).kept gn⟩
  | 2, rfl => exact ⟨vt2, vl2, _, rfl, hn.cellv 4 _ rfl, hn.cellv 5 _ rfl, (HF.out.2.2.1).kept gn⟩
  | 3, rfl => exact ⟨vt3, vl3, _, rfl, hn.cellv 6 _ rfl, hn.cellv 7 _ rfl, (HF.out.2.2.2.1).kept gn⟩
  | 4, rfl => exact ⟨vt4, vl4, _, rfl, hn.cellv 8 _ rfl, hn.cellv 9 _ rfl, (HF.out.2.2.2.2.1).kept gn⟩
  | 5, rfl => exact ⟨vt5, vl5, _, rfl, hn.cellv 10 _ rfl, hn.cellv 11 _ rfl, (HF.out.2.2.2.2.2.1).kept gn⟩
theorem fields6 (w : World) :
    Calls prog 36 #[.int .i64 6] w fun e w' => ∃ a c, e = .returned (.slice a (fieldsL 6).length c) ∧ Flds w' a (fieldsL 6) ∧ w.grownBy w' none := by
  go_enter func36, ntmps36; go_wp2_with fail; refine (mk_session w).mono ?_; rintro e w0 ⟨vt0, vl0, rfl, f0, g0⟩; have HF : Kp (FieldC w0 .session vt0 vl0 ∧ w.grownBy w0 none) := ⟨f0, g0⟩; clear f0 g0; go_wp2_with fail; refine (mk_seq w0).mono ?_; rintro e w1 ⟨vt1, vl1, rfl, f1, g1⟩; replace HF : Kp (FieldC w1 .session vt0 vl0 ∧ FieldC w1 .seq vt1 vl1 ∧ w.grownBy w1 none) := ⟨(HF.out.1).kept g1, f1, (HF.out.2).trans g1⟩; clear f1 g1; go_wp2_with fail; refine (mk_view w1).mono ?_; rintro e w2 ⟨vt2, vl2, rfl, f2, g2⟩; replace HF : Kp (FieldC w2 .session vt0 vl0 ∧ FieldC w2 .seq vt1 vl1 ∧ FieldC w2 .view vt2 vl2 ∧ w.grownBy w2 none) := ⟨(HF.out.1).kept g2, (HF.out.2.1).kept g2, f2, (HF.out.2.2).trans g2⟩; clear f2 g2; go_wp2_with fail; refine (mk_tag w2).mono ?_; rintro e w3 ⟨vt3, vl3, rfl, f3, g3⟩; replace HF : Kp (FieldC w3 .session vt0 vl0 ∧ FieldC w3 .seq vt1 vl1 ∧ FieldC w3 .view vt2 vl2 ∧ FieldC w3 .tag vt3 vl3 ∧ w.grownBy w3 none) := ⟨(HF.out.1).kept g3, (HF.out.2.1).kept g3, (HF.out.2.2.1).kept g3, f3, (HF.out.2.2.2).trans g3⟩; clear f3 g3; go_wp2_with fail; go_ret; have hn := Has.newA w3 #[vt0, vl0, vt1, vl1, vt2, vl2, vt3, vl3] 109; have gn := gAl w3 (.cells #[vt0, vl0, vt1, vl1, vt2, vl2, vt3, vl3] 109) none; refine ⟨_, _, rfl, ?_, (HF.out.2.2.2.2).trans gn⟩; intro i f e; have e' : [Fd.session, Fd.seq, Fd.view, Fd.tag][i]? = some f := e
  match i, e' with
  | 0, rfl => exact ⟨vt0, vl0, _, rfl, hn.cellv 0 _ rfl, hn.cellv 1 _ rfl, (HF.out.1).kept gn⟩
  | 1, rfl => exact ⟨vt1, vl1, _, rfl, hn.cellv 2 _ rfl, hn.cellv 3 _ rfl, (HF.out.2.1).kept gn⟩
  | 2, rfl => exact ⟨vt2, vl2, _, rfl, hn.cellv 4 _ rfl, hn.cellv 5 _ rfl, (HF.out.2.2.1).kept gn⟩
  | 3, rfl => exact ⟨vt3, vl3, _, rfl, hn.cellv 6 _ rfl, hn.cellv 7 _ rfl, (HF.out.2.2.2.1).kept gn⟩
theorem fields7 (w : World) :
    Calls prog 36 #[.int .i64 7] w fun e w' => ∃ a c, e = .returned (.slice a (fieldsL 7).length c) ∧ Flds w' a (fieldsL 7) ∧ w.grownBy w' none := by
  go_enter func36, ntmps36; go_wp2_with fail; refine (mk_session w).mono ?_; rintro e w0 ⟨vt0, vl0, rfl, f0, g0⟩; have HF : Kp (FieldC w0 .session vt0 vl0 ∧ w.grownBy w0 none) := ⟨f0, g0⟩; clear f0 g0; go_wp2_with fail; refine (mk_seq w0).mono ?_; rintro e w1 ⟨vt1, vl1, rfl, f1, g1⟩; replace HF : Kp (FieldC w1 .session vt0 vl0 ∧ FieldC w1 .seq vt1 vl1 ∧ w.grownBy w1 none) := ⟨(HF.out.1).kept g1, f1, (HF.out.2).trans g1⟩; clear f1 g1; go_wp2_with fail; refine (mk_tag w1).mono ?_; rintro e w2 ⟨vt2, vl2, rfl, f2, g2⟩; replace HF : Kp (FieldC w2 .session vt0 vl0 ∧ FieldC w2 .seq vt1 vl1 ∧ FieldC w2 .tag vt2 vl2 ∧ w.grownBy w2 none) := ⟨(HF.out.1).kept g2, (HF.out.2.1).kept g2, f2, (HF.out.2.2).trans g2⟩; clear f2 g2; go_wp2_with fail; go_ret; have hn := Has.newA w2 #[vt0, vl0, vt1, vl1, vt2, vl2] 109; have gn := gAl w2 (.cells #[vt0, vl0, vt1, vl1, vt2, vl2] 109) none; refine ⟨_, _, rfl, ?_, (HF.out.2.2.2).trans gn⟩; intro i f e; have e' : [Fd.session, Fd.seq, Fd.tag][i]? = some f := e
  match i, e' with
  | 0, rfl => exact ⟨vt0, vl0, _, rfl, hn.cellv 0 _ rfl, hn.cellv 1 _ rfl, (HF.out.1).kept gn⟩
  | 1, rfl => exact ⟨vt1, vl1, _, rfl, hn.cellv 2 _ rfl, hn.cellv 3 _ rfl, (HF.out.2.1).kept gn⟩
  | 2, rfl => exact ⟨vt2, vl2, _, rfl, hn.cellv 4 _ rfl, hn.cellv 5 _ rfl, (HF.out.2.2.1).kept gn⟩
theorem fields0 (k : Int) (w : World) (hk : k < 1 ∨ 7 < k) :
    CRs 36 #[.int .i64 k] w (.slice none 0 0) := by
  have h1 : ¬ k = 1 := by omega
  have h2 : ¬ k = 2 := by omega
  have h3 : ¬ k = 3 := by omega
  have h4 : ¬ k = 4 := by omega
  have h5 : ¬ k = 5 := by omega
  have h6 : ¬ k = 6 := by omega
  have h7 : ¬ k = 7 := by omega
  clear hk; go_enter func36, ntmps36
  go_wp2
  go_ret; exact ⟨rfl, rfl⟩
theorem fieldsL_nil {k : Int} (h : k < 1 ∨ 7 < k) : fieldsL k = [] := by
  unfold fieldsL; rw [if_neg (by omega), if_neg (by omega), if_neg (by omega), if_neg (by omega), if_neg (by omega), if_neg (by omega), if_neg (by omega)]
theorem fields_c (k : Int) (w : World) :
    Calls prog 36 #[.int .i64 k] w fun e w' => ∃ a c, e = .returned (.slice a (fieldsL k).length c) ∧ Flds w' a (fieldsL k) ∧ w.grownBy w' none := by
  by_cases h : k < 1 ∨ 7 < k
  · refine (fields0 k w h).mono ?_; rintro e w' ⟨rfl, rfl⟩; rw [fieldsL_nil h]; exact ⟨none, 0, rfl, fun i f e => (by simp at e), World.grownBy.refl _ _⟩
  · (have hk : k = 1 ∨ k = 2 ∨ k = 3 ∨ k = 4 ∨ k = 5 ∨ k = 6 ∨ k = 7 := by omega); rcases hk with rfl | rfl | rfl | rfl | rfl | rfl | rfl
    · exact fields1 w
    · exact fields2 w
    · exact fields3 w
    · exact fields4 w
    · exact fields5 w
    · exact fields6 w
    · exact fields7 w
theorem fieldsL_some {k : Int} (h : ¬ (k < 1 ∨ 7 < k)) : fieldsL k ≠ [] := by
  have hk : k = 1 ∨ k = 2 ∨ k = 3 ∨ k = 4 ∨ k = 5 ∨ k = 6 ∨ k = 7 := by omega
  rcases hk with rfl | rfl | rfl | rfl | rfl | rfl | rfl <;> exact List.cons_ne_nil _ _
theorem fieldsL_len (k : Int) : (fieldsL k).length ≤ 6 := by
  by_cases h : k < 1 ∨ 7 < k
  · rw [fieldsL_nil h]; decide
  · (have hk : k = 1 ∨ k = 2 ∨ k = 3 ∨ k = 4 ∨ k = 5 ∨ k = 6 ∨ k = 7 := by omega); rcases hk with rfl | rfl | rfl | rfl | rfl | rfl | rfl <;> decide
def dv (d : Dg) : Value := .agg #[.int .i64 d.kind, .string d.nonce, .int .u64 d.epoch, .string d.cookie, .string d.name, .int .u64 d.session, .int .i64 d.player, .string d.salt, .int .u64 d.seq, .int .i64 d.thr, .int .i64 d.turn, .bool d.fire, .bool d.boost, .string d.data, .string d.tag]
theorem ly_len (d : Dg) (f : Fd) (s : LS) (h : d.small) : ((ly d f s).1.getD []).length ≤ (s.1.getD []).length + 1099511627785 := by
  obtain ⟨st, r⟩ := s; have hz : zero76.length = 76 := rfl; cases f <;> dsimp only [ly]
  case nonce => have := wBytes_len st (sl d.nonce); have := h.n; rw [sl_len] at *; omega
  case salt => have := wBytes_len st (sl d.salt); have := h.s; rw [sl_len] at *; omega
  case cookie => have := wBytes_len st (sl d.cookie); have := h.c; rw [sl_len] at *; omega
  case tag => have := wBytes_len st (sl d.tag); have := h.t; rw [sl_len] at *; omega
  case view => have := wBytes_len st (sl d.data); have := h.dt; rw [sl_len] at *; omega
  case name => have := wText_len st (sl d.name); have := h.m; rw [sl_len] at *; omega
  case zeros => have := wBytes_len st zero76; omega
  case epoch => have := wNum_len st d.epoch 8; omega
  case session => have := wNum_len st d.session 8; omega
  case seq => have := wNum_len st d.seq 8; omega
  case player => have := wNum_len st (u64 d.player) 1; omega
  case flags => have := wNum_len st (flagsN d) 1; omega
  case thr => have := wSig_len st d.thr 1; omega
  case turn => have := wSig_len st d.turn 1; omega
theorem lays_len (d : Dg) (h : d.small) : ∀ (fs : List Fd) (s : LS), ((lays d fs s).1.getD []).length ≤ (s.1.getD []).length + 1099511627785 * fs.length
  | [], s => by simp [lays]
  | f :: fs, s => by
    have h1 := lays_len d h fs (ly d f s); have h2 := ly_len d f s h; have e : lays d (f :: fs) s = lays d fs (ly d f s) := rfl; rw [e, List.length_cons]; omega
theorem lays_take (d : Dg) (fs : List Fd) (s : LS) (k : Nat) (f : Fd) (h : fs[k]? = some f) : lays d (fs.take (k + 1)) s = ly d f (lays d (fs.take k) s) := by
  have hk := (List.getElem?_eq_some_iff.1 h); obtain ⟨hk, rfl⟩ := hk; rw [List.take_succ_eq_append_getElem hk, lays, lays, List.foldl_append]; rfl
structure EL (w1 wr : World) (db ob wb : Nat) (d : Dg) (fs : List Fd) (hd : List UInt8) (k : Nat) (v : Value) : Prop where
  g : w1.grownBy wr none
  l : Lay wr db ob wb v d.cells (lays d (fs.take k) (some hd, false)).1 (lays d (fs.take k) (some hd, false)).2
  o : w1.heap.size ≤ ob
  b : w1.heap.size ≤ wb
  v : ∀ k, v.ownBlock = some k → w1.heap.size ≤ k
theorem EL.next {w1 wr wz : World} {db ob wb : Nat} {d : Dg} {fs : List Fd} {hd : List UInt8} {k : Nat} {v v' : Value} {f : Fd} (h : EL w1 wr db ob wb d fs hd k v) (hf : fs[k]? = some f) (hs : d.small) (hh : hd.length ≤ 4) (h6 : fs.length ≤ 6) (hdb : db < w1.heap.size)
    (o : OD wr wz ob wb v (ly d f (lays d (fs.take k) (some hd, false))).1 (ly d f (lays d (fs.take k) (some hd, false))).2 v') : EL w1 wz db ob wb d fs hd (k + 1) v' := by
  have hv : ∀ k, v'.ownBlock = some k → w1.heap.size ≤ k := fun j e => by
    rcases o.n j e with q | q
    · exact h.v j q
    · exact Nat.le_trans h.g.size q
  refine ⟨fr_mine h.g o.f (fun i e => ?_), ⟨h.l.d.fr o.f h.l.n, ?_, not_of hdb h.o h.b hv, ?_⟩, h.o, h.b, hv⟩
  · rcases e with e | e | e
    · rw [e]; exact h.o
    · rw [e]; exact h.b
    · exact h.v i e
  · rw [lays_take d fs _ k f hf]; exact o.a
  · have h1 := lays_len d hs (fs.take (k + 1)) (some hd, false); (have h2 : (fs.take (k + 1)).length ≤ 6 := by rw [List.length_take]; omega); simp only [Option.getD_some] at h1; omega
theorem takes_app : ∀ (xs bs : List Fd) (s : TS), takes (xs ++ bs) s = (takes xs s).bind (takes bs)
  | [], bs, s => rfl
  | f :: xs, bs, s => by
    show (tk f s).bind (takes (xs ++ bs)) = ((tk f s).bind (takes xs)).bind (takes bs); rw [Option.bind_assoc]
    congr 1
    funext x
    exact takes_app xs bs x
theorem takes_take {fs : List Fd} {s : TS} {k : Nat} {f : Fd} (h : fs[k]? = some f) : takes (fs.take (k + 1)) s = (takes (fs.take k) s).bind (tk f) := by
  obtain ⟨hk, rfl⟩ := List.getElem?_eq_some_iff.1 h; rw [List.take_succ_eq_append_getElem hk, takes_app]
  congr 1
  funext x
  show (tk _ x).bind (takes []) = _; cases tk _ x <;> rfl
theorem takes_none {fs : List Fd} {s t : TS} {k : Nat} {f : Fd} (h : fs[k]? = some f) (h1 : takes (fs.take k) s = some t) (h2 : tk f t = none) : takes fs s = none := by
  have e : takes (fs.take (k + 1)) s = none := by rw [takes_take h, h1]; exact h2
  rw [← List.take_append_drop (k + 1) fs, takes_app, e]; rfl
theorem results_ct {fn : Func} {p q : Tmp} {ty : TypeId} (h : fn.results = #[.cell p ty, .tmp q]) (tmps : Array Value) (P : Program) (w : World) :
    (results fn tmps).run P w = ((asAddr (tmps.getD p undef)).run P w).andThen fun a w₁ => ((loadVar ty a).run P w₁).andThen fun v w₂ => .ok (.tuple #[v, tmps.getD q undef]) w₂ := by
  simp only [results, h]; simp [Sem.run_bind, Result.andThen]
theorem ret_ct {P : Program} {fn : Func} {R : Ending → World → Prop} {a : Act} {w : World} {p q : Tmp} {ty t : TypeId} {b : Nat} {cs : List Value} {d : TypeDesc}
    (hr : fn.results = #[.cell p ty, .tmp q]) (hp : a.tmps.getD p undef = .pointer (some ⟨b, 0, none⟩)) (hh : Has w b cs t) (hu : P.underlying ty = some d) (hd : d.isRow = true)
    (hi : (P.info? ty).map (·.size) = some cs.length) (hdf : a.defers = []) (h : R (.returned (.tuple #[.agg cs.toArray, a.tmps.getD q undef])) w) : bodyPost P fn R .ret a w := by
  refine bodyPost_ret (v := .tuple #[.agg cs.toArray, a.tmps.getD q undef]) ?_ hdf h; rw [results_ct hr, hp]; simp [asAddr, Result.andThen, run_loadVar_mid w b 0 ty cs d hh.range hu hd hi]
theorem under26 : ∃ d, prog.underlying 34 = some d ∧ d.isRow = true := ⟨_, underlying34, rfl⟩
theorem info26 : (prog.info? 34).map (·.size) = some 15 := by kernel_rfl
structure TL (w wr : World) (db ib rb B : Nat) (fs : List Fd) (s0 : TS) (k : Nat) (s : TS) : Prop where
  g : w.grownBy wr none
  z : Has wr w.heap.size (Dg.zero 0).cells 34
  t : TkAt wr db ib rb B s
  e : takes (fs.take k) s0 = some s
  d : w.heap.size < db
  i : w.heap.size < ib
  r : w.heap.size < rb
theorem TL.next {w wr wz : World} {db ib rb B : Nat} {fs : List Fd} {s0 s s' : TS} {k : Nat} {f : Fd} (h : TL w wr db ib rb B fs s0 k s) (hf : fs[k]? = some f) (hs : tk f s = some s') (ht : TkAt wz db ib rb B s') (hfr : Fr (TF db ib rb) wr wz) : TL w wz db ib rb B fs s0 (k + 1) s' := by
  have hn : ¬ TF db ib rb w.heap.size := by
    have := h.d; have := h.i; have := h.r
    rintro (e | e | e) <;> omega
  refine ⟨fr_mine h.g hfr (fun i e => ?_), h.z.fr hfr hn, ht, by rw [takes_take hf, h.e]; exact hs, h.d, h.i, h.r⟩; have := h.d; have := h.i; have := h.r
  rcases e with e | e | e <;> omega
theorem TL.grown {w wr wz : World} {db ib rb B : Nat} {fs : List Fd} {s0 s : TS} {k : Nat} (h : TL w wr db ib rb B fs s0 k s) (g : wr.grownBy wz none) : TL w wz db ib rb B fs s0 k s :=
  ⟨h.g.trans g, h.z.kept g (by simp), ⟨h.t.d.kept g (by simp), h.t.i.kept g, h.t.n, h.t.l⟩, h.e, h.d, h.i, h.r⟩
def bodyB (s : ByteArray) : ByteArray := ba (bodyL (sl s))
theorem ext_to (s : ByteArray) (n : Nat) : s.extract 0 n = ba ((sl s).take n) := by
  apply sl_inj; rw [sl_mk]; simp only [sl, ByteArray.data_extract, Array.toList_extract, List.extract, Nat.sub_zero, List.drop_zero]
theorem ba_size (l : List UInt8) : (ba l).size = l.length := by simp [ByteArray.size]
theorem body_c (s : ByteArray) (w : World) (hs : s.size ≤ 281474976710656) :
    CRt 40 #[.string s] w (.string (bodyB s)) := by
  by_cases h36 : s.size < 36
  · (have hb : bodyB s = nob := by rw [bodyB, bodyL, if_pos (.inl (by rw [sl_len]; exact h36))]; rfl); rw [hb]; have hd : decide ((s.size : Int) < 36) = true := decide_eq_true (by omega); clear h36 hb; go_enter func40, ntmps40; go_wp2_with fail; go_ret; exact ⟨rfl, World.grownBy.refl _ _⟩
  · have hd : decide ((s.size : Int) < 36) = false := decide_eq_false (by omega); have HK := Kp.mk (kind_c s w (by omega)); by_cases ht : 3 ≤ kindL (sl s) ∧ kindL (sl s) ≤ 7
    · (have hb : bodyB s = ba ((sl s).take (s.size - 32)) := by rw [bodyB, bodyL, if_neg (by rw [sl_len]; simp [ht]; omega), sl_len]); rw [hb]; have HT := Kp.mk (tagged_c (kindL (sl s)) w); rw [decide_eq_true ht] at HT; obtain ⟨m, hm⟩ : ∃ m, s.size - 32 = m := ⟨_, rfl⟩; (have hi : IntKind.i64.wrap ((s.size : Int) - 32) = (m : Int) := by rw [show (s.size : Int) - 32 = (m : Int) by omega]; exact IntWalk.i64_in _ (by omega)); rw [hm]; (have hsz : (ba ((sl s).take m)).size ≤ 281474976710656 := by rw [ba_size, List.length_take, sl_len]; omega); have hT := ext_to s m; generalize ba ((sl s).take m) = T at hT hsz ⊢; (have hm0 : (m : Int) ≤ s.size := by omega); generalize kindL (sl s) = k at HK HT; have HZ := Kp.mk hsz; clear ht hb hm hsz h36; go_enter func40, ntmps40; go_wp2_with fail; refine HK.out.mono ?_; rintro e w1 ⟨rfl, rfl⟩; go_wp2_with fail; refine HT.out.mono ?_; rintro e w1 ⟨rfl, rfl⟩; go_wp2_with fail; refine (clone_c T _ HZ.out).mono ?_; rintro e w1 ⟨rfl, g1⟩; have HG := Kp.mk g1; clear g1; go_wp2_with fail; go_ret; exact ⟨rfl, HG.out⟩
    · (have hb : bodyB s = nob := by rw [bodyB, bodyL, if_pos (.inr ht)]; rfl); rw [hb]; have HT := Kp.mk (tagged_c (kindL (sl s)) w); rw [decide_eq_false ht] at HT; generalize kindL (sl s) = k at HK HT; clear ht hb h36; go_enter func40, ntmps40; go_wp2_with fail; refine HK.out.mono ?_; rintro e w1 ⟨rfl, rfl⟩; go_wp2_with fail; refine HT.out.mono ?_; rintro e w1 ⟨rfl, rfl⟩; go_wp2_with fail; go_ret; exact ⟨rfl, World.grownBy.refl _ _⟩
def sealed (s key : ByteArray) : Bool := decide (bodyB s ≠ nob ∧ s.extract (bodyB s).size s.size = hmacB key (bodyB s))
theorem emptyS (s : ByteArray) : s.toList.isEmpty = decide (s = nob) := by
  rw [Bool.eq_iff_iff, List.isEmpty_iff, decide_eq_true_iff, ByteArray.toList_eq]; exact ⟨fun e => ByteArray.ext (Array.toList_inj.1 e), fun e => by rw [e]; rfl⟩
theorem bodyB_size (s : ByteArray) : (bodyB s).size ≤ s.size := by
  rw [bodyB, ba_size, bodyL]; split
  · simp
  · rw [List.length_take, sl_len]; omega
theorem sealed_no (s key : ByteArray) (w : World) (hs : s.size ≤ 281474976710656) (hb : bodyB s = nob) :
    CRt 11 #[.string s, .string key] w (.bool false) := by
  have HB := Kp.mk (body_c s w hs); have hE := emptyS (bodyB s); rw [decide_eq_true hb] at hE; obtain ⟨B, hB⟩ : ∃ B, bodyB s = B := ⟨_, rfl⟩; rw [hB] at HB hE; clear hb hB; go_enter func11, ntmps11; go_wp2_with fail; refine HB.out.mono ?_; rintro e w1 ⟨rfl, g1⟩; have HG := Kp.mk g1; clear g1; go_wp2_with fail; go_quiet (fail); go_wp2_with fail; go_ret; exact ⟨rfl, HG.out.trans (gr_drewN _ _ _)⟩
theorem sealed_yes (s key : ByteArray) (w : World) (hk : Kc w) (hs : s.size ≤ 281474976710656) (hkey : key.size ≤ 2305843009213693952) (hb : bodyB s ≠ nob) :
    CRt 11 #[.string s, .string key] w (.bool (decide (s.extract (bodyB s).size s.size = hmacB key (bodyB s)))) := by
  have HB := Kp.mk (body_c s w hs); have hE := emptyS (bodyB s); rw [decide_eq_false hb] at hE; have hsz := bodyB_size s; obtain ⟨B, hB⟩ : ∃ B, bodyB s = B := ⟨_, rfl⟩; rw [hB] at HB hE hsz ⊢; have hsz2 : (B.size : Int) ≤ (s.size : Int) := by omega
  obtain ⟨X, hX⟩ : ∃ X, s.extract B.size s.size = X := ⟨_, rfl⟩; have hXs : X.size ≤ 4611686018427387904 := by rw [← hX, ByteArray.size_extract]; omega
  have HK : Kp (Kc w ∧ key.size ≤ 2305843009213693952 ∧ B.size ≤ 2305843009213693952 ∧ X.size ≤ 4611686018427387904 ∧ ∀ k t : ByteArray, (hmacB k t).size ≤ 4611686018427387904) := ⟨hk, hkey, by omega, hXs, fun k t => by rw [← sl_len]; show (Go.Proofs.YtldnpebnpbahjaaGreatDoor.sl (hmacB k t)).length ≤ _; rw [hmacB_sl]; have : (Mac.hmac (Go.Proofs.YtldnpebnpbahjaaGreatDoor.sl k) (Go.Proofs.YtldnpebnpbahjaaGreatDoor.sl t)).length = 32 := Mac.sha_len _; omega⟩; rw [hX]; clear hb hB hk hkey hXs; go_enter func11, ntmps11; go_wp2_with fail; refine HB.out.mono ?_; rintro e w1 ⟨rfl, g1⟩; have HG : Kp (w.grownBy w1.drew none) := ⟨g1.trans (gr_drew _ _)⟩; clear g1; go_wp2_with fail; refine wp_region_held_drew (S := fun _ => True) (by kernel_rfl) trivial (fun hHeld => ?_); refine hq 0 rfl ?_; refine hq 1 rfl ?_; refine hq 2 rfl ?_; refine hq 3 rfl ?_; refine hq 4 rfl ?_; refine hq 5 rfl ?_; refine hq 6 rfl ?_; refine hq 7 rfl ?_; refine hq 8 rfl ?_; simp only [Act.put, uz]; refine ha 9 (fun K hK => ?_) (ho := rfl); go_simp; refine (tag_any key B _ (HK.out.1.kept HG.out (by simp)) HK.out.2.1 HK.out.2.2.1).mono ?_; rintro e w2 ⟨rfl, g2⟩; have HG2 : Kp (w.grownBy w2 none) := ⟨HG.out.trans g2⟩; clear g2; refine hK.out _ _ trivial (fun hHeld => ?_); clear hK K; refine ha 10 (fun K hK => ?_) (ho := rfl); go_simp; refine (same_any X (hmacB key B) _ HK.out.2.2.2.1 (HK.out.2.2.2.2 _ _)).mono ?_; rintro e w3 ⟨rfl, g3⟩; have HG3 : Kp (w.grownBy w3 none) := ⟨HG2.out.trans g3⟩; clear g3; refine hK.out _ _ trivial (fun hHeld => ?_); clear hK K; refine hq 11 rfl ?_; refine hq 12 rfl ?_; simp only [Act.put, uz]; refine hd_ ?_; clear hHeld; go_wp2_with fail; go_ret; refine ⟨?_, HG3.out⟩; have : decide (Go.Proofs.YtldnpebnpbahjaaGreatDoor.sl X = Go.Proofs.YtldnpebnpbahjaaGreatDoor.sl (hmacB key B)) = decide (X = hmacB key B) := decide_eq_decide.2 ⟨fun e => sl_inj e, fun e => by rw [e]⟩; rw [← this]; rfl
theorem sealed_c (s key : ByteArray) (w : World) (hk : Kc w) (hs : s.size ≤ 281474976710656) (hkey : key.size ≤ 2305843009213693952) :
    CRt 11 #[.string s, .string key] w (.bool (sealed s key)) := by
  by_cases hb : bodyB s = nob
  · (have : sealed s key = false := by simp [sealed, hb]); rw [this]; exact sealed_no s key w hs hb
  · (have : sealed s key = decide (s.extract (bodyB s).size s.size = hmacB key (bodyB s)) := by simp [sealed, hb]); rw [this]; exact sealed_yes s key w hk hs hkey hb
theorem encode_no (d : Dg) (w : World) (h : fieldsL d.kind = []) :
    CRt 31 #[dv d] w (.tuple #[.string nob, .int .i64 71]) := by
  have HF := fields_c d.kind; rw [h] at HF; obtain ⟨kd, no, ep, co, na, se, pl, sa, sq, th, tu, fi, bo, da, ta⟩ := d; dsimp only [dv] at HF ⊢; obtain ⟨w0, hw0⟩ : ∃ q, w.alloc (.cells #[.int .i64 kd, .string no, .int .u64 ep, .string co, .string na, .int .u64 se, .int .i64 pl, .string sa, .int .u64 sq, .int .i64 th, .int .i64 tu, .bool fi, .bool bo, .string da, .string ta] 34) = q := ⟨_, rfl⟩; have h0 : Has w0 w.heap.size (Dg.cells ⟨kd, no, ep, co, na, se, pl, sa, sq, th, tu, fi, bo, da, ta⟩) 34 := by rw [← hw0]; exact Has.newA w _ 34
  have g0 : w.grownBy w0 none := by rw [← hw0]; exact gAl _ _ _
  have c0 : w0.cell? ⟨w.heap.size, 0, none⟩ = some (.int .i64 kd) := h0.cellv 0 _ rfl; have HG := Kp.mk g0; have HFF := Kp.mk HF; clear h h0 g0 HF; go_enter func31, ntmps31; go_wp2_with fail; refine (HFF.out w0).mono ?_; rintro e w1 ⟨a, c, rfl, _, g1⟩; have HG1 := Kp.mk (HG.out.trans g1); clear g1; dsimp only [List.length_nil]
  go_wp2
  go_ret2; exact ⟨rfl, HG1.out⟩
theorem encode_yes (d : Dg) (hf : d.fine) (hs : d.small) (w : World) (hk : 1 ≤ d.kind ∧ d.kind ≤ 7) :
    CRt 31 #[dv d] w (.tuple #[.string (ba (enc d).1), .int .i64 (enc d).2]) := by
  have he : enc d = finish (lays d (fieldsL d.kind) (some (headL d), false)) := by rw [enc, if_neg (fieldsL_some (by omega))]
  have hne : fieldsL d.kind ≠ [] := fieldsL_some (by omega); have h6 := fieldsL_len d.kind; have HD : Kp (d.fine ∧ d.small) := ⟨hf, hs⟩; obtain ⟨fs, hfs⟩ : ∃ fs, fieldsL d.kind = fs := ⟨_, rfl⟩; have HF := fields_c d.kind; rw [hfs] at he hne h6 HF; rw [he]; obtain ⟨n, hn⟩ : ∃ n, fs.length = n := ⟨_, rfl⟩; rw [hn] at h6 HF; have hn0 : 0 < n := by rw [← hn]; exact List.length_pos_iff.2 hne
  obtain ⟨kn, hkn⟩ : ∃ kn : Nat, d.kind = (kn : Int) := ⟨d.kind.toNat, by omega⟩; have hkn7 : kn ≤ 7 := by omega
  have hhead : headL d = [74, 48, 49, UInt8.ofNat kn] := by
    unfold headL u64; rw [hkn]; rw [show ((kn : Int) % 18446744073709551616).toNat % 256 = kn by omega]; rfl
  have HH : Kp (headL d = [74, 48, 49, UInt8.ofNat kn]) := ⟨hhead⟩; obtain ⟨D, hD⟩ : ∃ D, d.cells = D := ⟨_, rfl⟩; obtain ⟨w0, hw0⟩ : ∃ q, w.alloc (.cells D.toArray 34) = q := ⟨_, rfl⟩; have h0 : Has w0 w.heap.size D 34 := by rw [← hw0]; exact Has.new w _ 34
  have g0 : w.grownBy w0 none := by rw [← hw0]; exact gAl _ _ _
  have c0 : w0.cell? ⟨w.heap.size, 0, none⟩ = some (.int .i64 (kn : Int)) := h0.cellv 0 _ (by rw [← hD, ← hkn]; rfl); have HW : Kp (w.grownBy w0 none ∧ Has w0 w.heap.size d.cells 34) := ⟨g0, by rw [hD]; exact h0⟩; have HFF := Kp.mk (HF w0); have HN : Kp (fs.length = n ∧ n ≤ 6) := ⟨hn, h6⟩; rw [hkn] at HFF; rw [← hD] at hw0; have hw1 : w.alloc (.cells #[.int .i64 d.kind, .string d.nonce, .int .u64 d.epoch, .string d.cookie, .string d.name, .int .u64 d.session, .int .i64 d.player, .string d.salt, .int .u64 d.seq, .int .i64 d.thr, .int .i64 d.turn, .bool d.fire, .bool d.boost, .string d.data, .string d.tag] 34) = w0 := hw0; clear h0 g0 HF hne he hfs hk hhead hD hw0 hf hs hkn; unfold dv; go_enter func31, ntmps31; go_wp2_with fail; refine HFF.out.mono ?_; rintro e w1 ⟨a, c, rfl, fl, g1⟩; have HW1 : Kp (w.grownBy w1 none ∧ Has w1 w.heap.size d.cells 34 ∧ Flds w1 a fs) := ⟨HW.out.1.trans g1, HW.out.2.kept g1 (by simp), fl⟩; have c1 : w1.cell? ⟨w.heap.size, 0, none⟩ = some (.int .i64 (kn : Int)) := g1.cell c0 (by simp); clear g1 fl HFF; have hb0 : ((n : Int) == 0) = false := by simp; omega
  obtain ⟨x8, hx8⟩ : ∃ x, UInt8.ofNat kn = x := ⟨_, rfl⟩; have hx8n : (kn : Int) = (x8.toNat : Int) := by rw [← hx8]; simp; omega
  obtain ⟨w2, hw2⟩ : ∃ q, w1.alloc (.cells #[.int .u8 (kn : Int)] 5) = q := ⟨_, rfl⟩; have h2 : Has w2 w1.heap.size [.int .u8 (kn : Int)] 5 := by rw [← hw2]; exact Has.newA w1 _ 5
  have g2 : w1.grownBy w2 none := by rw [← hw2]; exact gAl _ _ _
  have hcv : (convert 60 9 (.slice (some ⟨w1.heap.size, 0, none⟩) 1 1)).run prog w2 = .ok (.string (ba [x8])) w2 := by
    have := cvt_cells w2 (some ⟨w1.heap.size, 0, none⟩) 1 [x8] (fun e => by cases e) (fun ad e j x hx => by
      obtain rfl := Option.some.inj e
      match j, hx with
      | 0, rfl => rw [show ((⟨w1.heap.size, 0, none⟩ : Addr).add 0) = ⟨w1.heap.size, 0, none⟩ from rfl, h2.cellv 0 _ rfl, hx8n])
    exact this
  obtain ⟨X, hX⟩ : ∃ X, ba [x8] = X := ⟨_, rfl⟩; obtain ⟨Y, hY⟩ : ∃ Y, mgB ++ X = Y := ⟨_, rfl⟩
  have hadd : ∀ W, (Op.stringOp .add { data := #[74, 48, 49] } X).run prog W = .ok (.string Y) W := fun W => by
    rw [← hY]; exact addS mgB X (by rw [← hX]; show 3 + 1 ≤ 9223372036854775807; decide) W
  rw [hX] at hcv
  have HY : Kp (sl Y = headL d ∧ Y.size ≤ 1048576) := by
    (have e : sl Y = headL d := by rw [HH.out, ← hY, ← hX, hx8]; rfl); exact ⟨e, by rw [← sl_len, e, HH.out]; show 4 ≤ 1048576; decide⟩
  have HW2 : Kp (w1.grownBy w2 none) := ⟨g2⟩; clear h2 g2 hX hY hx8 hx8n; go_wp2_with fail; refine (newO_c Y HY.out.2 w2).mono ?_; rintro e w3 ⟨ob, wb, v, rfl, o3, g3, l1, l2, l3⟩; have hg13 := HW2.out.trans g3; have hs12 := HW2.out.size; have hdb : w.heap.size < w1.heap.size := HW1.out.2.1.lt; have HE0 : Kp (EL w1 w3 w.heap.size ob wb d fs (headL d) 0 v) := ⟨hg13, ⟨HW1.out.2.1.kept hg13 (by simp), by rw [HY.out.1] at o3; exact o3, not_of (w := w1) hdb (Nat.le_trans hs12 l1) (Nat.le_trans hs12 l2) (fun k e => Nat.le_trans hs12 (l3 k e)), by simp [lays, HH.out]⟩, Nat.le_trans hs12 l1, Nat.le_trans hs12 l2, fun k e => Nat.le_trans hs12 (l3 k e)⟩; have HDB : Kp (w.heap.size < w1.heap.size) := ⟨hdb⟩; clear o3 g3 l1 l2 l3 hg13 hs12 hdb HW2; go_wp2_with fail
  go_loopw [23] (fun t w' => ∃ (k : Nat) (v : Value), k ≤ n ∧ t = .int .i64 k ∧ Kp (EL w1 w' w.heap.size ob wb d fs (headL d) k v)) (fun t _ => n - (intOf t).toNat)
  case atStart => exact ⟨0, v, by omega, rfl, HE0⟩
  case round =>
    obtain ⟨k, v, hkn, rfl, hrel⟩ := hrel; by_cases hlt : k < n
    · have hfk : ∃ f, fs[k]? = some f := ⟨fs[k]'(by rw [HN.out.1]; exact hlt), List.getElem?_eq_getElem _⟩; obtain ⟨f, hfk⟩ := hfk; obtain ⟨vt, vl, fb, rfl, ct, cl, FC⟩ := HW1.out.2.2 k f hfk; obtain ⟨nt, ct', nl, cl', rfl, rfl, _, enl, LC⟩ := FC; have ct := hrel.out.g.cell ct (by simp); have cl := hrel.out.g.cell cl (by simp); have HL := Kp.mk LC; have HFK := Kp.mk hfk; rw [Nat.mul_comm] at ct cl; clear LC hfk; obtain ⟨wz, hwz⟩ : ∃ q, wr.alloc (.cells #[fc nt ct', fc nl cl'] 109) = q := ⟨_, rfl⟩; have gz : wr.grownBy wz none := by rw [← hwz]; exact gAl _ _ _
      have HZ : Kp (EL w1 wz w.heap.size ob wb d fs (headL d) k v) := by
        have h := hrel.out; exact ⟨h.g.trans gz, ⟨h.l.d.kept gz (by simp), h.l.o.kept gz, h.l.n, h.l.l⟩, h.o, h.b, h.v⟩
      (have cz : wz.cell? ⟨wr.heap.size, 1, none⟩ = some (fc nl cl') := by rw [← hwz]; exact (Has.newA wr #[fc nt ct', fc nl cl'] 109).cellv 1 _ rfl); clear gz hrel; go_wp2_with fail; refine (HL.out wz w.heap.size ob wb v d _ _ HZ.out.g HZ.out.o HZ.out.b HZ.out.v HZ.out.l HD.out.1 HD.out.2).mono ?_; rintro e wy ⟨rfl, v', hod⟩; have HY2 : Kp (EL w1 wy w.heap.size ob wb d fs (headL d) (k + 1) v') := ⟨HZ.out.next HFK.out HD.out.2 (by rw [HH.out]; exact Nat.le_refl _) (by rw [HN.out.1]; exact HN.out.2) HDB.out hod⟩; clear hod HZ; go_wp2_with fail
      go_roundw
      case rel => exact ⟨k + 1, v', by omega, by go_num, HY2⟩
      case measure => simp [intOf]; omega
    · obtain rfl : k = n := by omega
      have HO : Kp (Ot wr ob wb v (lays d fs (some (headL d), false)).1 (lays d fs (some (headL d), false)).2 ∧ w.grownBy wr none) := by
        have h := hrel.out.l.o; rw [← HN.out.1, List.take_length] at h; exact ⟨h, HW1.out.1.trans hrel.out.g⟩
      clear hrel; go_wp2_with fail; refine (odone_c ob wb v _ _ wr HO.out.1).mono ?_; rintro e w9 ⟨rfl, g9⟩; have HG9 : Kp (w.grownBy w9 none) := ⟨HO.out.2.trans g9⟩; clear g9; go_wp2_with fail; go_ret2; exact ⟨rfl, HG9.out⟩
theorem encode_c (d : Dg) (hf : d.fine) (hs : d.small) (w : World) :
    CRt 31 #[dv d] w (.tuple #[.string (ba (enc d).1), .int .i64 (enc d).2]) := by
  by_cases h : 1 ≤ d.kind ∧ d.kind ≤ 7
  · exact encode_yes d hf hs w h
  · have hn : fieldsL d.kind = [] := fieldsL_nil (by omega); (have he : enc d = ([], 71) := by rw [enc, if_pos hn]); rw [he]; exact encode_no d w hn
theorem one15 {a b c d e f g h i j k l m n o : Value} (h1 : [a, b, c, d, e, f, g, h, i, j, k, l, m, n, o].all (·.oneCell') = true := by rfl) : (#[a, b, c, d, e, f, g, h, i, j, k, l, m, n, o] : Array Value).all (·.oneCell') = true := by simpa using h1
def TakeRes (o : Option TS) (e : Ending) : Prop :=
  match o with
  | none => e = .panicked give
  | some t => e = .returned (.tuple #[dv (ended (some t)).1, .int .i64 (ended (some t)).2])
theorem TakeRes.no : TakeRes none (.panicked give) := rfl
theorem TakeRes.yes {t : TS} {v : Value} (h : v = .tuple #[dv (ended (some t)).1, .int .i64 (ended (some t)).2]) : TakeRes (some t) (.returned v) := by rw [h]; rfl
theorem take_c (s : ByteArray) (a : Option Addr) (c : Nat) (fs : List Fd) (w : World) (hs : 4 ≤ s.size ∧ s.size ≤ 1200) (h6 : fs.length ≤ 6) (hfl : Flds w a fs) :
    Calls prog 39 #[.string s, .slice a fs.length c] w fun e w' => w.grownBy w' none ∧ TakeRes (takes fs (Dg.zero (kindL (sl s)), (sl s).drop 4, false)) e := by
  obtain ⟨n, hn⟩ : ∃ n, fs.length = n := ⟨_, rfl⟩; rw [hn] at h6 ⊢; obtain ⟨s0, hs0⟩ : ∃ s0 : TS, (Dg.zero (kindL (sl s)), (sl s).drop 4, false) = s0 := ⟨_, rfl⟩; rw [hs0]; obtain ⟨du, hdu, hdr⟩ := under26; have HK := Kp.mk (fun W => kind_c s W (by omega)); obtain ⟨kk, hkk⟩ : ∃ kk, kindL (sl s) = kk := ⟨_, rfl⟩; rw [hkk] at HK hs0; obtain ⟨R, hR⟩ : ∃ R, s.extract 4 s.size = R := ⟨_, rfl⟩; have HR : Kp (sl R = (sl s).drop 4 ∧ (sl s).drop 4 = s0.2.1 ∧ s0 = (Dg.zero kk, (sl s).drop 4, false) ∧ s0.2.1.length ≤ 4611686018427387904) := ⟨by rw [← hR]; exact sl_extract s 4, by rw [← hs0], hs0.symm, by rw [← hs0]; simp only [List.length_drop]; rw [sl_len]; omega⟩; obtain ⟨wA, hwA⟩ : ∃ q, w.alloc (.cells #[.int .i64 0, .string { data := #[] }, .int .u64 0, .string { data := #[] }, .string { data := #[] }, .int .u64 0, .int .i64 0, .string { data := #[] }, .int .u64 0, .int .i64 0, .int .i64 0, .bool false, .bool false, .string { data := #[] }, .string { data := #[] }] 34) = q := ⟨_, rfl⟩; obtain ⟨wB0, hwB⟩ : ∃ q, wA.alloc (.cells #[.int .i64 0, .string { data := #[] }, .int .u64 0, .string { data := #[] }, .string { data := #[] }, .int .u64 0, .int .i64 0, .string { data := #[] }, .int .u64 0, .int .i64 0, .int .i64 0, .bool false, .bool false, .string { data := #[] }, .string { data := #[] }] 34) = q := ⟨_, rfl⟩; obtain ⟨db, hdb⟩ : ∃ q, wA.heap.size = q := ⟨_, rfl⟩; have gA : w.grownBy wA none := by rw [← hwA]; exact gAl _ _ _
  have gB : wA.grownBy wB0 none := by rw [← hwB]; exact gAl _ _ _
  have hA : Has wA w.heap.size (Dg.zero 0).cells 34 := by rw [← hwA]; exact Has.newA w _ 34
  have hB : Has wB0 db (Dg.zero 0).cells 34 := by rw [← hwB, ← hdb]; exact Has.newA wA _ 34
  have HW0 : Kp (w.grownBy wB0 none ∧ Has wB0 w.heap.size (Dg.zero 0).cells 34 ∧ Has wB0 db (Dg.zero 0).cells 34 ∧ w.heap.size < db) := ⟨gA.trans gB, hA.kept gB (by simp), hB, by have := hA.lt; omega⟩; have HFL : Kp (Flds w a fs ∧ fs.length = n) := ⟨hfl, hn⟩; clear gA gB hA hB hfl hn hs0 hkk; go_enter func39, ntmps39; go_wp2_with fail; refine (HK.out wA).mono ?_; rintro e wq ⟨rfl, hwq⟩; subst hwq
  go_wp2_with (
    (refine wpList_store_mid rfl 34 _ _ rfl _ _ _ rfl rfl (HW0.out.2.2.1.there 0 15 (Nat.le_refl 15)) info26 one15 ?_
     generalize hw2 : World.setCells _ _ _ _ = wB
     have HW : Kp (w.grownBy wB none ∧ Has wB w.heap.size (Dg.zero 0).cells 34 ∧ Has wB db (Dg.zero kk).cells 34 ∧ w.heap.size < db) := by
       obtain ⟨q1, q2, q3, q4⟩ := HW0.out; have g := gr_sets db (Dg.zero kk).cells wB0 0; rw [show wB0.setCells db 0 (Dg.zero kk).cells = wB from hw2] at g; refine ⟨gr_new q1 g (Nat.le_of_lt q4), q2.kept g (by simp; omega), ?_, q4⟩; rw [← hw2]; exact q3.setAll (Dg.zero kk).cells rfl
     clear hw2))
  refine (newI_c R wB).mono ?_; rintro e w3 ⟨ib, rb, B, rfl, i3, g3, l1, l2, l3⟩
  have HT : Kp (TL w w3 db ib rb B fs s0 0 s0) := by
    obtain ⟨q1, q2, q3, q4⟩ := HW.out; have hlt := q3.lt; refine ⟨q1.trans g3, q2.kept g3 (by simp), ⟨?_, ?_, ⟨by omega, by omega, by omega⟩, HR.out.2.2.2⟩, rfl, q4, by omega, by omega⟩
    · rw [HR.out.2.2.1]; exact q3.kept g3 (by simp)
    · rw [← HR.out.2.1, HR.out.2.2.1, ← HR.out.1]; exact i3
  clear i3 g3 l1 l2 l3 HW; go_wp2_with fail
  go_loopw [19] (fun t w' => ∃ (k : Nat) (x : TS), k ≤ n ∧ t = .int .i64 k ∧ Kp (TL w w' db ib rb B fs s0 k x)) (fun t _ => n - (intOf t).toNat)
  case atStart => exact ⟨0, s0, by omega, rfl, HT⟩
  case round =>
    obtain ⟨k, x, hkn, rfl, hrel⟩ := hrel; by_cases hlt : k < n
    · have hfk : ∃ f, fs[k]? = some f := ⟨fs[k]'(by rw [HFL.out.2]; exact hlt), List.getElem?_eq_getElem _⟩; obtain ⟨f, hfk⟩ := hfk; obtain ⟨vt, vl, fb, rfl, ct, cl, FC⟩ := HFL.out.1 k f hfk; obtain ⟨nt, ct', nl, cl', rfl, rfl, ⟨enl, TC⟩, _⟩ := FC; have ct := hrel.out.g.cell ct (by simp); have cl := hrel.out.g.cell cl (by simp); have HL := Kp.mk TC; have HFK := Kp.mk hfk; rw [Nat.mul_comm] at ct cl; clear TC hfk; obtain ⟨wz, hwz⟩ : ∃ q, wr.alloc (.cells #[fc nt ct', fc nl cl'] 109) = q := ⟨_, rfl⟩; have HZ : Kp (TL w wz db ib rb B fs s0 k x) := ⟨hrel.out.grown (by rw [← hwz]; exact gAl _ _ _)⟩; (have cz : wz.cell? ⟨wr.heap.size, 0, none⟩ = some (fc nt ct') := by rw [← hwz]; exact (Has.newA wr #[fc nt ct', fc nl cl'] 109).cellv 0 _ rfl); clear hrel; go_wp2_with fail; refine (HL.out wz db ib rb B x HZ.out.g (Nat.le_of_lt HZ.out.d) (Nat.le_of_lt HZ.out.i) (Nat.le_of_lt HZ.out.r) HZ.out.t).mono ?_; rintro e wy ⟨hres, hfr⟩; cases hx : tk f x with
      | none =>
        rw [hx] at hres; obtain rfl : e = .panicked give := hres; have hno := takes_none HFK.out HZ.out.e hx
        have hg : w.grownBy wy none := fr_mine HZ.out.g hfr (fun i e => by
          have := HZ.out.d; have := HZ.out.i; have := HZ.out.r
          rcases e with e | e | e <;> omega)
        refine ⟨rfl, hg, ?_⟩; rw [hno]; exact TakeRes.no
      | some x' =>
        rw [hx] at hres; obtain ⟨rfl, ht'⟩ := hres; have HN : Kp (TL w wy db ib rb B fs s0 (k + 1) x') := ⟨HZ.out.next HFK.out hx ht' hfr⟩; clear hx ht' hfr HZ; go_wp2_with fail
        go_roundw
        case rel => exact ⟨k + 1, x', by omega, by go_num, HN⟩
        case measure => simp [intOf]; omega
    · obtain rfl : k = n := by omega
      have hx : takes fs s0 = some x := by
        have := hrel.out.e; rw [← HFL.out.2, List.take_length] at this; exact this
      have HXE := Kp.mk hx; obtain ⟨dx, L, r⟩ := x; have HX : Kp (TL w wr db ib rb B fs s0 k (dx, L, r)) := hrel; have HI := Kp.mk (idone_c ib rb B L r wr HX.out.t.i); clear hx hrel; by_cases h0 : 0 < L.length
      · (have hend : ended (some (dx, L, r)) = (Dg.zero 0, 72) := by simp [ended, h0]); rw [if_pos h0] at HI; clear h0; go_wp2_with fail; refine HI.out.mono ?_; rintro e wq ⟨rfl, hwq⟩; rw [hwq]; clear hwq wq
        go_wp2_with (
          (refine wpList_store_mid rfl 34 _ _ rfl _ _ _ rfl rfl (HX.out.z.there 0 15 (Nat.le_refl 15)) info26 one15 ?_
           generalize hw2 : World.setCells _ _ _ _ = w9
           have HW9 : Kp (w.grownBy w9 none ∧ Has w9 w.heap.size (Dg.zero 0).cells 34) := by
             have g := gr_sets w.heap.size (Dg.zero 0).cells wr 0; rw [show wr.setCells w.heap.size 0 (Dg.zero 0).cells = w9 from hw2] at g; refine ⟨gr_new HX.out.g g (Nat.le_refl _), ?_⟩; rw [← hw2]; exact HX.out.z.setAll (Dg.zero 0).cells rfl
           clear hw2))
        refine ret_ct rfl rfl HW9.out.2 hdu hdr info26 rfl ⟨HW9.out.1, ?_⟩; rw [HXE.out]; exact TakeRes.yes (by rw [hend]; rfl)
      · cases r
        · (have hend : ended (some (dx, L, false)) = (dx, 0) := by simp [ended, h0]); rw [if_neg h0] at HI; simp only [Bool.false_eq_true, if_false] at HI; clear h0; obtain ⟨D, hD⟩ : ∃ D, dx.cells = D := ⟨_, rfl⟩; (have hDl : D.length = 15 := by rw [← hD]; rfl); (have hD1 : D.toArray.all (·.oneCell') = true := by rw [← hD]; simp [Dg.cells, Value.oneCell']); have HDD : Kp (Has wr db D 34 ∧ D.length = 15 ∧ D.toArray.all (·.oneCell') = true ∧ (prog.info? 34).map (·.size) = some D.length) := ⟨by rw [← hD]; exact HX.out.t.d, hDl, hD1, by rw [hDl]; exact info26⟩; clear hDl hD1; go_wp2_with fail; refine HI.out.mono ?_; rintro e wq ⟨rfl, hwq⟩; rw [hwq]; clear hwq wq
          go_wp2_with (first
            | (refine wpList_load_mid rfl 34 _ rfl _ _ rfl D _ HDD.out.1.range hdu hdr HDD.out.2.2.2 ?_)
            | (refine wpList_store_mid rfl 34 _ _ rfl _ _ _ rfl rfl (HX.out.z.there 0 _ (by rw [List.size_toArray, HDD.out.2.1]; exact Nat.le_refl 15)) (by rw [List.size_toArray]; exact HDD.out.2.2.2) HDD.out.2.2.1 ?_
               generalize hw2 : World.setCells _ _ _ _ = w9
               have HW9 : Kp (w.grownBy w9 none ∧ Has w9 w.heap.size D 34) := by
                 have g := gr_sets w.heap.size D wr 0; rw [show wr.setCells w.heap.size 0 D = w9 from hw2] at g; refine ⟨gr_new HX.out.g g (Nat.le_refl _), ?_⟩; rw [← hw2]; exact HX.out.z.setAll D (by rw [HDD.out.2.1]; rfl)
               clear hw2))
          refine ret_ct rfl rfl HW9.out.2 hdu hdr HDD.out.2.2.2 rfl ⟨HW9.out.1, ?_⟩; rw [HXE.out]; exact TakeRes.yes (by rw [hend, ← hD]; rfl)
        · (have hend : ended (some (dx, L, true)) = (Dg.zero 0, 73) := by simp [ended, h0]); rw [if_neg h0] at HI; simp only [if_true] at HI; clear h0; go_wp2_with fail; refine HI.out.mono ?_; rintro e wq ⟨rfl, hwq⟩; rw [hwq]; clear hwq wq
          go_wp2_with (
            (refine wpList_store_mid rfl 34 _ _ rfl _ _ _ rfl rfl (HX.out.z.there 0 15 (Nat.le_refl 15)) info26 one15 ?_
             generalize hw2 : World.setCells _ _ _ _ = w9
             have HW9 : Kp (w.grownBy w9 none ∧ Has w9 w.heap.size (Dg.zero 0).cells 34) := by
               have g := gr_sets w.heap.size (Dg.zero 0).cells wr 0; rw [show wr.setCells w.heap.size 0 (Dg.zero 0).cells = w9 from hw2] at g; refine ⟨gr_new HX.out.g g (Nat.le_refl _), ?_⟩; rw [← hw2]; exact HX.out.z.setAll (Dg.zero 0).cells rfl
             clear hw2))
          refine ret_ct rfl rfl HW9.out.2 hdu hdr info26 rfl ⟨HW9.out.1, ?_⟩; rw [HXE.out]; exact TakeRes.yes (by rw [hend]; rfl)
theorem results_cc {fn : Func} {p q : Tmp} {ty tz : TypeId} (h : fn.results = #[.cell p ty, .cell q tz]) (tmps : Array Value) (P : Program) (w : World) :
    (results fn tmps).run P w = ((asAddr (tmps.getD p undef)).run P w).andThen fun a w₁ => ((loadVar ty a).run P w₁).andThen fun v w₂ => ((asAddr (tmps.getD q undef)).run P w₂).andThen fun b w₃ => ((loadVar tz b).run P w₃).andThen fun u w₄ => .ok (.tuple #[v, u]) w₄ := by
  simp only [results, h]; simp [Sem.run_bind, Result.andThen]
theorem load28 (w : World) (b : Nat) (x : Int) (h : Has w b [.int .i64 x] 30) : (loadVar 30 ⟨b, 0, none⟩).run prog w = .ok (.int .i64 x) w := by
  have c : w.cell? ⟨b, 0, none⟩ = some (.int .i64 x) := h.cellv 0 _ rfl; simp [loadVar, go_sem, c]
theorem leave_cc {fn : Func} {R : Ending → World → Prop} {tmps : Array Value} {w : World} {p q : Tmp} {b b' : Nat} {D : List Value} {x : Int}
    (hr : fn.results = #[.cell p 34, .cell q 30]) (hp : tmps.getD p undef = pv b) (hq : tmps.getD q undef = pv b') (h1 : Has w b D 34) (hl : D.length = 15) (h2 : Has w b' [.int .i64 x] 30)
    (h : R (.returned (.tuple #[.agg D.toArray, .int .i64 x])) w) : Leaves prog fn tmps R [] .returning w := by
  obtain ⟨du, hdu, hdr⟩ := under26; refine ⟨.tuple #[.agg D.toArray, .int .i64 x], ?_, h⟩; rw [results_cc hr, hp, hq]; have e1 := run_loadVar_mid (P := prog) w b 0 34 D du h1.range hdu hdr (by rw [hl]; exact info26); have e2 := load28 w b' x h2; simp [asAddr, Result.andThen, e1, e2]
theorem catch_panic (b b' : Nat) (v : Value) (D : List Value) (x : Int) (w : World) (h1 : Has w b D 34) (hl : D.length = 15) (h2 : Has w b' [.int .i64 x] 30) (hb : b ≠ b') :
    CallsD prog  38 #[pv b, pv b'] (.panicking [{ v := .iface 30 v, recovered := false }]) w fun e u' w' =>
      e = .returned (.tuple #[]) ∧ u' = .panicking [{ v := .iface 30 v, recovered := true }] ∧ Has w' b (Dg.zero 0).cells 34 ∧ Has w' b' [.int .i64 72] 30 ∧ Fr (fun i => i = b ∨ i = b') w w' := by
  have HA : Kp (Has w b D 34 ∧ D.length = 15 ∧ Has w b' [.int .i64 x] 30) := ⟨h1, hl, h2⟩; clear h1 hl h2; refine callsD_of_wpS func38 rfl fun c₀ cs hu => ?_
  apply wpS_seq; apply wpS_region; simp [wpOpsS, go_sem, recoverD, hu, ntmps38, Exit.thenS]; refine wpS_cond (t := true) (by simp [Act.eval, Array.replicate]) ?_; simp only [if_true]; refine wpS_of_wp ?_; rw [show (#[pv b, pv b'] ++ ((Array.replicate 3 undef).setIfInBounds 0 (Value.iface 30 v)).setIfInBounds 1 (Value.bool true)) = #[pv b, pv b', .iface 30 v, .bool true, undef] from rfl]
  go_wp2_with (
    (refine wpList_store_mid rfl 34 _ _ rfl _ _ _ rfl rfl (HA.out.1.there 0 15 (by rw [HA.out.2.1]; exact Nat.le_refl 15)) info26 one15 ?_
     generalize hw2 : World.setCells _ _ _ _ = w9
     have HW9 : Kp (Has w9 b (Dg.zero 0).cells 34 ∧ Has w9 b' [.int .i64 x] 30 ∧ Fr (fun i => i = b ∨ i = b') w w9) := by
       have g := gr_sets b (Dg.zero 0).cells w 0; rw [show w.setCells b 0 (Dg.zero 0).cells = w9 from hw2] at g; refine ⟨?_, HA.out.2.2.kept g (by simp; omega), Fr.ofSome g (.inl rfl)⟩; rw [← hw2]; exact HA.out.1.setAll (Dg.zero 0).cells (by rw [HA.out.2.1]; rfl)
     have c9 : w9.cell? ⟨b', 0, none⟩ = some (.int .i64 x) := HW9.out.2.1.cellv 0 _ rfl; have z9 : w9.frozen? ⟨b', 0, none⟩ = false := HW9.out.2.1.frozen 0
     clear hw2))
  have HF : Kp (Has (w9.setCell ⟨b', 0, none⟩ (.int .i64 72)) b (Dg.zero 0).cells 34 ∧ Has (w9.setCell ⟨b', 0, none⟩ (.int .i64 72)) b' [.int .i64 72] 30 ∧ Fr (fun i => i = b ∨ i = b') w (w9.setCell ⟨b', 0, none⟩ (.int .i64 72))) :=
    ⟨HW9.out.1.other _ _ (Ne.symm hb), HW9.out.2.1.setCell 0 _, HW9.out.2.2.trans (Fr.ofSome (gr_set w9 b' 0 _) (.inr rfl))⟩
  generalize w9.setCell ⟨b', 0, none⟩ (.int .i64 72) = w8 at HF ⊢; clear HW9 c9 z9; cases c₀; simp_all [bodyPostS, results, Tryz.results38]; exact HF.out
theorem catch_idle (b b' : Nat) (w : World) :
    CallsD prog  38 #[pv b, pv b'] .returning w fun e u' w' => e = .returned (.tuple #[]) ∧ u' = .returning ∧ w' = w := by
  refine callsD_of_wpS func38 rfl fun c₀ cs hu => ?_
  apply wpS_seq; apply wpS_region; simp [wpOpsS, go_sem, recoverD, hu, ntmps38, Exit.thenS]; refine wpS_cond (t := false) (by simp [Act.eval, Array.replicate]) ?_; simp only [Bool.false_eq_true, if_false]; refine wpS_of_wp (wp_skip ?_); cases c₀; simp_all [bodyPostS, results, Tryz.results38]
theorem bp_ret {P : Program} {fn : Func} {R : Ending → World → Prop} {a : Act} {w : World} (h : Leaves P fn a.tmps R a.defers .returning w) : bodyPostD P fn R .ret a w := h
theorem dec_no {s : List UInt8} (h1 : ¬ 1200 < s.length) (h2 : s.take 3 = magic) (h3 : fieldsL (kindL s) ≠ []) : dec s = ended (takes (fieldsL (kindL s)) (Dg.zero (kindL s), s.drop 4, false)) := by
  rw [dec, if_neg h1, if_neg (by simp [h2]), if_neg h3]
theorem decode_c (s : ByteArray) (w : World) (hs : s.size ≤ 4611686018427387904) :
    CRt 10 #[.string s] w (.tuple #[dv (dec (sl s)).1, .int .i64 (dec (sl s)).2]) := by
  have hmf : MF := fun _ _ _ _ => rfl
  by_cases h12 : 1200 < s.size
  · have hd : decide ((1200 : Int) < (s.size : Int)) = true := decide_eq_true (by omega); (have he : dec (sl s) = (Dg.zero 0, 72) := by rw [dec, if_pos (by rw [sl_len]; exact h12)]); rw [he]; clear h12 he
    go_enter_defers func10, ntmps10
    go_wp2
    obtain ⟨q1, q2, q3⟩ := two w #[.int .i64 0, .string { data := #[] }, .int .u64 0, .string { data := #[] }, .string { data := #[] }, .int .u64 0, .int .i64 0, .string { data := #[] }, .int .u64 0, .int .i64 0, .int .i64 0, .bool false, .bool false, .string { data := #[] }, .string { data := #[] }] #[.int .i64 72] 34 30; refine bp_ret ?_; show Leaves prog Tryz.f10 _ _ [] .returning _; exact leave_cc rfl rfl rfl q1 rfl q2 ⟨rfl, q3⟩
  · have hd : decide ((1200 : Int) < (s.size : Int)) = false := decide_eq_false (by omega); (have h12' : ¬ 1200 < (sl s).length := by rw [sl_len]; exact h12); by_cases hm : (sl s).take 3 = magic
    · have HP := Kp.mk (fun W => hp_c s W); rw [decide_eq_true hm] at HP; have HK := Kp.mk (fun W => kind_c s W hs)
      have hk0 : ∀ fs, fieldsL (kindL (sl s)) = fs → fs ≠ [] → 4 ≤ s.size := fun fs e hne => by
        by_cases h4 : s.size < 4
        · (have : kindL (sl s) = 0 := by rw [kindL, if_pos (.inl (by rw [sl_len]; exact h4))]); rw [this] at e; exact absurd e.symm hne
        · omega
      have HD : Kp (∀ fs, fieldsL (kindL (sl s)) = fs → fs ≠ [] → dec (sl s) = ended (takes fs (Dg.zero (kindL (sl s)), (sl s).drop 4, false))) := ⟨fun fs e hne => by rw [← e]; exact dec_no h12' hm (by rw [e]; exact hne)⟩; have HD0 : Kp (fieldsL (kindL (sl s)) = [] → dec (sl s) = (Dg.zero 0, 71)) := ⟨fun e => by rw [dec, if_neg h12', if_neg (by simp [hm]), if_pos e]⟩; have HF := fields_c (kindL (sl s)); have h6 := fieldsL_len (kindL (sl s)); obtain ⟨fs, hfs⟩ : ∃ fs, fieldsL (kindL (sl s)) = fs := ⟨_, rfl⟩; rw [hfs] at HF HD HD0 h6; have hk0' := hk0 fs hfs; replace HD := Kp.mk (HD.out fs rfl); have HFF := Kp.mk HF; have HS : Kp (fs ≠ [] → 4 ≤ s.size ∧ s.size ≤ 1200) := ⟨fun h => ⟨hk0' h, by omega⟩⟩; have HTK := Kp.mk (fun (W : World) a c (h : fs ≠ []) (hf : Flds W a fs) => take_c s a c fs W (HS.out h) h6 hf); obtain ⟨kk, hkk⟩ : ∃ kk, kindL (sl s) = kk := ⟨_, rfl⟩; rw [hkk] at HFF HK; obtain ⟨n, hn⟩ : ∃ n, fs.length = n := ⟨_, rfl⟩; have HN := Kp.mk hn; rw [hn] at HFF HTK h6; obtain ⟨wA, hwA⟩ : ∃ q, (w.alloc (.cells #[.int .i64 0, .string { data := #[] }, .int .u64 0, .string { data := #[] }, .string { data := #[] }, .int .u64 0, .int .i64 0, .string { data := #[] }, .int .u64 0, .int .i64 0, .int .i64 0, .bool false, .bool false, .string { data := #[] }, .string { data := #[] }] 34)).alloc (.cells #[.int .i64 0] 30) = q := ⟨_, rfl⟩; obtain ⟨q1, q2, q3⟩ := two w #[.int .i64 0, .string { data := #[] }, .int .u64 0, .string { data := #[] }, .string { data := #[] }, .int .u64 0, .int .i64 0, .string { data := #[] }, .int .u64 0, .int .i64 0, .int .i64 0, .bool false, .bool false, .string { data := #[] }, .string { data := #[] }] #[.int .i64 0] 34 30; rw [hwA] at q1 q2 q3; have HA : Kp (Has wA w.heap.size (Dg.zero 0).cells 34 ∧ Has wA (w.heap.size + 1) [.int .i64 0] 30 ∧ w.grownBy wA none) := ⟨q1, q2, q3⟩; clear HF h12 h12' hm hk0 hfs hk0' hkk hn q1 q2 q3
      go_enter_defers func10, ntmps10
      go_wp2_with fail; refine (HP.out wA).mono ?_; rintro e wq ⟨rfl, hwq⟩; rw [hwq]; clear hwq wq; go_wp2_with fail; refine (HK.out wA).mono ?_; rintro e wq ⟨rfl, hwq⟩; rw [hwq]; clear hwq wq; go_wp2_with fail; refine (HFF.out wA).mono ?_; rintro e w1 ⟨a, c, rfl, fl, g1⟩; have HB : Kp (Has w1 w.heap.size (Dg.zero 0).cells 34 ∧ Has w1 (w.heap.size + 1) [.int .i64 0] 30 ∧ w.grownBy w1 none ∧ Flds w1 a fs) := ⟨HA.out.1.kept g1 (by simp), HA.out.2.1.kept g1 (by simp), HA.out.2.2.trans g1, fl⟩; clear fl g1; obtain ⟨du, hdu, hdr⟩ := under26; by_cases hn0 : n = 0
      · (have hb0 : ((n : Int) == 0) = true := by simp; omega); have hfs0 : fs = [] := List.eq_nil_of_length_eq_zero (HN.out.trans hn0); have HE := Kp.mk (HD0.out hfs0); have c9 : w1.cell? ⟨w.heap.size + 1, 0, none⟩ = some (.int .i64 0) := HB.out.2.1.cellv 0 _ rfl; have z9 : w1.frozen? ⟨w.heap.size + 1, 0, none⟩ = false := HB.out.2.1.frozen 0; clear hn0 hfs0
        go_wp2_with (first
          | (refine wpList_load_mid rfl 34 _ rfl _ _ rfl (Dg.zero 0).cells _ HB.out.1.range hdu hdr info26 ?_)
          | (refine wpList_store_mid rfl 34 _ _ rfl _ _ _ rfl rfl (HB.out.1.there 0 15 (Nat.le_refl 15)) info26 one15 ?_
             generalize hw2 : World.setCells _ _ _ _ = w9
             have HW9 : Kp (Has w9 w.heap.size (Dg.zero 0).cells 34 ∧ Has w9 (w.heap.size + 1) [.int .i64 0] 30 ∧ w.grownBy w9 none) := by
               have g := gr_sets w.heap.size (Dg.zero 0).cells w1 0; rw [show w1.setCells w.heap.size 0 (Dg.zero 0).cells = w9 from hw2] at g; refine ⟨?_, HB.out.2.1.kept g (by simp), gr_new HB.out.2.2.1 g (Nat.le_refl _)⟩; rw [← hw2]; exact HB.out.1.setAll (Dg.zero 0).cells rfl
             have c9 : w9.cell? ⟨w.heap.size + 1, 0, none⟩ = some (.int .i64 0) := HW9.out.2.1.cellv 0 _ rfl; have z9 : w9.frozen? ⟨w.heap.size + 1, 0, none⟩ = false := HW9.out.2.1.frozen 0
             clear hw2))
        refine bp_ret ?_; show Leaves prog Tryz.f10 _ _ [] .returning _; refine leave_cc rfl rfl rfl (HW9.out.1.other _ _ (by simp)) rfl (HW9.out.2.1.setCell 0 _) ⟨by rw [HE.out]; rfl, gr_new HW9.out.2.2 (gr_set _ _ _ _) (by omega)⟩
      · (have hb0 : ((n : Int) == 0) = false := by simp; omega); (have hne : fs ≠ [] := fun e => hn0 (by rw [← HN.out, e]; rfl)); have HE := Kp.mk (HD.out hne); have HT := Kp.mk (HTK.out w1 a c hne HB.out.2.2.2); clear hn0 hne; go_wp2_with fail; refine HT.out.mono ?_; rintro e w2 ⟨g2, hres⟩; have HC : Kp (Has w2 w.heap.size (Dg.zero 0).cells 34 ∧ Has w2 (w.heap.size + 1) [.int .i64 0] 30 ∧ w.grownBy w2 none) := ⟨HB.out.1.kept g2 (by simp), HB.out.2.1.kept g2 (by simp), HB.out.2.2.1.trans g2⟩; clear g2; cases ht : takes fs (Dg.zero (kindL (sl s)), (sl s).drop 4, false) with
        | none =>
          rw [ht] at hres; obtain rfl : e = .panicked give := hres; rw [ht] at HE; show Leaves prog Tryz.f10 _ _ [_] (.panicking give) _; refine leaves_cons (f := 38) (args := #[pv w.heap.size, pv (w.heap.size + 1)]) (by simp) (by simp [go_sem]) ?_; refine (catch_panic w.heap.size (w.heap.size + 1) (.int .i64 72) (Dg.zero 0).cells 0 w2 HC.out.1 rfl HC.out.2.1 (by omega)).mono ?_; rintro e u' w9 ⟨rfl, rfl, k1, k2, f9⟩; show Leaves prog Tryz.f10 _ _ [] .returning _; exact leave_cc rfl rfl rfl k1 rfl k2 ⟨by rw [HE.out]; rfl, fr_mine HC.out.2.2 f9 (fun i e => by omega)⟩
        | some t =>
          rw [ht] at hres; obtain rfl : e = .returned (.tuple #[dv (ended (some t)).1, .int .i64 (ended (some t)).2]) := hres; rw [ht] at HE; obtain ⟨dx, hdx⟩ : ∃ x, (ended (some t)).1 = x := ⟨_, rfl⟩; obtain ⟨ex, hex⟩ : ∃ x, (ended (some t)).2 = x := ⟨_, rfl⟩; rw [hdx, hex]; have HE2 : Kp (dec (sl s) = (dx, ex)) := ⟨by rw [HE.out, ← hdx, ← hex]⟩; obtain ⟨D, hD⟩ : ∃ D, dx.cells = D := ⟨_, rfl⟩; (have hDl : D.length = 15 := by rw [← hD]; rfl); (have hD1 : D.toArray.all (·.oneCell') = true := by rw [← hD]; simp [Dg.cells, Value.oneCell']); have HDD : Kp (D.length = 15 ∧ D.toArray.all (·.oneCell') = true ∧ (prog.info? 34).map (·.size) = some D.toArray.size) := ⟨hDl, hD1, by rw [List.size_toArray, hDl]; exact info26⟩; rw [show dv dx = .agg D.toArray from by rw [← hD]; rfl]; clear hDl hD1 hdx hex HE ht
          go_wp2_with (
            (refine wpList_store_mid rfl 34 _ _ rfl _ _ _ rfl rfl (HC.out.1.there 0 _ (by rw [List.size_toArray, HDD.out.1]; exact Nat.le_refl 15)) HDD.out.2.2 HDD.out.2.1 ?_
             generalize hw2 : World.setCells _ _ _ _ = w9
             have HW9 : Kp (Has w9 w.heap.size D 34 ∧ Has w9 (w.heap.size + 1) [.int .i64 0] 30 ∧ w.grownBy w9 none) := by
               have g := gr_sets w.heap.size D w2 0; rw [show w2.setCells w.heap.size 0 D = w9 from hw2] at g; refine ⟨?_, HC.out.2.1.kept g (by simp), gr_new HC.out.2.2 g (Nat.le_refl _)⟩; rw [← hw2]; exact HC.out.1.setAll D (by rw [HDD.out.1]; rfl)
             have c9 : w9.cell? ⟨w.heap.size + 1, 0, none⟩ = some (.int .i64 0) := HW9.out.2.1.cellv 0 _ rfl; have z9 : w9.frozen? ⟨w.heap.size + 1, 0, none⟩ = false := HW9.out.2.1.frozen 0
             clear hw2))
          show Leaves prog Tryz.f10 _ _ [_] .returning _; refine leaves_cons (f := 38) (args := #[pv w.heap.size, pv (w.heap.size + 1)]) (by simp) (by simp [go_sem]) ?_; refine (catch_idle w.heap.size (w.heap.size + 1) _).mono ?_; rintro e u' w8 ⟨rfl, rfl, rfl⟩; show Leaves prog Tryz.f10 _ _ [] .returning _; exact leave_cc rfl rfl rfl (HW9.out.1.other _ _ (by simp)) HDD.out.1 (HW9.out.2.1.setCell 0 _) ⟨by rw [HE2.out, ← hD]; rfl, gr_new HW9.out.2.2 (gr_set _ _ _ _) (by omega)⟩
    · have HP := Kp.mk (fun W => hp_c s W); rw [decide_eq_false hm] at HP; (have he : dec (sl s) = (Dg.zero 0, 70) := by rw [dec, if_neg h12', if_pos hm]); rw [he]; clear h12 h12' he hm
      go_enter_defers func10, ntmps10
      go_wp2_with fail; refine (HP.out _).mono ?_; rintro e wq ⟨rfl, rfl⟩
      go_wp2
      obtain ⟨q1, q2, q3⟩ := two w #[.int .i64 0, .string { data := #[] }, .int .u64 0, .string { data := #[] }, .string { data := #[] }, .int .u64 0, .int .i64 0, .string { data := #[] }, .int .u64 0, .int .i64 0, .int .i64 0, .bool false, .bool false, .string { data := #[] }, .string { data := #[] }] #[.int .i64 70] 34 30; refine bp_ret ?_; show Leaves prog Tryz.f10 _ _ [] .returning _; exact leave_cc rfl rfl rfl q1 rfl q2 ⟨rfl, q3⟩
def zero32 : ByteArray := ba (List.replicate 32 0)
def Dg.bare (d : Dg) : Dg := { d with tag := zero32 }
def sealD (d : Dg) (key : ByteArray) : ByteArray × Int :=
  if 3 ≤ d.kind ∧ d.kind ≤ 7 then
    if (enc d.bare).2 = 0 then (bodyB (ba (enc d.bare).1) ++ hmacB key (bodyB (ba (enc d.bare).1)), 0) else (nob, (enc d.bare).2)
  else (nob, 71)
theorem Dg.bare_fine {d : Dg} (h : d.fine) : d.bare.fine := ⟨h.k, h.e, h.s, h.p, h.q, h.h, h.t⟩
theorem Dg.bare_small {d : Dg} (h : d.small) : d.bare.small := ⟨h.n, h.c, h.m, h.s, h.dt, by show (ba (List.replicate 32 0)).size ≤ _; decide⟩
theorem finish_le (s : LS) : (finish s).1.length ≤ 1200 := by
  obtain ⟨st, r⟩ := s; cases st with
  | none => simp [finish]
  | some L =>
    simp only [finish]; by_cases h : r = true
    · simp [h]
    · by_cases h2 : 1200 < L.length
      · simp [h, h2]
      · simp [h, h2]; omega
theorem enc_le (d : Dg) : (enc d).1.length ≤ 1200 := by
  unfold enc; split
  · simp
  · exact finish_le _
theorem hmacB_size (k t : ByteArray) : (hmacB k t).size = 32 := by
  rw [← sl_len]; show (Go.Proofs.YtldnpebnpbahjaaGreatDoor.sl (hmacB k t)).length = _; rw [hmacB_sl]; exact Mac.sha_len _
theorem seal_c (d : Dg) (key : ByteArray) (hf : d.fine) (hs : d.small) (w : World) (hk : Kc w) (hkey : key.size ≤ 2305843009213693952) :
    CRt 18 #[dv d, .string key] w (.tuple #[.string (sealD d key).1, .int .i64 (sealD d key).2]) := by
  obtain ⟨du, hdu, hdr⟩ := under26; obtain ⟨kd, hkd⟩ : ∃ x, d.kind = x := ⟨_, rfl⟩; obtain ⟨w0, hw0⟩ : ∃ q, w.alloc (.cells d.cells.toArray 34) = q := ⟨_, rfl⟩; have h0 : Has w0 w.heap.size d.cells 34 := by rw [← hw0]; exact Has.new w _ 34
  have g0 : w.grownBy w0 none := by rw [← hw0]; exact gAl _ _ _
  have c0 : w0.cell? ⟨w.heap.size, 0, none⟩ = some (.int .i64 kd) := h0.cellv 0 _ (by rw [← hkd]; rfl); have HW : Kp (w.grownBy w0 none ∧ Has w0 w.heap.size d.cells 34 ∧ Kc w ∧ d.bare.fine ∧ d.bare.small ∧ key.size ≤ 2305843009213693952) := ⟨g0, h0, hk, d.bare_fine hf, d.bare_small hs, hkey⟩; have HT := Kp.mk (tagged_c kd w0); have hw1 : w.alloc (.cells #[.int .i64 kd, .string d.nonce, .int .u64 d.epoch, .string d.cookie, .string d.name, .int .u64 d.session, .int .i64 d.player, .string d.salt, .int .u64 d.seq, .int .i64 d.thr, .int .i64 d.turn, .bool d.fire, .bool d.boost, .string d.data, .string d.tag] 34) = w0 := by rw [← hkd]; exact hw0
  clear h0 g0 hw0 hf hs hk hkey; by_cases ht : 3 ≤ kd ∧ kd ≤ 7
  · rw [decide_eq_true ht] at HT; (have hsl : sealD d key = if (enc d.bare).2 = 0 then (bodyB (ba (enc d.bare).1) ++ hmacB key (bodyB (ba (enc d.bare).1)), 0) else (nob, (enc d.bare).2) := by rw [sealD, if_pos (by rw [hkd]; exact ht)]); have HSL := Kp.mk hsl; clear ht hsl; unfold dv; rw [hkd]; clear hkd; go_enter func18, ntmps18; go_wp2_with fail; refine HT.out.mono ?_; rintro e wq ⟨rfl, hwq⟩; rw [hwq]; clear hwq wq; go_wp2_with fail; refine (rep_c 32 w0 (by decide)).mono ?_; rintro e w2 ⟨rfl, g2⟩; have h2 := HW.out.2.1.kept g2 (by simp); have c2 : w2.cell? ⟨w.heap.size, 14, none⟩ = some (.string d.tag) := h2.cellv 14 _ rfl; have z2 : w2.frozen? ⟨w.heap.size, 14, none⟩ = false := h2.frozen 14; obtain ⟨Z, hZ⟩ : ∃ Z, ba (List.replicate 32 0) = Z := ⟨_, rfl⟩; rw [hZ]; obtain ⟨w3, hw3⟩ : ∃ q, w2.setCell ⟨w.heap.size, 14, none⟩ (.string Z) = q := ⟨_, rfl⟩; have h3 : Has w3 w.heap.size d.bare.cells 34 := by rw [← hw3]; have := h2.setCell 14 (.string Z); rw [← hZ] at this ⊢; exact this
    have HW3 : Kp (Has w3 w.heap.size d.bare.cells 34 ∧ w.grownBy w3 none) := ⟨h3, by rw [← hw3]; exact gr_new (HW.out.1.trans g2) (gr_set _ _ _ _) (Nat.le_refl _)⟩; clear h2 h3 g2 hZ
    go_wp2_with (refine wpList_load_mid rfl 34 _ rfl _ _ rfl d.bare.cells _ HW3.out.1.range hdu hdr info26 ?_)
    refine (encode_c d.bare HW.out.2.2.2.1 HW.out.2.2.2.2.1 w3).mono ?_; rintro e w4 ⟨rfl, g4⟩; have HG4 : Kp (w.grownBy w4 none) := ⟨HW3.out.2.trans g4⟩; have hle := enc_le d.bare; obtain ⟨en, hen⟩ : ∃ x, (enc d.bare).2 = x := ⟨_, rfl⟩; obtain ⟨L, hL⟩ : ∃ x, ba (enc d.bare).1 = x := ⟨_, rfl⟩; (have hLs : L.size ≤ 1200 := by rw [← hL, ba_size]; exact hle); rw [hen, hL]; rw [hen, hL] at HSL; have HL := Kp.mk hLs; clear g4 hle hen hL hLs; by_cases h0 : en = 0
    · subst h0; rw [if_pos rfl] at HSL; go_wp2_with fail; refine (body_c L w4 (by have := HL.out; omega)).mono ?_; rintro e w5 ⟨rfl, g5⟩; have hbs := bodyB_size L; obtain ⟨B, hB⟩ : ∃ B, bodyB L = B := ⟨_, rfl⟩; rw [hB] at HSL hbs ⊢; have HG5 : Kp (w.grownBy w5 none ∧ B.size ≤ 1200) := ⟨HG4.out.trans g5, by have := HL.out; omega⟩; clear g5 hbs hB; go_wp2_with fail; refine (tag_any key B w5 (HW.out.2.2.1.kept HG5.out.1 (by simp)) HW.out.2.2.2.2.2 (by have := HG5.out.2; omega)).mono ?_; rintro e w6 ⟨rfl, g6⟩; have hadd := addS B (hmacB key B) (by rw [hmacB_size]; have := HG5.out.2; omega); have HG6 : Kp (w.grownBy w6 none) := ⟨HG5.out.1.trans g6⟩; obtain ⟨Y, hY⟩ : ∃ Y, B ++ hmacB key B = Y := ⟨_, rfl⟩; rw [hY] at hadd HSL; clear g6 hY; go_wp2_with fail; go_ret2; exact ⟨by rw [HSL.out]; rfl, HG6.out⟩
    · rw [if_neg h0] at HSL; go_wp2_with fail; go_ret2; exact ⟨by rw [HSL.out]; rfl, HG4.out⟩
  · rw [decide_eq_false ht] at HT; (have hsl : sealD d key = (nob, 71) := by rw [sealD, if_neg (by rw [hkd]; exact ht)]); rw [hsl]; clear ht hsl; unfold dv; rw [hkd]; clear hkd; go_enter func18, ntmps18; go_wp2_with fail; refine HT.out.mono ?_; rintro e wq ⟨rfl, hwq⟩; rw [hwq]; clear hwq wq; go_wp2_with fail; go_ret2; exact ⟨rfl, HW.out.1⟩
end Go.Proofs.YtldnpebnpbahjaaGreatDoor.Pk
