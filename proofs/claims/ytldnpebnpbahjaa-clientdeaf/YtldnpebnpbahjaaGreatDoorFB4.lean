import Derived.Test.YtldnpebnpbahjaaGreatDoorFB3
import Derived.Test.YtldnpebnpbahjaaGreatDoorX8
/- zeros, fieldsOf -/
namespace Go.Proofs.YtldnpebnpbahjaaGreatDoor.Pk
open Go Go.RowKit

set_option maxHeartbeats 8000000 in
set_option maxRecDepth 100000 in
theorem mk_zeros : Makes 74 .zeros := fun w => by
  obtain ⟨d, hd, hr⟩ := under57
  have hmf : MF := fun _ _ _ _ => rfl
  have HR := Keep.mk (rep_c 76 (w.alloc (.cells #[.nilFunc, .nilFunc] 109)) (by decide))
  rw [show ba (List.replicate 76 0) = ba zero76 from rfl] at HR
  have HT : Keep (∀ W, Has W (w.heap.size + 7) [.string (ba zero76)] 9 → True) := ⟨fun _ _ => trivial⟩
  obtain ⟨Z, hZ⟩ : ∃ Z, ba zero76 = Z := ⟨_, rfl⟩
  rw [hZ] at HR HT
  have HZ := Keep.mk hZ
  clear hZ HT
  go_enter Tryz.func74, Tryz.ntmps74
  go_wp2_with fail
  refine HR.out.mono ?_
  rintro e w2 ⟨rfl, g2⟩
  have h0 : Has w2 w.heap.size [.nilFunc, .nilFunc] 109 := (Has.newA w #[.nilFunc, .nilFunc] 109).kept g2 (by simp)
  obtain ⟨w3, hw3⟩ : ∃ q, w2.alloc (.cells #[.string Z] 9) = q := ⟨_, rfl⟩
  obtain ⟨zb, hzb⟩ : ∃ q, w2.heap.size = q := ⟨_, rfl⟩
  have g3 : w2.grownBy w3 none := by rw [← hw3]; exact World.grownBy_alloc _ _ _
  have h1 : Has w3 zb [.string Z] 9 := by rw [← hw3, ← hzb]; exact Has.newA w2 _ 9
  have h03 := h0.kept g3 (by simp)
  have hne : zb ≠ w.heap.size := by have := h0.lt; omega
  have c0 : w3.cell? ⟨w.heap.size, 0, none⟩ = some .nilFunc := h03.cellv 0 _ rfl
  have c1 : w3.cell? ⟨w.heap.size, 1, none⟩ = some .nilFunc := h03.cellv 1 _ rfl
  have z0 : w3.frozen? ⟨w.heap.size, 0, none⟩ = false := h03.frozen 0
  have z1 : w3.frozen? ⟨w.heap.size, 1, none⟩ = false := h03.frozen 1
  have HE : Keep (Has ((w3.setCell ⟨w.heap.size, 0, none⟩ (fc 132 #[pv zb])).setCell ⟨w.heap.size, 1, none⟩ (fc 135 #[pv zb])) w.heap.size [fc 132 #[pv zb], fc 135 #[pv zb]] 109 ∧ w.grownBy ((w3.setCell ⟨w.heap.size, 0, none⟩ (fc 132 #[pv zb])).setCell ⟨w.heap.size, 1, none⟩ (fc 135 #[pv zb])) none ∧ FieldC ((w3.setCell ⟨w.heap.size, 0, none⟩ (fc 132 #[pv zb])).setCell ⟨w.heap.size, 1, none⟩ (fc 135 #[pv zb])) .zeros (fc 132 #[pv zb]) (fc 135 #[pv zb])) := by
    have g5 : w3.grownBy ((w3.setCell ⟨w.heap.size, 0, none⟩ (fc 132 #[pv zb])).setCell ⟨w.heap.size, 1, none⟩ (fc 135 #[pv zb])) (some w.heap.size) := (gr_set _ _ _ _).trans (gr_set _ _ _ _)
    rw [← HZ.out] at h1
    refine ⟨(h03.setCell 0 _).setCell 1 _, gr_new (((World.grownBy_alloc w (.cells #[.nilFunc, .nilFunc] 109) none).trans g2).trans g3) g5 (Nat.le_refl _), 132, #[pv zb], 135, #[pv zb], rfl, rfl, ?_, ?_⟩
    · exact tk_zeros _ zb (h1.kept g5 (by simp; omega))
    · exact ly_zeros _ zb (h1.kept g5 (by simp; omega))
  clear h0 h1 h03 g2 g3 hne
  go_wp2
  exact ret_cell rfl rfl HE.out.1 hd hr info57 rfl ⟨_, _, rfl, HE.out.2.2, HE.out.2.1⟩
/-- the fields that a slice holds -/
def Flds (w : World) (a : Option Addr) (fs : List Fd) : Prop := ∀ i f, fs[i]? = some f → ∃ vt vl fb, a = some ⟨fb, 0, none⟩ ∧ w.cell? ⟨fb, 2 * i, none⟩ = some vt ∧ w.cell? ⟨fb, 2 * i + 1, none⟩ = some vl ∧ FieldC w f vt vl
set_option maxRecDepth 100000 in
theorem Flds.kept {w w' : World} {a : Option Addr} {fs : List Fd} (h : Flds w a fs) (g : w.grownBy w' none) : Flds w' a fs := fun i f e => by
  obtain ⟨vt, vl, fb, h1, h2, h3, h4⟩ := h i f e
  exact ⟨vt, vl, fb, h1, g.cell h2 (by simp), g.cell h3 (by simp), h4.kept g⟩
set_option maxHeartbeats 8000000 in
set_option maxRecDepth 100000 in
theorem fields1 (w : World) :
    Calls Tryz.prog 36 #[.int .i64 1] w fun e w' => ∃ a c, e = .returned (.slice a (fieldsL 1).length c) ∧ Flds w' a (fieldsL 1) ∧ w.grownBy w' none := by
  go_enter Tryz.func36, Tryz.ntmps36
  go_wp2_with fail
  refine (mk_nonce w).mono ?_
  rintro e w0 ⟨vt0, vl0, rfl, f0, g0⟩
  have HF : Keep (FieldC w0 .nonce vt0 vl0 ∧ w.grownBy w0 none) := ⟨f0, g0⟩
  clear f0 g0
  go_wp2_with fail
  refine (mk_zeros w0).mono ?_
  rintro e w1 ⟨vt1, vl1, rfl, f1, g1⟩
  replace HF : Keep (FieldC w1 .nonce vt0 vl0 ∧ FieldC w1 .zeros vt1 vl1 ∧ w.grownBy w1 none) := ⟨(HF.out.1).kept g1, f1, (HF.out.2).trans g1⟩
  clear f1 g1
  go_wp2_with fail
  go_ret
  have hn := Has.newA w1 #[vt0, vl0, vt1, vl1] 109
  have gn := World.grownBy_alloc w1 (.cells #[vt0, vl0, vt1, vl1] 109) none
  refine ⟨_, _, rfl, ?_, (HF.out.2.2).trans gn⟩
  intro i f e
  have e' : [Fd.nonce, Fd.zeros][i]? = some f := e
  match i, e' with
  | 0, rfl => exact ⟨vt0, vl0, _, rfl, hn.cellv 0 _ rfl, hn.cellv 1 _ rfl, (HF.out.1).kept gn⟩
  | 1, rfl => exact ⟨vt1, vl1, _, rfl, hn.cellv 2 _ rfl, hn.cellv 3 _ rfl, (HF.out.2.1).kept gn⟩
set_option maxHeartbeats 8000000 in
set_option maxRecDepth 100000 in
theorem fields2 (w : World) :
    Calls Tryz.prog 36 #[.int .i64 2] w fun e w' => ∃ a c, e = .returned (.slice a (fieldsL 2).length c) ∧ Flds w' a (fieldsL 2) ∧ w.grownBy w' none := by
  go_enter Tryz.func36, Tryz.ntmps36
  go_wp2_with fail
  refine (mk_nonce w).mono ?_
  rintro e w0 ⟨vt0, vl0, rfl, f0, g0⟩
  have HF : Keep (FieldC w0 .nonce vt0 vl0 ∧ w.grownBy w0 none) := ⟨f0, g0⟩
  clear f0 g0
  go_wp2_with fail
  refine (mk_epoch w0).mono ?_
  rintro e w1 ⟨vt1, vl1, rfl, f1, g1⟩
  replace HF : Keep (FieldC w1 .nonce vt0 vl0 ∧ FieldC w1 .epoch vt1 vl1 ∧ w.grownBy w1 none) := ⟨(HF.out.1).kept g1, f1, (HF.out.2).trans g1⟩
  clear f1 g1
  go_wp2_with fail
  refine (mk_cookie w1).mono ?_
  rintro e w2 ⟨vt2, vl2, rfl, f2, g2⟩
  replace HF : Keep (FieldC w2 .nonce vt0 vl0 ∧ FieldC w2 .epoch vt1 vl1 ∧ FieldC w2 .cookie vt2 vl2 ∧ w.grownBy w2 none) := ⟨(HF.out.1).kept g2, (HF.out.2.1).kept g2, f2, (HF.out.2.2).trans g2⟩
  clear f2 g2
  go_wp2_with fail
  go_ret
  have hn := Has.newA w2 #[vt0, vl0, vt1, vl1, vt2, vl2] 109
  have gn := World.grownBy_alloc w2 (.cells #[vt0, vl0, vt1, vl1, vt2, vl2] 109) none
  refine ⟨_, _, rfl, ?_, (HF.out.2.2.2).trans gn⟩
  intro i f e
  have e' : [Fd.nonce, Fd.epoch, Fd.cookie][i]? = some f := e
  match i, e' with
  | 0, rfl => exact ⟨vt0, vl0, _, rfl, hn.cellv 0 _ rfl, hn.cellv 1 _ rfl, (HF.out.1).kept gn⟩
  | 1, rfl => exact ⟨vt1, vl1, _, rfl, hn.cellv 2 _ rfl, hn.cellv 3 _ rfl, (HF.out.2.1).kept gn⟩
  | 2, rfl => exact ⟨vt2, vl2, _, rfl, hn.cellv 4 _ rfl, hn.cellv 5 _ rfl, (HF.out.2.2.1).kept gn⟩
set_option maxHeartbeats 8000000 in
set_option maxRecDepth 100000 in
theorem fields3 (w : World) :
    Calls Tryz.prog 36 #[.int .i64 3] w fun e w' => ∃ a c, e = .returned (.slice a (fieldsL 3).length c) ∧ Flds w' a (fieldsL 3) ∧ w.grownBy w' none := by
  go_enter Tryz.func36, Tryz.ntmps36
  go_wp2_with fail
  refine (mk_nonce w).mono ?_
  rintro e w0 ⟨vt0, vl0, rfl, f0, g0⟩
  have HF : Keep (FieldC w0 .nonce vt0 vl0 ∧ w.grownBy w0 none) := ⟨f0, g0⟩
  clear f0 g0
  go_wp2_with fail
  refine (mk_epoch w0).mono ?_
  rintro e w1 ⟨vt1, vl1, rfl, f1, g1⟩
  replace HF : Keep (FieldC w1 .nonce vt0 vl0 ∧ FieldC w1 .epoch vt1 vl1 ∧ w.grownBy w1 none) := ⟨(HF.out.1).kept g1, f1, (HF.out.2).trans g1⟩
  clear f1 g1
  go_wp2_with fail
  refine (mk_cookie w1).mono ?_
  rintro e w2 ⟨vt2, vl2, rfl, f2, g2⟩
  replace HF : Keep (FieldC w2 .nonce vt0 vl0 ∧ FieldC w2 .epoch vt1 vl1 ∧ FieldC w2 .cookie vt2 vl2 ∧ w.grownBy w2 none) := ⟨(HF.out.1).kept g2, (HF.out.2.1).kept g2, f2, (HF.out.2.2).trans g2⟩
  clear f2 g2
  go_wp2_with fail
  refine (mk_name w2).mono ?_
  rintro e w3 ⟨vt3, vl3, rfl, f3, g3⟩
  replace HF : Keep (FieldC w3 .nonce vt0 vl0 ∧ FieldC w3 .epoch vt1 vl1 ∧ FieldC w3 .cookie vt2 vl2 ∧ FieldC w3 .name vt3 vl3 ∧ w.grownBy w3 none) := ⟨(HF.out.1).kept g3, (HF.out.2.1).kept g3, (HF.out.2.2.1).kept g3, f3, (HF.out.2.2.2).trans g3⟩
  clear f3 g3
  go_wp2_with fail
  refine (mk_tag w3).mono ?_
  rintro e w4 ⟨vt4, vl4, rfl, f4, g4⟩
  replace HF : Keep (FieldC w4 .nonce vt0 vl0 ∧ FieldC w4 .epoch vt1 vl1 ∧ FieldC w4 .cookie vt2 vl2 ∧ FieldC w4 .name vt3 vl3 ∧ FieldC w4 .tag vt4 vl4 ∧ w.grownBy w4 none) := ⟨(HF.out.1).kept g4, (HF.out.2.1).kept g4, (HF.out.2.2.1).kept g4, (HF.out.2.2.2.1).kept g4, f4, (HF.out.2.2.2.2).trans g4⟩
  clear f4 g4
  go_wp2_with fail
  go_ret
  have hn := Has.newA w4 #[vt0, vl0, vt1, vl1, vt2, vl2, vt3, vl3, vt4, vl4] 109
  have gn := World.grownBy_alloc w4 (.cells #[vt0, vl0, vt1, vl1, vt2, vl2, vt3, vl3, vt4, vl4] 109) none
  refine ⟨_, _, rfl, ?_, (HF.out.2.2.2.2.2).trans gn⟩
  intro i f e
  have e' : [Fd.nonce, Fd.epoch, Fd.cookie, Fd.name, Fd.tag][i]? = some f := e
  match i, e' with
  | 0, rfl => exact ⟨vt0, vl0, _, rfl, hn.cellv 0 _ rfl, hn.cellv 1 _ rfl, (HF.out.1).kept gn⟩
  | 1, rfl => exact ⟨vt1, vl1, _, rfl, hn.cellv 2 _ rfl, hn.cellv 3 _ rfl, (HF.out.2.1).kept gn⟩
  | 2, rfl => exact ⟨vt2, vl2, _, rfl, hn.cellv 4 _ rfl, hn.cellv 5 _ rfl, (HF.out.2.2.1).kept gn⟩
  | 3, rfl => exact ⟨vt3, vl3, _, rfl, hn.cellv 6 _ rfl, hn.cellv 7 _ rfl, (HF.out.2.2.2.1).kept gn⟩
  | 4, rfl => exact ⟨vt4, vl4, _, rfl, hn.cellv 8 _ rfl, hn.cellv 9 _ rfl, (HF.out.2.2.2.2.1).kept gn⟩
set_option maxHeartbeats 8000000 in
set_option maxRecDepth 100000 in
theorem fields4 (w : World) :
    Calls Tryz.prog 36 #[.int .i64 4] w fun e w' => ∃ a c, e = .returned (.slice a (fieldsL 4).length c) ∧ Flds w' a (fieldsL 4) ∧ w.grownBy w' none := by
  go_enter Tryz.func36, Tryz.ntmps36
  go_wp2_with fail
  refine (mk_nonce w).mono ?_
  rintro e w0 ⟨vt0, vl0, rfl, f0, g0⟩
  have HF : Keep (FieldC w0 .nonce vt0 vl0 ∧ w.grownBy w0 none) := ⟨f0, g0⟩
  clear f0 g0
  go_wp2_with fail
  refine (mk_session w0).mono ?_
  rintro e w1 ⟨vt1, vl1, rfl, f1, g1⟩
  replace HF : Keep (FieldC w1 .nonce vt0 vl0 ∧ FieldC w1 .session vt1 vl1 ∧ w.grownBy w1 none) := ⟨(HF.out.1).kept g1, f1, (HF.out.2).trans g1⟩
  clear f1 g1
  go_wp2_with fail
  refine (mk_player w1).mono ?_
  rintro e w2 ⟨vt2, vl2, rfl, f2, g2⟩
  replace HF : Keep (FieldC w2 .nonce vt0 vl0 ∧ FieldC w2 .session vt1 vl1 ∧ FieldC w2 .player vt2 vl2 ∧ w.grownBy w2 none) := ⟨(HF.out.1).kept g2, (HF.out.2.1).kept g2, f2, (HF.out.2.2).trans g2⟩
  clear f2 g2
  go_wp2_with fail
  refine (mk_salt w2).mono ?_
  rintro e w3 ⟨vt3, vl3, rfl, f3, g3⟩
  replace HF : Keep (FieldC w3 .nonce vt0 vl0 ∧ FieldC w3 .session vt1 vl1 ∧ FieldC w3 .player vt2 vl2 ∧ FieldC w3 .salt vt3 vl3 ∧ w.grownBy w3 none) := ⟨(HF.out.1).kept g3, (HF.out.2.1).kept g3, (HF.out.2.2.1).kept g3, f3, (HF.out.2.2.2).trans g3⟩
  clear f3 g3
  go_wp2_with fail
  refine (mk_tag w3).mono ?_
  rintro e w4 ⟨vt4, vl4, rfl, f4, g4⟩
  replace HF : Keep (FieldC w4 .nonce vt0 vl0 ∧ FieldC w4 .session vt1 vl1 ∧ FieldC w4 .player vt2 vl2 ∧ FieldC w4 .salt vt3 vl3 ∧ FieldC w4 .tag vt4 vl4 ∧ w.grownBy w4 none) := ⟨(HF.out.1).kept g4, (HF.out.2.1).kept g4, (HF.out.2.2.1).kept g4, (HF.out.2.2.2.1).kept g4, f4, (HF.out.2.2.2.2).trans g4⟩
  clear f4 g4
  go_wp2_with fail
  go_ret
  have hn := Has.newA w4 #[vt0, vl0, vt1, vl1, vt2, vl2, vt3, vl3, vt4, vl4] 109
  have gn := World.grownBy_alloc w4 (.cells #[vt0, vl0, vt1, vl1, vt2, vl2, vt3, vl3, vt4, vl4] 109) none
  refine ⟨_, _, rfl, ?_, (HF.out.2.2.2.2.2).trans gn⟩
  intro i f e
  have e' : [Fd.nonce, Fd.session, Fd.player, Fd.salt, Fd.tag][i]? = some f := e
  match i, e' with
  | 0, rfl => exact ⟨vt0, vl0, _, rfl, hn.cellv 0 _ rfl, hn.cellv 1 _ rfl, (HF.out.1).kept gn⟩
  | 1, rfl => exact ⟨vt1, vl1, _, rfl, hn.cellv 2 _ rfl, hn.cellv 3 _ rfl, (HF.out.2.1).kept gn⟩
  | 2, rfl => exact ⟨vt2, vl2, _, rfl, hn.cellv 4 _ rfl, hn.cellv 5 _ rfl, (HF.out.2.2.1).kept gn⟩
  | 3, rfl => exact ⟨vt3, vl3, _, rfl, hn.cellv 6 _ rfl, hn.cellv 7 _ rfl, (HF.out.2.2.2.1).kept gn⟩
  | 4, rfl => exact ⟨vt4, vl4, _, rfl, hn.cellv 8 _ rfl, hn.cellv 9 _ rfl, (HF.out.2.2.2.2.1).kept gn⟩
set_option maxHeartbeats 8000000 in
set_option maxRecDepth 100000 in
theorem fields5 (w : World) :
    Calls Tryz.prog 36 #[.int .i64 5] w fun e w' => ∃ a c, e = .returned (.slice a (fieldsL 5).length c) ∧ Flds w' a (fieldsL 5) ∧ w.grownBy w' none := by
  go_enter Tryz.func36, Tryz.ntmps36
  go_wp2_with fail
  refine (mk_session w).mono ?_
  rintro e w0 ⟨vt0, vl0, rfl, f0, g0⟩
  have HF : Keep (FieldC w0 .session vt0 vl0 ∧ w.grownBy w0 none) := ⟨f0, g0⟩
  clear f0 g0
  go_wp2_with fail
  refine (mk_seq w0).mono ?_
  rintro e w1 ⟨vt1, vl1, rfl, f1, g1⟩
  replace HF : Keep (FieldC w1 .session vt0 vl0 ∧ FieldC w1 .seq vt1 vl1 ∧ w.grownBy w1 none) := ⟨(HF.out.1).kept g1, f1, (HF.out.2).trans g1⟩
  clear f1 g1
  go_wp2_with fail
  refine (mk_thr w1).mono ?_
  rintro e w2 ⟨vt2, vl2, rfl, f2, g2⟩
  replace HF : Keep (FieldC w2 .session vt0 vl0 ∧ FieldC w2 .seq vt1 vl1 ∧ FieldC w2 .thr vt2 vl2 ∧ w.grownBy w2 none) := ⟨(HF.out.1).kept g2, (HF.out.2.1).kept g2, f2, (HF.out.2.2).trans g2⟩
  clear f2 g2
  go_wp2_with fail
  refine (mk_turn w2).mono ?_
  rintro e w3 ⟨vt3, vl3, rfl, f3, g3⟩
  replace HF : Keep (FieldC w3 .session vt0 vl0 ∧ FieldC w3 .seq vt1 vl1 ∧ FieldC w3 .thr vt2 vl2 ∧ FieldC w3 .turn vt3 vl3 ∧ w.grownBy w3 none) := ⟨(HF.out.1).kept g3, (HF.out.2.1).kept g3, (HF.out.2.2.1).kept g3, f3, (HF.out.2.2.2).trans g3⟩
  clear f3 g3
  go_wp2_with fail
  refine (mk_flags w3).mono ?_
  rintro e w4 ⟨vt4, vl4, rfl, f4, g4⟩
  replace HF : Keep (FieldC w4 .session vt0 vl0 ∧ FieldC w4 .seq vt1 vl1 ∧ FieldC w4 .thr vt2 vl2 ∧ FieldC w4 .turn vt3 vl3 ∧ FieldC w4 .flags vt4 vl4 ∧ w.grownBy w4 none) := ⟨(HF.out.1).kept g4, (HF.out.2.1).kept g4, (HF.out.2.2.1).kept g4, (HF.out.2.2.2.1).kept g4, f4, (HF.out.2.2.2.2).trans g4⟩
  clear f4 g4
  go_wp2_with fail
  refine (mk_tag w4).mono ?_
  rintro e w5 ⟨vt5, vl5, rfl, f5, g5⟩
  replace HF : Keep (FieldC w5 .session vt0 vl0 ∧ FieldC w5 .seq vt1 vl1 ∧ FieldC w5 .thr vt2 vl2 ∧ FieldC w5 .turn vt3 vl3 ∧ FieldC w5 .flags vt4 vl4 ∧ FieldC w5 .tag vt5 vl5 ∧ w.grownBy w5 none) := ⟨(HF.out.1).kept g5, (HF.out.2.1).kept g5, (HF.out.2.2.1).kept g5, (HF.out.2.2.2.1).kept g5, (HF.out.2.2.2.2.1).kept g5, f5, (HF.out.2.2.2.2.2).trans g5⟩
  clear f5 g5
  go_wp2_with fail
  go_ret
  have hn := Has.newA w5 #[vt0, vl0, vt1, vl1, vt2, vl2, vt3, vl3, vt4, vl4, vt5, vl5] 109
  have gn := World.grownBy_alloc w5 (.cells #[vt0, vl0, vt1, vl1, vt2, vl2, vt3, vl3, vt4, vl4, vt5, vl5] 109) none
  refine ⟨_, _, rfl, ?_, (HF.out.2.2.2.2.2.2).trans gn⟩
  intro i f e
  have e' : [Fd.session, Fd.seq, Fd.thr, Fd.turn, Fd.flags, Fd.tag][i]? = some f := e
  match i, e' with
  | 0, rfl => exact ⟨vt0, vl0, _, rfl, hn.cellv 0 _ rfl, hn.cellv 1 _ rfl, (HF.out.1).kept gn⟩
  | 1, rfl => exact ⟨vt1, vl1, _, rfl, hn.cellv 2 _ rfl, hn.cellv 3 _ rfl, (HF.out.2.1).kept gn⟩
  | 2, rfl => exact ⟨vt2, vl2, _, rfl, hn.cellv 4 _ rfl, hn.cellv 5 _ rfl, (HF.out.2.2.1).kept gn⟩
  | 3, rfl => exact ⟨vt3, vl3, _, rfl, hn.cellv 6 _ rfl, hn.cellv 7 _ rfl, (HF.out.2.2.2.1).kept gn⟩
  | 4, rfl => exact ⟨vt4, vl4, _, rfl, hn.cellv 8 _ rfl, hn.cellv 9 _ rfl, (HF.out.2.2.2.2.1).kept gn⟩
  | 5, rfl => exact ⟨vt5, vl5, _, rfl, hn.cellv 10 _ rfl, hn.cellv 11 _ rfl, (HF.out.2.2.2.2.2.1).kept gn⟩
set_option maxHeartbeats 8000000 in
set_option maxRecDepth 100000 in
theorem fields6 (w : World) :
    Calls Tryz.prog 36 #[.int .i64 6] w fun e w' => ∃ a c, e = .returned (.slice a (fieldsL 6).length c) ∧ Flds w' a (fieldsL 6) ∧ w.grownBy w' none := by
  go_enter Tryz.func36, Tryz.ntmps36
  go_wp2_with fail
  refine (mk_session w).mono ?_
  rintro e w0 ⟨vt0, vl0, rfl, f0, g0⟩
  have HF : Keep (FieldC w0 .session vt0 vl0 ∧ w.grownBy w0 none) := ⟨f0, g0⟩
  clear f0 g0
  go_wp2_with fail
  refine (mk_seq w0).mono ?_
  rintro e w1 ⟨vt1, vl1, rfl, f1, g1⟩
  replace HF : Keep (FieldC w1 .session vt0 vl0 ∧ FieldC w1 .seq vt1 vl1 ∧ w.grownBy w1 none) := ⟨(HF.out.1).kept g1, f1, (HF.out.2).trans g1⟩
  clear f1 g1
  go_wp2_with fail
  refine (mk_view w1).mono ?_
  rintro e w2 ⟨vt2, vl2, rfl, f2, g2⟩
  replace HF : Keep (FieldC w2 .session vt0 vl0 ∧ FieldC w2 .seq vt1 vl1 ∧ FieldC w2 .view vt2 vl2 ∧ w.grownBy w2 none) := ⟨(HF.out.1).kept g2, (HF.out.2.1).kept g2, f2, (HF.out.2.2).trans g2⟩
  clear f2 g2
  go_wp2_with fail
  refine (mk_tag w2).mono ?_
  rintro e w3 ⟨vt3, vl3, rfl, f3, g3⟩
  replace HF : Keep (FieldC w3 .session vt0 vl0 ∧ FieldC w3 .seq vt1 vl1 ∧ FieldC w3 .view vt2 vl2 ∧ FieldC w3 .tag vt3 vl3 ∧ w.grownBy w3 none) := ⟨(HF.out.1).kept g3, (HF.out.2.1).kept g3, (HF.out.2.2.1).kept g3, f3, (HF.out.2.2.2).trans g3⟩
  clear f3 g3
  go_wp2_with fail
  go_ret
  have hn := Has.newA w3 #[vt0, vl0, vt1, vl1, vt2, vl2, vt3, vl3] 109
  have gn := World.grownBy_alloc w3 (.cells #[vt0, vl0, vt1, vl1, vt2, vl2, vt3, vl3] 109) none
  refine ⟨_, _, rfl, ?_, (HF.out.2.2.2.2).trans gn⟩
  intro i f e
  have e' : [Fd.session, Fd.seq, Fd.view, Fd.tag][i]? = some f := e
  match i, e' with
  | 0, rfl => exact ⟨vt0, vl0, _, rfl, hn.cellv 0 _ rfl, hn.cellv 1 _ rfl, (HF.out.1).kept gn⟩
  | 1, rfl => exact ⟨vt1, vl1, _, rfl, hn.cellv 2 _ rfl, hn.cellv 3 _ rfl, (HF.out.2.1).kept gn⟩
  | 2, rfl => exact ⟨vt2, vl2, _, rfl, hn.cellv 4 _ rfl, hn.cellv 5 _ rfl, (HF.out.2.2.1).kept gn⟩
  | 3, rfl => exact ⟨vt3, vl3, _, rfl, hn.cellv 6 _ rfl, hn.cellv 7 _ rfl, (HF.out.2.2.2.1).kept gn⟩
set_option maxHeartbeats 8000000 in
set_option maxRecDepth 100000 in
theorem fields7 (w : World) :
    Calls Tryz.prog 36 #[.int .i64 7] w fun e w' => ∃ a c, e = .returned (.slice a (fieldsL 7).length c) ∧ Flds w' a (fieldsL 7) ∧ w.grownBy w' none := by
  go_enter Tryz.func36, Tryz.ntmps36
  go_wp2_with fail
  refine (mk_session w).mono ?_
  rintro e w0 ⟨vt0, vl0, rfl, f0, g0⟩
  have HF : Keep (FieldC w0 .session vt0 vl0 ∧ w.grownBy w0 none) := ⟨f0, g0⟩
  clear f0 g0
  go_wp2_with fail
  refine (mk_seq w0).mono ?_
  rintro e w1 ⟨vt1, vl1, rfl, f1, g1⟩
  replace HF : Keep (FieldC w1 .session vt0 vl0 ∧ FieldC w1 .seq vt1 vl1 ∧ w.grownBy w1 none) := ⟨(HF.out.1).kept g1, f1, (HF.out.2).trans g1⟩
  clear f1 g1
  go_wp2_with fail
  refine (mk_tag w1).mono ?_
  rintro e w2 ⟨vt2, vl2, rfl, f2, g2⟩
  replace HF : Keep (FieldC w2 .session vt0 vl0 ∧ FieldC w2 .seq vt1 vl1 ∧ FieldC w2 .tag vt2 vl2 ∧ w.grownBy w2 none) := ⟨(HF.out.1).kept g2, (HF.out.2.1).kept g2, f2, (HF.out.2.2).trans g2⟩
  clear f2 g2
  go_wp2_with fail
  go_ret
  have hn := Has.newA w2 #[vt0, vl0, vt1, vl1, vt2, vl2] 109
  have gn := World.grownBy_alloc w2 (.cells #[vt0, vl0, vt1, vl1, vt2, vl2] 109) none
  refine ⟨_, _, rfl, ?_, (HF.out.2.2.2).trans gn⟩
  intro i f e
  have e' : [Fd.session, Fd.seq, Fd.tag][i]? = some f := e
  match i, e' with
  | 0, rfl => exact ⟨vt0, vl0, _, rfl, hn.cellv 0 _ rfl, hn.cellv 1 _ rfl, (HF.out.1).kept gn⟩
  | 1, rfl => exact ⟨vt1, vl1, _, rfl, hn.cellv 2 _ rfl, hn.cellv 3 _ rfl, (HF.out.2.1).kept gn⟩
  | 2, rfl => exact ⟨vt2, vl2, _, rfl, hn.cellv 4 _ rfl, hn.cellv 5 _ rfl, (HF.out.2.2.1).kept gn⟩
set_option maxHeartbeats 8000000 in
set_option maxRecDepth 100000 in
theorem fields0 (k : Int) (w : World) (hk : k < 1 ∨ 7 < k) :
    Calls Tryz.prog 36 #[.int .i64 k] w fun e w' => e = .returned (.slice none 0 0) ∧ w' = w := by
  have h1 : ¬ k = 1 := by omega
  have h2 : ¬ k = 2 := by omega
  have h3 : ¬ k = 3 := by omega
  have h4 : ¬ k = 4 := by omega
  have h5 : ¬ k = 5 := by omega
  have h6 : ¬ k = 6 := by omega
  have h7 : ¬ k = 7 := by omega
  clear hk
  go_enter Tryz.func36, Tryz.ntmps36
  go_wp2
  go_ret
  exact ⟨rfl, rfl⟩
set_option maxRecDepth 100000 in
theorem fieldsL_nil {k : Int} (h : k < 1 ∨ 7 < k) : fieldsL k = [] := by
  unfold fieldsL
  rw [if_neg (by omega), if_neg (by omega), if_neg (by omega), if_neg (by omega), if_neg (by omega), if_neg (by omega), if_neg (by omega)]
set_option maxRecDepth 100000 in
theorem fields_c (k : Int) (w : World) :
    Calls Tryz.prog 36 #[.int .i64 k] w fun e w' => ∃ a c, e = .returned (.slice a (fieldsL k).length c) ∧ Flds w' a (fieldsL k) ∧ w.grownBy w' none := by
  by_cases h : k < 1 ∨ 7 < k
  · refine (fields0 k w h).mono ?_
    rintro e w' ⟨rfl, rfl⟩
    rw [fieldsL_nil h]
    exact ⟨none, 0, rfl, fun i f e => (by simp at e), World.grownBy.refl _ _⟩
  · have hk : k = 1 ∨ k = 2 ∨ k = 3 ∨ k = 4 ∨ k = 5 ∨ k = 6 ∨ k = 7 := by omega
    rcases hk with rfl | rfl | rfl | rfl | rfl | rfl | rfl
    · exact fields1 w
    · exact fields2 w
    · exact fields3 w
    · exact fields4 w
    · exact fields5 w
    · exact fields6 w
    · exact fields7 w
set_option maxRecDepth 100000 in
theorem fieldsL_some {k : Int} (h : ¬ (k < 1 ∨ 7 < k)) : fieldsL k ≠ [] := by
  have hk : k = 1 ∨ k = 2 ∨ k = 3 ∨ k = 4 ∨ k = 5 ∨ k = 6 ∨ k = 7 := by omega
  rcases hk with rfl | rfl | rfl | rfl | rfl | rfl | rfl <;> exact List.cons_ne_nil _ _
set_option maxRecDepth 100000 in
theorem fieldsL_len (k : Int) : (fieldsL k).length ≤ 6 := by
  by_cases h : k < 1 ∨ 7 < k
  · rw [fieldsL_nil h]; decide
  · have hk : k = 1 ∨ k = 2 ∨ k = 3 ∨ k = 4 ∨ k = 5 ∨ k = 6 ∨ k = 7 := by omega
    rcases hk with rfl | rfl | rfl | rfl | rfl | rfl | rfl <;> decide
end Go.Proofs.YtldnpebnpbahjaaGreatDoor.Pk
