/- the laws' alive -/
import Derived.Test.YtbmnlhmelbhjeaaDoorCB2
namespace Go.Proofs.YtbmnlhmelbhjeaaDoor
open Go Go.RowKit

theorem check_i (b x : Nat) (xi : Int) (s a : List UInt8) (f n c : ByteArray) (w : World) (r : Int) (hx : xi = (x : Int)) (hr : chkS s a f n x c = r) (hj : JR w b s a) (hk : Kc w) (hf : f.size ≤ 9223372036854775807) (hn : n.size ≤ 9223372036854775807) :
    Calls Tryd.prog 12 #[.pointer (some ⟨b, 0, none⟩), .string f, .string n, .int .u64 xi, .string c] w fun e w' => e = .returned (.int .i64 r) ∧ w.grownBy w' none := by
  subst hx hr; exact check_c b x s a f n c w hj hk hf hn
theorem jepoch_i (b : Nat) (s a : List UInt8) (w : World) (r : Int) (hr : ((beN (s.take 8) : Nat) : Int) = r) (hj : JR w b s a) :
    Calls Tryd.prog 16 #[.pointer (some ⟨b, 0, none⟩)] w fun e w' => e = .returned (.int .u64 r) ∧ w.grownBy w' none := by
  subst hr; exact jepoch_c b s a w hj
theorem jbake_i (b : Nat) (s a : List UInt8) (f n r : ByteArray) (w : World) (hr : bakeS s f n = r) (hj : JR w b s a) (hk : Kc w) (hf : f.size ≤ 9223372036854775807) (hn : n.size ≤ 9223372036854775807) :
    Calls Tryd.prog 11 #[.pointer (some ⟨b, 0, none⟩), .string f, .string n] w fun e w' => e = .returned (.string r) ∧ w.grownBy w' none := by
  subst hr; exact jbake_c b s a f n w hj hk hf hn

set_option maxRecDepth 100000 in
set_option maxHeartbeats 4000000 in
theorem alive_c (w : World) (hk : Kc w) :
    Calls Tryd.prog 8 #[] w fun e w' => e = .returned (.bool true) ∧ w.grownBy w' none := by
  have HK : Keep (Kc w) := ⟨hk⟩
  have h0 := hk.lt
  have E1 := Keep.mk (Ep.start sB)
  have E2 := Keep.mk ((Ep.start sB).turn (by decide) chB)
  have hc := bakeS_size (firstS sB) xB nB
  obtain ⟨c, hcc⟩ : ∃ c, bakeS (firstS sB) xB nB = c := ⟨_, rfl⟩
  obtain ⟨d, hdd⟩ : ∃ d, bakeS (turnS (firstS sB) chB) xB nB = d := ⟨_, rfl⟩
  have HB := Keep.mk hcc
  have HD := Keep.mk hdd
  have F1 : Keep (chkS (firstS sB) zl40 xB nB 1 c = 0) := ⟨by rw [E1.out.chk_now, hcc, if_pos rfl]⟩
  have F2 : Keep (chkS (firstS sB) zl40 yB nB 1 c = 101) := ⟨by rw [E1.out.chk_now, if_neg (by rw [← hcc]; exact cd_ne)]⟩
  have F3 : Keep (chkS (firstS sB) zl40 xB nB 2 c = 100) := ⟨E1.out.chk_else 2 (by decide) (.inl (by decide)) _ _ _⟩
  have F4 : Keep (chkS (turnS (firstS sB) chB) (firstS sB) xB nB 1 c = 0) := ⟨by rw [E2.out.chk_ahead 1 rfl (by decide), hcc, if_pos rfl]⟩
  have hdc : (d.toList == c.toList) = false := by
    rw [beqL, decide_eq_false_iff_not]
    intro h
    exact ce_ne (by rw [hcc, hdd]; exact sl_inj h)
  have N1 : Keep (((beN ((firstS sB).take 8) : Nat) : Int) = 1) := ⟨by rw [E1.out.now]; rfl⟩
  have N2 : Keep (((beN ((turnS (firstS sB) chB).take 8) : Nat) : Int) = 2) := ⟨by rw [E2.out.now]; rfl⟩
  have NL : Keep (beN ((firstS sB).take 8) < 18446744073709551615) := ⟨by rw [E1.out.now]; decide⟩
  rw [hcc] at hc
  clear hk hcc hdd E1 E2
  go_enter Tryd.func8, Tryd.ntmps8
  go_wp2_with fail
  refine (new_c sB _ HK.out (by decide)).mono ?_
  rintro e w1 ⟨b, rfl, h1, g1, hb⟩
  have hb0 : 0 ≠ b := by omega
  have HJ : Keep (JR w1 b (firstS sB) zl40 ∧ w.grownBy w1 none ∧ Kc w1) := ⟨h1, g1, HK.out.kept g1 (by simp)⟩
  have HBB : Keep (w.heap.size ≤ b) := ⟨hb⟩
  clear h1 g1 hb
  generalize hS1 : firstS sB = S1 at *
  generalize hS2 : turnS S1 chB = S2 at *
  have HS2 := Keep.mk hS2
  clear hS1 hS2
  go_wp2_with fail
  refine (jbake_i b S1 zl40 xB nB c _ HB.out HJ.out.1 HJ.out.2.2 (by decide) (by decide)).mono ?_
  rintro e w2 ⟨rfl, g⟩
  have HJ2 : Keep (JR w2 b S1 zl40 ∧ w.grownBy w2 none ∧ Kc w2) := ⟨HJ.out.1.kept g (by simp), HJ.out.2.1.trans g, HJ.out.2.2.kept g (by simp)⟩
  clear HJ g
  have HJ := HJ2
  clear HJ2
  go_wp2_with fail
  refine (jepoch_i b S1 zl40 _ 1 N1.out HJ.out.1).mono ?_
  rintro e w3 ⟨rfl, g⟩
  have HJ2 : Keep (JR w3 b S1 zl40 ∧ w.grownBy w3 none ∧ Kc w3) := ⟨HJ.out.1.kept g (by simp), HJ.out.2.1.trans g, HJ.out.2.2.kept g (by simp)⟩
  clear HJ g
  have HJ := HJ2
  clear HJ2
  go_wp2_with fail
  refine (check_i b 1 _ S1 zl40 xB nB c _ _ rfl F1.out HJ.out.1 HJ.out.2.2 (by decide) (by decide)).mono ?_
  rintro e w4 ⟨rfl, g⟩
  have HJ2 : Keep (JR w4 b S1 zl40 ∧ w.grownBy w4 none ∧ Kc w4) := ⟨HJ.out.1.kept g (by simp), HJ.out.2.1.trans g, HJ.out.2.2.kept g (by simp)⟩
  clear HJ g
  have HJ := HJ2
  clear HJ2
  go_wp2_with fail
  refine (check_i b 1 _ S1 zl40 yB nB c _ _ rfl F2.out HJ.out.1 HJ.out.2.2 (by decide) (by decide)).mono ?_
  rintro e w5 ⟨rfl, g⟩
  have HJ2 : Keep (JR w5 b S1 zl40 ∧ w.grownBy w5 none ∧ Kc w5) := ⟨HJ.out.1.kept g (by simp), HJ.out.2.1.trans g, HJ.out.2.2.kept g (by simp)⟩
  clear HJ g
  have HJ := HJ2
  clear HJ2
  go_wp2_with fail
  refine (check_i b 2 _ S1 zl40 xB nB c _ _ rfl F3.out HJ.out.1 HJ.out.2.2 (by decide) (by decide)).mono ?_
  rintro e w6 ⟨rfl, g⟩
  have HJ2 : Keep (JR w6 b S1 zl40 ∧ w.grownBy w6 none ∧ Kc w6) := ⟨HJ.out.1.kept g (by simp), HJ.out.2.1.trans g, HJ.out.2.2.kept g (by simp)⟩
  clear HJ g
  have HJ := HJ2
  clear HJ2
  go_wp2_with fail
  refine (turn_c b S1 zl40 chB _ HJ.out.1 HJ.out.2.2 NL.out (by decide)).mono ?_
  rintro e w7 ⟨rfl, h7, g⟩
  rw [HS2.out] at h7
  have HJ2 : Keep (JR w7 b S2 S1 ∧ w.grownBy w7 none ∧ Kc w7) := ⟨h7, gr_new HJ.out.2.1 g HBB.out, HJ.out.2.2.kept g (by simpa using hb0)⟩
  clear HJ g h7
  have HJ := HJ2
  clear HJ2
  go_wp2_with fail
  refine (jepoch_i b S2 S1 _ 2 N2.out HJ.out.1).mono ?_
  rintro e w8 ⟨rfl, g⟩
  have HJ2 : Keep (JR w8 b S2 S1 ∧ w.grownBy w8 none ∧ Kc w8) := ⟨HJ.out.1.kept g (by simp), HJ.out.2.1.trans g, HJ.out.2.2.kept g (by simp)⟩
  clear HJ g
  have HJ := HJ2
  clear HJ2
  go_wp2_with fail
  refine (check_i b 1 _ S2 S1 xB nB c _ _ rfl F4.out HJ.out.1 HJ.out.2.2 (by decide) (by decide)).mono ?_
  rintro e w9 ⟨rfl, g⟩
  have HJ2 : Keep (JR w9 b S2 S1 ∧ w.grownBy w9 none ∧ Kc w9) := ⟨HJ.out.1.kept g (by simp), HJ.out.2.1.trans g, HJ.out.2.2.kept g (by simp)⟩
  clear HJ g
  have HJ := HJ2
  clear HJ2
  go_wp2_with fail
  refine (jbake_i b S2 S1 xB nB d _ HD.out HJ.out.1 HJ.out.2.2 (by decide) (by decide)).mono ?_
  rintro e wa ⟨rfl, g⟩
  have HJ2 : Keep (JR wa b S2 S1 ∧ w.grownBy wa none ∧ Kc wa) := ⟨HJ.out.1.kept g (by simp), HJ.out.2.1.trans g, HJ.out.2.2.kept g (by simp)⟩
  clear HJ g
  have HJ := HJ2
  clear HJ2
  go_wp2_with fail
  go_ret
  exact ⟨rfl, HJ.out.2.1⟩
end Go.Proofs.YtbmnlhmelbhjeaaDoor
