import Derived.Test.YtjbkoablleneeaaGreatDoorX22
/- BookBytes: the walk -/
namespace Go.Proofs.YtjbkoablleneeaaGreatDoor.Pk
open Go Go.RowKit

def AliveC : Prop := ∀ W : World, Wk W → Calls Tryz.prog 6 #[] W fun e w' => e = .returned (.bool true) ∧ W.grownBy w' none
theorem app_size (a b : ByteArray) : (a ++ b).size = a.size + b.size := by simp
set_option maxRecDepth 100000 in
set_option maxHeartbeats 16000000 in
theorem bytes_none (hal : AliveC) (a : Option Addr) (n c : Nat) (L : List En) (w : World) (at_ : Int) (by_ : UInt8) (more : List UInt8) (hb : wBody L = none) (hE : Es w a n c L) (hz : a = none → c = 0) (hok : ∀ e ∈ L, e.Ok) (hwk : Wk w) (hn : n ≤ 1048576) (hT : tl L ≤ 134217728) (hm : more.length ≤ 1048576) (_ha1 : -9223372036854775808 ≤ at_) (_ha2 : at_ < 9223372036854775808) :
    Calls Tryz.prog 3 #[.slice a n c, .agg #[iv at_, .int .u8 by_.toNat, .string (ba more)]] w fun e w' => e = .returned (.bool true) ∧ w.grownBy w' none := by
  have HA := Keep.mk hal
  have HE := Keep.mk (And.intro hE hz)
  have HO := Keep.mk hok
  have HW := Keep.mk hwk
  have HT := Keep.mk hT
  have HLN := Keep.mk hE.len
  have HM := ba_size more
  obtain ⟨MB, hMB⟩ : ∃ q, ba more = q := ⟨_, rfl⟩
  rw [hMB] at HM ⊢
  have HSV : Keep (ba (wrS Sha.sha L) = { data := #[] }) := ⟨by rw [wrS_eq, hb]; rfl⟩
  have HEV : Keep (werr (wBody L) = 51) := ⟨by rw [hb]; rfl⟩
  have HSL := Keep.mk (hMB)
  clear hal hE hz hok hwk hT hMB hb
  go_enter Tryz.func3, Tryz.ntmps3
  go_wp2_with fail
  refine wp_region_held_drew (S := fun W => Has W w.heap.size [iv at_, .int .u8 by_.toNat, .string MB] 24 ∧ w.grownBy W none) (by kernel_rfl) ⟨(Has.newA w #[iv at_, .int .u8 by_.toNat, .string MB] 24).kept (gr_drew _ none) (by simp), (World.grownBy_alloc _ _ _).trans (gr_drew _ _)⟩ (fun hHeld => ?_)
  refine wpAnyH_take (i := 0) (oi := _) (v := ?_) rfl (by kernel_rfl) (by kernel_rfl) (by kernel_rfl) (fun _ _ _ h => h) (Or.inl ⟨by rfl, ?_⟩) (by assumption) ?_
  rotate_left
  · (intro w hSw; go_simp; first | done | (with_reducible rfl))
  simp only [Act.put, List.getElem_toArray, List.getElem_cons_zero, List.setIfInBounds_toArray, List.set_cons_zero, List.set_cons_succ]
  refine wpAnyH_take (i := 1) (oi := _) (v := ?_) rfl (by kernel_rfl) (by kernel_rfl) (by kernel_rfl) (fun _ _ _ h => h) (Or.inl ⟨by rfl, ?_⟩) (by assumption) ?_
  rotate_left
  · (intro w hSw; have cc0 := hSw.1.cellv 0 _ rfl; have cc1 := hSw.1.cellv 1 _ rfl; have cc2 := hSw.1.cellv 2 _ rfl; go_simp; first | done | (with_reducible rfl))
  simp only [Act.put, List.getElem_toArray, List.getElem_cons_succ, List.getElem_cons_zero, List.setIfInBounds_toArray, List.set_cons_zero, List.set_cons_succ]
  refine wpAnyH_take (i := 2) (oi := _) (v := ?_) rfl (by kernel_rfl) (by kernel_rfl) (by kernel_rfl) (fun _ _ _ h => h) (Or.inl ⟨by rfl, ?_⟩) (by assumption) ?_
  rotate_left
  · (intro w hSw; go_simp; first | done | (with_reducible rfl))
  simp only [Act.put, List.getElem_toArray, List.getElem_cons_succ, List.getElem_cons_zero, List.setIfInBounds_toArray, List.set_cons_zero, List.set_cons_succ]
  refine wpAnyH_take (i := 3) (oi := _) (v := ?_) rfl (by kernel_rfl) (by kernel_rfl) (by kernel_rfl) (fun _ _ _ h => h) (Or.inl ⟨by rfl, ?_⟩) (by assumption) ?_
  rotate_left
  · (intro w hSw; have cc0 := hSw.1.cellv 0 _ rfl; have cc1 := hSw.1.cellv 1 _ rfl; have cc2 := hSw.1.cellv 2 _ rfl; go_simp; first | done | (with_reducible rfl))
  simp only [Act.put, List.getElem_toArray, List.getElem_cons_succ, List.getElem_cons_zero, List.setIfInBounds_toArray, List.set_cons_zero, List.set_cons_succ]
  refine wpAnyH_take (i := 4) (oi := _) (v := ?_) rfl (by kernel_rfl) (by kernel_rfl) (by kernel_rfl) (fun _ _ _ h => h) (Or.inl ⟨by rfl, ?_⟩) (by assumption) ?_
  rotate_left
  · (intro w hSw; go_simp; first | done | (with_reducible rfl))
  simp only [Act.put, List.getElem_toArray, List.getElem_cons_succ, List.getElem_cons_zero, List.setIfInBounds_toArray, List.set_cons_zero, List.set_cons_succ]
  refine wpAnyH_take (i := 5) (oi := _) (v := ?_) rfl (by kernel_rfl) (by kernel_rfl) (by kernel_rfl) (fun _ _ _ h => h) (Or.inl ⟨by rfl, ?_⟩) (by assumption) ?_
  rotate_left
  · (intro w hSw; have cc0 := hSw.1.cellv 0 _ rfl; have cc1 := hSw.1.cellv 1 _ rfl; have cc2 := hSw.1.cellv 2 _ rfl; go_simp; first | done | (with_reducible rfl))
  simp only [Act.put, List.getElem_toArray, List.getElem_cons_succ, List.getElem_cons_zero, List.setIfInBounds_toArray, List.set_cons_zero, List.set_cons_succ]
  refine wpAnyH_take (i := 6) (oi := _) (v := ?_) rfl (by kernel_rfl) (by kernel_rfl) (by kernel_rfl) (fun _ _ _ h => h) (Or.inl ⟨by rfl, ?_⟩) (by assumption) ?_
  rotate_left
  · (intro w hSw; go_simp; first | done | (with_reducible rfl))
  simp only [Act.put, List.getElem_toArray, List.getElem_cons_succ, List.getElem_cons_zero, List.setIfInBounds_toArray, List.set_cons_zero, List.set_cons_succ]
  refine wpAnyH_take (i := 7) (oi := _) (v := ?_) rfl (by kernel_rfl) (by kernel_rfl) (by kernel_rfl) (fun _ _ _ h => h) (Or.inl ⟨by rfl, ?_⟩) (by assumption) ?_
  rotate_left
  · (intro w hSw; go_simp; first | done | (with_reducible rfl))
  simp only [Act.put, List.getElem_toArray, List.getElem_cons_succ, List.getElem_cons_zero, List.setIfInBounds_toArray, List.set_cons_zero, List.set_cons_succ]
  refine wpAnyH_take (i := 8) (oi := _) (v := ?_) rfl (by kernel_rfl) (by kernel_rfl) (by kernel_rfl) (fun _ _ _ h => h) (Or.inl ⟨by rfl, ?_⟩) (by assumption) ?_
  rotate_left
  · (intro w hSw; go_simp; first | done | (with_reducible rfl))
  simp only [Act.put, List.getElem_toArray, List.getElem_cons_succ, List.getElem_cons_zero, List.setIfInBounds_toArray, List.set_cons_zero, List.set_cons_succ]
  refine wpAnyH_done (by kernel_rfl) ?_ _

  have HG0 := Keep.mk hHeld.2
  generalize World.drew _ = wd at hHeld HG0 ⊢
  clear hHeld
  go_wp2_with fail
  refine (HA.out _ (HW.out.kept HG0.out)).mono ?_
  rintro e w1 ⟨rfl, g1⟩
  have HG1 := Keep.mk (HG0.out.trans g1)
  clear g1 HG0 HA
  go_wp2_with fail
  refine (lend_c a n c L _ (HE.out.1.kept HG1.out) HE.out.2 hn).mono ?_
  rintro e w2 ⟨g, q, rfl, g2, es2⟩
  have HG2 := Keep.mk (HG1.out.trans g2)
  have HMI : Keep (Es w2 (some ⟨g, 0, none⟩) (n + 2) q (L ++ [m77, m78]) ∧ Es w2 (some ⟨g, 0, none⟩) n q L) := ⟨es2, by
    have := es2.sub (m := n) (by omega)
    rwa [List.take_append_of_le_length (by rw [HLN.out]; exact Nat.le_refl _), List.take_of_length_le (by rw [HLN.out]; exact Nat.le_refl _)] at this⟩
  clear g2 es2 HG1
  go_wp2_with fail
  refine (write_c _ n q L _ HMI.out.2 HO.out (HW.out.kept HG2.out).k (by omega) (by have := HT.out; omega)).mono ?_
  rintro e w3 ⟨rfl, g3⟩
  rw [HSV.out, HEV.out]
  have HG3 := Keep.mk (HG2.out.trans g3)
  have HM3 := Keep.mk (HMI.out.1.kept g3)
  clear g3 HG2 HMI
  go_wp2_with fail
  refine (rwrite_c a n c L _ (HE.out.1.kept HG3.out) HO.out (HW.out.kept HG3.out).r (Nat.le_trans (by decide) (HW.out.kept HG3.out).h) (by omega) (by have := HT.out; omega)).mono ?_
  rintro e w4 ⟨rfl, g4⟩
  rw [HSV.out, HEV.out]
  have HG4 := Keep.mk (HG3.out.trans g4)
  have HM4 := Keep.mk (HM3.out.kept g4)
  clear g4 HG3 HM3
  go_wp2_with fail
  refine (kept_c g n q a c L _ HM4.out (HE.out.1.kept HG4.out) hn).mono ?_
  rintro e w5 ⟨rfl, g5⟩
  have HG5 := Keep.mk (HG4.out.trans g5)
  clear g5 HG4 HM4
  go_wp2_with fail
  refine (reads_b _ _ (HW.out.kept HG5.out).k (HW.out.kept HG5.out).r (Nat.le_trans (by decide) (HW.out.kept HG5.out).h) (by (repeat rw [app_size]); (try rw [shaB_size]); (repeat rw [app_size]); (try rw [show (ByteArray.mk #[74, 66, 48, 49]).size = 4 from rfl]); (try rw [show (ByteArray.mk #[]).size = 0 from rfl]); omega)).mono ?_
  rintro e p21 ⟨rfl, g21⟩
  have HG21 := Keep.mk (HG5.out.trans g21)
  clear g21 HG5
  go_wp2_with fail
  refine (reads_b _ _ (HW.out.kept HG21.out).k (HW.out.kept HG21.out).r (Nat.le_trans (by decide) (HW.out.kept HG21.out).h) (by omega)).mono ?_
  rintro e p22 ⟨rfl, g22⟩
  have HG22 := Keep.mk (HG21.out.trans g22)
  clear g22 HG21
  go_wp2_with fail
  refine (resum_c _ _ (HW.out.kept HG22.out).r (Nat.le_trans (by decide) (HW.out.kept HG22.out).h) (by omega)).mono ?_
  rintro e p23 ⟨rfl, g23⟩
  have HG23 := Keep.mk (HG22.out.trans g23)
  clear g23 HG22
  go_wp2_with fail
  refine (reads_b _ _ (HW.out.kept HG23.out).k (HW.out.kept HG23.out).r (Nat.le_trans (by decide) (HW.out.kept HG23.out).h) (by (repeat rw [app_size]); (try rw [shaB_size]); (repeat rw [app_size]); (try rw [show (ByteArray.mk #[74, 66, 48, 49]).size = 4 from rfl]); (try rw [show (ByteArray.mk #[]).size = 0 from rfl]); omega)).mono ?_
  rintro e p24 ⟨rfl, g24⟩
  have HG24 := Keep.mk (HG23.out.trans g24)
  clear g24 HG23
  go_wp2_with fail
  refine (resum_c _ _ (HW.out.kept HG24.out).r (Nat.le_trans (by decide) (HW.out.kept HG24.out).h) (by (repeat rw [app_size]); (try rw [shaB_size]); (repeat rw [app_size]); (try rw [show (ByteArray.mk #[74, 66, 48, 49]).size = 4 from rfl]); (try rw [show (ByteArray.mk #[]).size = 0 from rfl]); omega)).mono ?_
  rintro e p25 ⟨rfl, g25⟩
  have HG25 := Keep.mk (HG24.out.trans g25)
  clear g25 HG24
  go_wp2_with fail
  refine (reads_b _ _ (HW.out.kept HG25.out).k (HW.out.kept HG25.out).r (Nat.le_trans (by decide) (HW.out.kept HG25.out).h) (by (repeat rw [app_size]); (try rw [shaB_size]); (repeat rw [app_size]); (try rw [show (ByteArray.mk #[74, 66, 48, 49]).size = 4 from rfl]); (try rw [show (ByteArray.mk #[]).size = 0 from rfl]); omega)).mono ?_
  rintro e p26 ⟨rfl, g26⟩
  have HG26 := Keep.mk (HG25.out.trans g26)
  clear g26 HG25
  go_wp2_with fail
  go_ret
  exact ⟨rfl, HG26.out⟩
end Go.Proofs.YtjbkoablleneeaaGreatDoor.Pk

