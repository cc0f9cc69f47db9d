/- RM1, RM2, RM3 -/
import Derived.Test.YtmacmoikjgmaoaaDoorL1
import Derived.Test.YtmacmoikjgmaoaaDoorH6
import Derived.Test.YtmacmoikjgmaoaaDoorBRA1
namespace Go.Proofs.YtmacmoikjgmaoaaDoor.Bo
open Go Go.RowKit

set_option maxRecDepth 100000 in
set_option maxHeartbeats 4000000 in
theorem rquarter_c (w : World) (x : Int) (h : In x) : Calls Tryd.prog 42 #[iv x] w fun e w' => e = .returned (iv (x / 4)) ∧ w.grownBy w' none := by
  have HG : Keep (w.grownBy w none) := ⟨World.grownBy.refl w _⟩
  obtain ⟨h1, h2⟩ := h
  by_cases h0 : 0 ≤ x
  · have e1 : x.tdiv 4 = x / 4 := Int.tdiv_eq_ediv_of_nonneg h0
    have e2 : x.tmod 4 = x % 4 := Int.tmod_eq_emod_of_nonneg h0
    have k1 : IntKind.i64.wrap (x / 4) = x / 4 := wi _ (by omega) (by omega)
    have k2 : ¬ x % 4 < 0 := by omega
    go_enter Tryd.func42, Tryd.ntmps42
    go_wp2_with fail
    go_ret
    exact ⟨rfl, HG.out⟩
  · have e1 : x.tdiv 4 = -((-x) / 4) := by
      rw [← Int.tdiv_eq_ediv_of_nonneg (by omega : 0 ≤ -x), Int.neg_tdiv, Int.neg_neg]
    have e2 : x.tmod 4 = -((-x) % 4) := by
      rw [← Int.tmod_eq_emod_of_nonneg (by omega : 0 ≤ -x), Int.neg_tmod, Int.neg_neg]
    by_cases hm : x.tmod 4 < 0
    · have k1 : IntKind.i64.wrap (x.tdiv 4) = x.tdiv 4 := wi _ (by omega) (by omega)
      have k2 : IntKind.i64.wrap (x.tdiv 4 - 1) = x / 4 := by rw [wi _ (by omega) (by omega)]; omega
      have k3 : IntKind.i64.wrap (x.tmod 4) = x.tmod 4 := wi _ (by omega) (by omega)
      clear e1 e2
      go_enter Tryd.func42, Tryd.ntmps42
      go_wp2_with fail
      go_ret
      exact ⟨rfl, HG.out⟩
    · have k1 : IntKind.i64.wrap (x.tdiv 4) = x / 4 := by rw [wi _ (by omega) (by omega)]; omega
      have k3 : IntKind.i64.wrap (x.tmod 4) = x.tmod 4 := wi _ (by omega) (by omega)
      clear e1 e2
      go_enter Tryd.func42, Tryd.ntmps42
      go_wp2_with fail
      go_ret
      exact ⟨rfl, HG.out⟩
theorem rng_vec {w : World} {b o : Nat} {c : Cr} (h : w.rangeAt b o (crv c)) : w.rangeAt b (o + 2) [iv c.x, iv c.y] := fun j v hv => by
  match j, hv with
  | 0, hv => exact h 2 v hv
  | 1, hv => exact h 3 v hv
  | j + 2, hv => cases hv
/-- the first car that is met; -1: none -/
def fst (s : Sh) (cs : List Cr) : Int := match cs.findIdx? (mt s) with | some i => (i : Int) | none => -1
theorem fst_here {s : Sh} {cs : List Cr} {i : Nat} {x : Cr} (hi : cs[i]? = some x) (hx : mt s x = true) (hn : ∀ (j : Nat) y, j < i → cs[j]? = some y → mt s y = false) : fst s cs = i := by
  unfold fst; rw [find_here hi hx hn]
theorem fst_none {s : Sh} {cs : List Cr} (hn : ∀ (j : Nat) y, j < cs.length → cs[j]? = some y → mt s y = false) : fst s cs = -1 := by
  unfold fst; rw [find_none hn]
end Go.Proofs.YtmacmoikjgmaoaaDoor.Bo

namespace Go.Proofs.YtmacmoikjgmaoaaDoor.Bo
open Go Go.RowKit

set_option maxRecDepth 100000 in
set_option maxHeartbeats 16000000 in
theorem rmet_c (w : World) (cv : Value) (cs : List Cr) (s : Sh) (hC : Crs w cv cs) (ok : ShOk s) (hk : Kc w) :
    Calls Tryd.prog 44 #[cv, .agg (shv s).toArray] w fun e w' => e = .returned (iv (fst s cs)) ∧ w.grownBy w' none := by
  obtain ⟨dv, hdv, hdvr⟩ := underVc
  have S1 := (Sep.nil w).newBox (shv s).toArray 26
  obtain ⟨W1, hW1⟩ : ∃ W1, w.alloc (.cells (shv s).toArray 26) = W1 := ⟨_, rfl⟩
  obtain ⟨sb, hsb⟩ : ∃ xb, w.heap.size = xb := ⟨_, rfl⟩
  rw [hW1, hsb] at S1
  change Sep w W1 [boxA sb (shv s) 26] at S1
  have hss : (shv s).toArray.size = 7 := rfl
  have HS := Keep.mk S1
  have HC := Keep.mk hC
  have HOK := Keep.mk ok
  have HK := Keep.mk hk
  obtain ⟨a0, cap, rfl, _⟩ := hC.o
  have hn := hC.n
  clear S1 hC ok hk
  obtain ⟨n, hnn⟩ : ∃ n, cs.length = n := ⟨_, rfl⟩
  rw [hnn] at hn HC
  rw [hnn]
  have HNN := Keep.mk hnn
  clear hnn
  obtain ⟨r, hr⟩ : ∃ r, fst s cs = r := ⟨_, rfl⟩
  rw [hr]
  have HFR := Keep.mk hr
  clear hr
  go_enter Tryd.func44, Tryd.ntmps44
  go_wp2_with fail
  go_loopw [5] (fun u wr => ∃ i : Nat, i ≤ n ∧ u = iv i ∧ Keep (∀ (j : Nat) y, j < i → cs[j]? = some y → mt s y = false) ∧ Keep (Sep w wr [boxA sb (shv s) 26])) (fun u _ => (n - intOf u).toNat)
  case atStart => exact ⟨0, by omega, rfl, ⟨fun j y hj => by omega⟩, HS⟩
  case round =>
    obtain ⟨i, hin0, rfl, HM1, HB⟩ := hrel
    clear HS hW1 hsb
    by_cases hin : i < n
    · have hii : (i : Int) < (n : Int) := by omega
      have hdi : decide ((i : Int) < (n : Int)) = true := decide_eq_true hii
      have hti : ((i : Nat) : Int).toNat = i := by omega
      have hi1 : IntKind.i64.wrap ((i : Int) + 1) = ((i + 1 : Nat) : Int) := by rw [wi _ (by omega) (by omega)]; omega
      obtain ⟨ci, hci⟩ : ∃ ci, cs[i]? = some ci := ⟨_, List.getElem?_eq_getElem (by rw [HNN.out]; exact hin)⟩
      obtain ⟨a1, cap1, ea, hcells⟩ := HC.out.o
      obtain ⟨g, o, eg, hcl⟩ := hcells (by rw [HNN.out]; omega)
      injection ea with ea1 ea2 ea3
      subst ea1
      subst eg
      have HIR : Keep (∀ W, w.grownBy W none → W.rangeAt g (o + i * 14) (crv ci)) := ⟨fun W gW j v hv => gW.cell (hcl i ci hci j v hv) (by simp)⟩
      have HOC : Keep (CrOk ci) := ⟨HC.out.s ci (List.mem_of_getElem? hci)⟩
      have HCI := Keep.mk hci
      have HWI := Keep.mk (fun W (gW : w.grownBy W none) => rwithin_c ci.x ci.y s.x s.y 98304 HOC.out.x HOC.out.y HOK.out.x HOK.out.y W (HK.out.kept gW))
      have HMT : Keep (mt s ci = (decide (ci.wa ≤ 0) && (decide (ci.pl ≠ s.pl) && wn (d2 ci.x ci.y s.x s.y) 98304))) := ⟨by
        unfold mt
        rw [d2_comm, show decide (¬ 0 < ci.wa) = decide (ci.wa ≤ 0) from decide_eq_decide.2 Int.not_lt]⟩
      generalize wn (d2 ci.x ci.y s.x s.y) 98304 = wb at *
      clear ea2 ea3 hcells hcl hci
      go_upto_region 4 with fail
      go_cut [37] (fun sv wx => sv = .bool (mt s ci) ∧ Keep (Sep w wx [boxA sb (shv s) 26]))
      case first =>
        by_cases hwa : ci.wa ≤ 0
        · have dwa : decide (ci.wa ≤ 0) = true := decide_eq_true hwa
          by_cases hpl : ci.pl = s.pl
          · have HMF : Keep (mt s ci = false) := ⟨by rw [HMT.out]; simp [hpl]⟩
            have e1 : (ci.pl != s.pl) = false := by simp [hpl]
            clear hpl hwa HMT HWI
            refine region_X (S := fun w' => Sep w w' [boxA sb (shv s) 26]) [] (by kernel_rfl) (HB.out.grown (gr_drew _ _)) (fun hHeld => ?_)
            replace HB := Keep.mk hHeld
            obtain ⟨W0, hW0⟩ : ∃ W_, wr.drew = W_ := ⟨_, rfl⟩
            rw [hW0] at HB hHeld ⊢
            clear hW0
            refine wpAnyX_take (i := 0) (oi := _) (v := ?_) rfl (by kernel_rfl) (by kernel_rfl) (by kernel_rfl) (by kernel_rfl) (by kernel_rfl) (fun _ _ _ h => h) (Or.inl ⟨by rfl, ?_⟩) (by assumption) ?_
            rotate_left
            · (intro w hSw; go_simp; first | done | (with_reducible rfl))
            simp only [Act.put, List.getElem_toArray, List.getElem_cons_zero, List.setIfInBounds_toArray, List.set_cons_zero, List.set_cons_succ]
            refine wpAnyX_take (i := 1) (oi := _) (v := ?_) rfl (by kernel_rfl) (by kernel_rfl) (by kernel_rfl) (by kernel_rfl) (by kernel_rfl) (fun _ _ _ h => h) (Or.inl ⟨by rfl, ?_⟩) (by assumption) ?_
            rotate_left
            · (intro w hSw; go_simp; first | done | (with_reducible rfl))
            simp only [Act.put, List.getElem_toArray, List.getElem_cons_succ, List.getElem_cons_zero, List.setIfInBounds_toArray, List.set_cons_zero, List.set_cons_succ]
            refine wpAnyX_take (i := 2) (oi := _) (v := ?_) rfl (by kernel_rfl) (by kernel_rfl) (by kernel_rfl) (by kernel_rfl) (by kernel_rfl) (fun _ _ _ h => h) (Or.inl ⟨by rfl, ?_⟩) (by assumption) ?_
            rotate_left
            · (intro w hSw; go_simp; first | done | (with_reducible rfl))
            simp only [Act.put, List.getElem_toArray, List.getElem_cons_succ, List.getElem_cons_zero, List.setIfInBounds_toArray, List.set_cons_zero, List.set_cons_succ]
            refine wpAnyX_take (i := 3) (oi := _) (v := ?_) rfl (by kernel_rfl) (by kernel_rfl) (by kernel_rfl) (by kernel_rfl) (by kernel_rfl) (fun _ _ _ h => h) (Or.inl ⟨by rfl, ?_⟩) (by assumption) ?_
            rotate_left
            · (intro w hSw; go_simp; first | done | (with_reducible rfl))
            simp only [Act.put, List.getElem_toArray, List.getElem_cons_succ, List.getElem_cons_zero, List.setIfInBounds_toArray, List.set_cons_zero, List.set_cons_succ]
            refine wpAnyX_take (i := 4) (oi := _) (v := ?_) rfl (by kernel_rfl) (by kernel_rfl) (by kernel_rfl) (by kernel_rfl) (by kernel_rfl) (fun _ _ _ h => h) (Or.inl ⟨by rfl, ?_⟩) (by assumption) ?_
            rotate_left
            · (intro w hSw; have q0 := HIR.out _ hSw.g 11 _ rfl; go_simp; first | done | (with_reducible rfl))
            simp only [Act.put, List.getElem_toArray, List.getElem_cons_succ, List.getElem_cons_zero, List.setIfInBounds_toArray, List.set_cons_zero, List.set_cons_succ]
            refine wpAnyX_take (i := 5) (oi := _) (v := ?_) rfl (by kernel_rfl) (by kernel_rfl) (by kernel_rfl) (by kernel_rfl) (by kernel_rfl) (fun _ _ _ h => h) (Or.inl ⟨by rfl, ?_⟩) (by assumption) ?_
            rotate_left
            · (intro w hSw; go_simp; first | done | (with_reducible rfl))
            simp only [Act.put, List.getElem_toArray, List.getElem_cons_succ, List.getElem_cons_zero, List.setIfInBounds_toArray, List.set_cons_zero, List.set_cons_succ]
            refine wpAnyX_take (i := 6) (oi := _) (v := ?_) rfl (by kernel_rfl) (by kernel_rfl) (by kernel_rfl) (by kernel_rfl) (by kernel_rfl) (fun _ _ _ h => h) (Or.inl ⟨by rfl, ?_⟩) (by assumption) ?_
            rotate_left
            · (intro w hSw; go_simp; first | done | (with_reducible rfl))
            simp only [Act.put, List.getElem_toArray, List.getElem_cons_succ, List.getElem_cons_zero, List.setIfInBounds_toArray, List.set_cons_zero, List.set_cons_succ]
            refine wpAnyX_take (i := 7) (oi := _) (v := ?_) rfl (by kernel_rfl) (by kernel_rfl) (by kernel_rfl) (by kernel_rfl) (by kernel_rfl) (fun _ _ _ h => h) (Or.inl ⟨by rfl, ?_⟩) (by assumption) ?_
            rotate_left
            · (intro w hSw; go_simp; first | done | (with_reducible rfl))
            simp only [Act.put, List.getElem_toArray, List.getElem_cons_succ, List.getElem_cons_zero, List.setIfInBounds_toArray, List.set_cons_zero, List.set_cons_succ]
            refine wpAnyX_take (i := 8) (oi := _) (v := ?_) rfl (by kernel_rfl) (by kernel_rfl) (by kernel_rfl) (by kernel_rfl) (by kernel_rfl) (fun _ _ _ h => h) (Or.inl ⟨by rfl, ?_⟩) (by assumption) ?_
            rotate_left
            · (intro w hSw; go_simp; first | done | (with_reducible rfl))
            simp only [Act.put, List.getElem_toArray, List.getElem_cons_succ, List.getElem_cons_zero, List.setIfInBounds_toArray, List.set_cons_zero, List.set_cons_succ]
            refine wpAnyX_take (i := 9) (oi := _) (v := ?_) rfl (by kernel_rfl) (by kernel_rfl) (by kernel_rfl) (by kernel_rfl) (by kernel_rfl) (fun _ _ _ h => h) (Or.inl ⟨by rfl, ?_⟩) (by assumption) ?_
            rotate_left
            · (intro w hSw; go_simp; first | done | (with_reducible rfl))
            simp only [Act.put, List.getElem_toArray, List.getElem_cons_succ, List.getElem_cons_zero, List.setIfInBounds_toArray, List.set_cons_zero, List.set_cons_succ]
            refine wpAnyX_take (i := 10) (oi := _) (v := ?_) rfl (by kernel_rfl) (by kernel_rfl) (by kernel_rfl) (by kernel_rfl) (by kernel_rfl) (fun _ _ _ h => h) (Or.inl ⟨by rfl, ?_⟩) (by assumption) ?_
            rotate_left
            · (intro w hSw; go_simp; first | done | (with_reducible rfl))
            simp only [Act.put, List.getElem_toArray, List.getElem_cons_succ, List.getElem_cons_zero, List.setIfInBounds_toArray, List.set_cons_zero, List.set_cons_succ]
            refine wpAnyX_take (i := 11) (oi := _) (v := ?_) rfl (by kernel_rfl) (by kernel_rfl) (by kernel_rfl) (by kernel_rfl) (by kernel_rfl) (fun _ _ _ h => h) (Or.inl ⟨by rfl, ?_⟩) (by assumption) ?_
            rotate_left
            · (intro w hSw; have q0 := HIR.out _ hSw.g 0 _ rfl; rw [Nat.add_zero] at q0; go_simp; first | done | (with_reducible rfl))
            simp only [Act.put, List.getElem_toArray, List.getElem_cons_succ, List.getElem_cons_zero, List.setIfInBounds_toArray, List.set_cons_zero, List.set_cons_succ]
            refine wpAnyX_take (i := 12) (oi := _) (v := ?_) rfl (by kernel_rfl) (by kernel_rfl) (by kernel_rfl) (by kernel_rfl) (by kernel_rfl) (fun _ _ _ h => h) (Or.inl ⟨by rfl, ?_⟩) (by assumption) ?_
            rotate_left
            · (intro w hSw; go_simp; first | done | (with_reducible rfl))
            simp only [Act.put, List.getElem_toArray, List.getElem_cons_succ, List.getElem_cons_zero, List.setIfInBounds_toArray, List.set_cons_zero, List.set_cons_succ]
            refine wpAnyX_take (i := 13) (oi := _) (v := ?_) rfl (by kernel_rfl) (by kernel_rfl) (by kernel_rfl) (by kernel_rfl) (by kernel_rfl) (fun _ _ _ h => h) (Or.inl ⟨by rfl, ?_⟩) (by assumption) ?_
            rotate_left
            · (intro w hSw; have q0 := (hSw.boxGet k0m).cellv 1 _ rfl; go_simp; first | done | (with_reducible rfl))
            simp only [Act.put, List.getElem_toArray, List.getElem_cons_succ, List.getElem_cons_zero, List.setIfInBounds_toArray, List.set_cons_zero, List.set_cons_succ]
            refine wpAnyX_take (i := 14) (oi := _) (v := ?_) rfl (by kernel_rfl) (by kernel_rfl) (by kernel_rfl) (by kernel_rfl) (by kernel_rfl) (fun _ _ _ h => h) (Or.inl ⟨by rfl, ?_⟩) (by assumption) ?_
            rotate_left
            · (intro w hSw; have q0 := e1; go_simp; first | done | (with_reducible rfl))
            simp only [Act.put, List.getElem_toArray, List.getElem_cons_succ, List.getElem_cons_zero, List.setIfInBounds_toArray, List.set_cons_zero, List.set_cons_succ]
            refine wpAnyX_take (i := 15) (oi := _) (v := ?_) rfl (by kernel_rfl) (by kernel_rfl) (by kernel_rfl) (by kernel_rfl) (by kernel_rfl) (fun _ _ _ h => h) (Or.inl ⟨by rfl, ?_⟩) (by assumption) ?_
            rotate_left
            · (intro w hSw; go_simp; first | done | (with_reducible rfl))
            simp only [Act.put, List.getElem_toArray, List.getElem_cons_succ, List.getElem_cons_zero, List.setIfInBounds_toArray, List.set_cons_zero, List.set_cons_succ]
            refine wpAnyX_take (i := 16) (oi := _) (v := ?_) rfl (by kernel_rfl) (by kernel_rfl) (by kernel_rfl) (by kernel_rfl) (by kernel_rfl) (fun _ _ _ h => h) (Or.inl ⟨by rfl, ?_⟩) (by assumption) ?_
            rotate_left
            · (intro w hSw; go_simp; first | done | (with_reducible rfl))
            simp only [Act.put, List.getElem_toArray, List.getElem_cons_succ, List.getElem_cons_zero, List.setIfInBounds_toArray, List.set_cons_zero, List.set_cons_succ]
            refine wpAnyX_take (i := 17) (oi := _) (v := undef) rfl (by kernel_rfl) (by kernel_rfl) (by kernel_rfl) (by kernel_rfl) (by kernel_rfl) (fun _ _ _ h => h) (Or.inr ⟨by rfl, rfl⟩) (by assumption) ?_
            simp only [Act.put, List.getElem_toArray, List.getElem_cons_succ, List.getElem_cons_zero, List.setIfInBounds_toArray, List.set_cons_zero, List.set_cons_succ]
            refine wpAnyX_take (i := 18) (oi := _) (v := undef) rfl (by kernel_rfl) (by kernel_rfl) (by kernel_rfl) (by kernel_rfl) (by kernel_rfl) (fun _ _ _ h => h) (Or.inr ⟨by rfl, rfl⟩) (by assumption) ?_
            simp only [Act.put, List.getElem_toArray, List.getElem_cons_succ, List.getElem_cons_zero, List.setIfInBounds_toArray, List.set_cons_zero, List.set_cons_succ]
            refine wpAnyX_take (i := 19) (oi := _) (v := undef) rfl (by kernel_rfl) (by kernel_rfl) (by kernel_rfl) (by kernel_rfl) (by kernel_rfl) (fun _ _ _ h => h) (Or.inr ⟨by rfl, rfl⟩) (by assumption) ?_
            simp only [Act.put, List.getElem_toArray, List.getElem_cons_succ, List.getElem_cons_zero, List.setIfInBounds_toArray, List.set_cons_zero, List.set_cons_succ]
            refine wpAnyX_take (i := 20) (oi := _) (v := undef) rfl (by kernel_rfl) (by kernel_rfl) (by kernel_rfl) (by kernel_rfl) (by kernel_rfl) (fun _ _ _ h => h) (Or.inr ⟨by rfl, rfl⟩) (by assumption) ?_
            simp only [Act.put, List.getElem_toArray, List.getElem_cons_succ, List.getElem_cons_zero, List.setIfInBounds_toArray, List.set_cons_zero, List.set_cons_succ]
            refine wpAnyX_take (i := 21) (oi := _) (v := undef) rfl (by kernel_rfl) (by kernel_rfl) (by kernel_rfl) (by kernel_rfl) (by kernel_rfl) (fun _ _ _ h => h) (Or.inr ⟨by rfl, rfl⟩) (by assumption) ?_
            simp only [Act.put, List.getElem_toArray, List.getElem_cons_succ, List.getElem_cons_zero, List.setIfInBounds_toArray, List.set_cons_zero, List.set_cons_succ]
            refine wpAnyX_take (i := 22) (oi := _) (v := undef) rfl (by kernel_rfl) (by kernel_rfl) (by kernel_rfl) (by kernel_rfl) (by kernel_rfl) (fun _ _ _ h => h) (Or.inr ⟨by rfl, rfl⟩) (by assumption) ?_
            simp only [Act.put, List.getElem_toArray, List.getElem_cons_succ, List.getElem_cons_zero, List.setIfInBounds_toArray, List.set_cons_zero, List.set_cons_succ]
            refine wpAnyX_take (i := 23) (oi := _) (v := undef) rfl (by kernel_rfl) (by kernel_rfl) (by kernel_rfl) (by kernel_rfl) (by kernel_rfl) (fun _ _ _ h => h) (Or.inr ⟨by rfl, rfl⟩) (by assumption) ?_
            simp only [Act.put, List.getElem_toArray, List.getElem_cons_succ, List.getElem_cons_zero, List.setIfInBounds_toArray, List.set_cons_zero, List.set_cons_succ]
            refine wpAnyX_take (i := 24) (oi := _) (v := undef) rfl (by kernel_rfl) (by kernel_rfl) (by kernel_rfl) (by kernel_rfl) (by kernel_rfl) (fun _ _ _ h => h) (Or.inr ⟨by rfl, rfl⟩) (by assumption) ?_
            simp only [Act.put, List.getElem_toArray, List.getElem_cons_succ, List.getElem_cons_zero, List.setIfInBounds_toArray, List.set_cons_zero, List.set_cons_succ]
            refine wpAnyX_take (i := 25) (oi := _) (v := ?_) rfl (by kernel_rfl) (by kernel_rfl) (by kernel_rfl) (by kernel_rfl) (by kernel_rfl) (fun _ _ _ h => h) (Or.inl ⟨by rfl, ?_⟩) (by assumption) ?_
            rotate_left
            · (intro w hSw; go_simp; first | done | (with_reducible rfl))
            simp only [Act.put, List.getElem_toArray, List.getElem_cons_succ, List.getElem_cons_zero, List.setIfInBounds_toArray, List.set_cons_zero, List.set_cons_succ]
            refine wpAnyX_done (by kernel_rfl) ?_ _
            clear hHeld
            go_wp2_with fail
            go_meet
            exact ⟨by rw [HMF.out], HB⟩
          · have HMF : Keep (mt s ci = wb) := ⟨by rw [HMT.out]; simp [hpl, hwa]⟩
            have e1 : (ci.pl != s.pl) = true := by simp [hpl]
            clear hpl hwa HMT
            refine region_X (S := fun w' => Sep w w' [boxA sb (shv s) 26]) [] (by kernel_rfl) (HB.out.grown (gr_drew _ _)) (fun hHeld => ?_)
            replace HB := Keep.mk hHeld
            obtain ⟨W0, hW0⟩ : ∃ W_, wr.drew = W_ := ⟨_, rfl⟩
            rw [hW0] at HB hHeld ⊢
            clear hW0
            refine wpAnyX_take (i := 0) (oi := _) (v := ?_) rfl (by kernel_rfl) (by kernel_rfl) (by kernel_rfl) (by kernel_rfl) (by kernel_rfl) (fun _ _ _ h => h) (Or.inl ⟨by rfl, ?_⟩) (by assumption) ?_
            rotate_left
            · (intro w hSw; go_simp; first | done | (with_reducible rfl))
            simp only [Act.put, List.getElem_toArray, List.getElem_cons_zero, List.setIfInBounds_toArray, List.set_cons_zero, List.set_cons_succ]
            refine wpAnyX_take (i := 1) (oi := _) (v := ?_) rfl (by kernel_rfl) (by kernel_rfl) (by kernel_rfl) (by kernel_rfl) (by kernel_rfl) (fun _ _ _ h => h) (Or.inl ⟨by rfl, ?_⟩) (by assumption) ?_
            rotate_left
            · (intro w hSw; go_simp; first | done | (with_reducible rfl))
            simp only [Act.put, List.getElem_toArray, List.getElem_cons_succ, List.getElem_cons_zero, List.setIfInBounds_toArray, List.set_cons_zero, List.set_cons_succ]
            refine wpAnyX_take (i := 2) (oi := _) (v := ?_) rfl (by kernel_rfl) (by kernel_rfl) (by kernel_rfl) (by kernel_rfl) (by kernel_rfl) (fun _ _ _ h => h) (Or.inl ⟨by rfl, ?_⟩) (by assumption) ?_
            rotate_left
            · (intro w hSw; go_simp; first | done | (with_reducible rfl))
            simp only [Act.put, List.getElem_toArray, List.getElem_cons_succ, List.getElem_cons_zero, List.setIfInBounds_toArray, List.set_cons_zero, List.set_cons_succ]
            refine wpAnyX_take (i := 3) (oi := _) (v := ?_) rfl (by kernel_rfl) (by kernel_rfl) (by kernel_rfl) (by kernel_rfl) (by kernel_rfl) (fun _ _ _ h => h) (Or.inl ⟨by rfl, ?_⟩) (by assumption) ?_
            rotate_left
            · (intro w hSw; go_simp; first | done | (with_reducible rfl))
            simp only [Act.put, List.getElem_toArray, List.getElem_cons_succ, List.getElem_cons_zero, List.setIfInBounds_toArray, List.set_cons_zero, List.set_cons_succ]
            refine wpAnyX_take (i := 4) (oi := _) (v := ?_) rfl (by kernel_rfl) (by kernel_rfl) (by kernel_rfl) (by kernel_rfl) (by kernel_rfl) (fun _ _ _ h => h) (Or.inl ⟨by rfl, ?_⟩) (by assumption) ?_
            rotate_left
            · (intro w hSw; have q0 := HIR.out _ hSw.g 11 _ rfl; go_simp; first | done | (with_reducible rfl))
            simp only [Act.put, List.getElem_toArray, List.getElem_cons_succ, List.getElem_cons_zero, List.setIfInBounds_toArray, List.set_cons_zero, List.set_cons_succ]
            refine wpAnyX_take (i := 5) (oi := _) (v := ?_) rfl (by kernel_rfl) (by kernel_rfl) (by kernel_rfl) (by kernel_rfl) (by kernel_rfl) (fun _ _ _ h => h) (Or.inl ⟨by rfl, ?_⟩) (by assumption) ?_
            rotate_left
            · (intro w hSw; go_simp; first | done | (with_reducible rfl))
            simp only [Act.put, List.getElem_toArray, List.getElem_cons_succ, List.getElem_cons_zero, List.setIfInBounds_toArray, List.set_cons_zero, List.set_cons_succ]
            refine wpAnyX_take (i := 6) (oi := _) (v := ?_) rfl (by kernel_rfl) (by kernel_rfl) (by kernel_rfl) (by kernel_rfl) (by kernel_rfl) (fun _ _ _ h => h) (Or.inl ⟨by rfl, ?_⟩) (by assumption) ?_
            rotate_left
            · (intro w hSw; go_simp; first | done | (with_reducible rfl))
            simp only [Act.put, List.getElem_toArray, List.getElem_cons_succ, List.getElem_cons_zero, List.setIfInBounds_toArray, List.set_cons_zero, List.set_cons_succ]
            refine wpAnyX_take (i := 7) (oi := _) (v := ?_) rfl (by kernel_rfl) (by kernel_rfl) (by kernel_rfl) (by kernel_rfl) (by kernel_rfl) (fun _ _ _ h => h) (Or.inl ⟨by rfl, ?_⟩) (by assumption) ?_
            rotate_left
            · (intro w hSw; go_simp; first | done | (with_reducible rfl))
            simp only [Act.put, List.getElem_toArray, List.getElem_cons_succ, List.getElem_cons_zero, List.setIfInBounds_toArray, List.set_cons_zero, List.set_cons_succ]
            refine wpAnyX_take (i := 8) (oi := _) (v := ?_) rfl (by kernel_rfl) (by kernel_rfl) (by kernel_rfl) (by kernel_rfl) (by kernel_rfl) (fun _ _ _ h => h) (Or.inl ⟨by rfl, ?_⟩) (by assumption) ?_
            rotate_left
            · (intro w hSw; go_simp; first | done | (with_reducible rfl))
            simp only [Act.put, List.getElem_toArray, List.getElem_cons_succ, List.getElem_cons_zero, List.setIfInBounds_toArray, List.set_cons_zero, List.set_cons_succ]
            refine wpAnyX_take (i := 9) (oi := _) (v := ?_) rfl (by kernel_rfl) (by kernel_rfl) (by kernel_rfl) (by kernel_rfl) (by kernel_rfl) (fun _ _ _ h => h) (Or.inl ⟨by rfl, ?_⟩) (by assumption) ?_
            rotate_left
            · (intro w hSw; go_simp; first | done | (with_reducible rfl))
            simp only [Act.put, List.getElem_toArray, List.getElem_cons_succ, List.getElem_cons_zero, List.setIfInBounds_toArray, List.set_cons_zero, List.set_cons_succ]
            refine wpAnyX_take (i := 10) (oi := _) (v := ?_) rfl (by kernel_rfl) (by kernel_rfl) (by kernel_rfl) (by kernel_rfl) (by kernel_rfl) (fun _ _ _ h => h) (Or.inl ⟨by rfl, ?_⟩) (by assumption) ?_
            rotate_left
            · (intro w hSw; go_simp; first | done | (with_reducible rfl))
            simp only [Act.put, List.getElem_toArray, List.getElem_cons_succ, List.getElem_cons_zero, List.setIfInBounds_toArray, List.set_cons_zero, List.set_cons_succ]
            refine wpAnyX_take (i := 11) (oi := _) (v := ?_) rfl (by kernel_rfl) (by kernel_rfl) (by kernel_rfl) (by kernel_rfl) (by kernel_rfl) (fun _ _ _ h => h) (Or.inl ⟨by rfl, ?_⟩) (by assumption) ?_
            rotate_left
            · (intro w hSw; have q0 := HIR.out _ hSw.g 0 _ rfl; rw [Nat.add_zero] at q0; go_simp; first | done | (with_reducible rfl))
            simp only [Act.put, List.getElem_toArray, List.getElem_cons_succ, List.getElem_cons_zero, List.setIfInBounds_toArray, List.set_cons_zero, List.set_cons_succ]
            refine wpAnyX_take (i := 12) (oi := _) (v := ?_) rfl (by kernel_rfl) (by kernel_rfl) (by kernel_rfl) (by kernel_rfl) (by kernel_rfl) (fun _ _ _ h => h) (Or.inl ⟨by rfl, ?_⟩) (by assumption) ?_
            rotate_left
            · (intro w hSw; go_simp; first | done | (with_reducible rfl))
            simp only [Act.put, List.getElem_toArray, List.getElem_cons_succ, List.getElem_cons_zero, List.setIfInBounds_toArray, List.set_cons_zero, List.set_cons_succ]
            refine wpAnyX_take (i := 13) (oi := _) (v := ?_) rfl (by kernel_rfl) (by kernel_rfl) (by kernel_rfl) (by kernel_rfl) (by kernel_rfl) (fun _ _ _ h => h) (Or.inl ⟨by rfl, ?_⟩) (by assumption) ?_
            rotate_left
            · (intro w hSw; have q0 := (hSw.boxGet k0m).cellv 1 _ rfl; go_simp; first | done | (with_reducible rfl))
            simp only [Act.put, List.getElem_toArray, List.getElem_cons_succ, List.getElem_cons_zero, List.setIfInBounds_toArray, List.set_cons_zero, List.set_cons_succ]
            refine wpAnyX_take (i := 14) (oi := _) (v := ?_) rfl (by kernel_rfl) (by kernel_rfl) (by kernel_rfl) (by kernel_rfl) (by kernel_rfl) (fun _ _ _ h => h) (Or.inl ⟨by rfl, ?_⟩) (by assumption) ?_
            rotate_left
            · (intro w hSw; have q0 := e1; go_simp; first | done | (with_reducible rfl))
            simp only [Act.put, List.getElem_toArray, List.getElem_cons_succ, List.getElem_cons_zero, List.setIfInBounds_toArray, List.set_cons_zero, List.set_cons_succ]
            refine wpAnyX_take (i := 15) (oi := _) (v := ?_) rfl (by kernel_rfl) (by kernel_rfl) (by kernel_rfl) (by kernel_rfl) (by kernel_rfl) (fun _ _ _ h => h) (Or.inl ⟨by rfl, ?_⟩) (by assumption) ?_
            rotate_left
            · (intro w hSw; go_simp; first | done | (with_reducible rfl))
            simp only [Act.put, List.getElem_toArray, List.getElem_cons_succ, List.getElem_cons_zero, List.setIfInBounds_toArray, List.set_cons_zero, List.set_cons_succ]
            refine wpAnyX_take (i := 16) (oi := _) (v := ?_) rfl (by kernel_rfl) (by kernel_rfl) (by kernel_rfl) (by kernel_rfl) (by kernel_rfl) (fun _ _ _ h => h) (Or.inl ⟨by rfl, ?_⟩) (by assumption) ?_
            rotate_left
            · (intro w hSw; go_simp; first | done | (with_reducible rfl))
            simp only [Act.put, List.getElem_toArray, List.getElem_cons_succ, List.getElem_cons_zero, List.setIfInBounds_toArray, List.set_cons_zero, List.set_cons_succ]
            refine wpAnyX_take (i := 17) (oi := _) (v := ?_) rfl (by kernel_rfl) (by kernel_rfl) (by kernel_rfl) (by kernel_rfl) (by kernel_rfl) (fun _ _ _ h => h) (Or.inl ⟨by rfl, ?_⟩) (by assumption) ?_
            rotate_left
            · (intro w hSw; go_simp; first | done | (with_reducible rfl))
            simp only [Act.put, List.getElem_toArray, List.getElem_cons_succ, List.getElem_cons_zero, List.setIfInBounds_toArray, List.set_cons_zero, List.set_cons_succ]
            refine wpAnyX_take (i := 18) (oi := _) (v := ?_) rfl (by kernel_rfl) (by kernel_rfl) (by kernel_rfl) (by kernel_rfl) (by kernel_rfl) (fun _ _ _ h => h) (Or.inl ⟨by rfl, ?_⟩) (by assumption) ?_
            rotate_left
            · (intro w hSw; go_simp; first | done | (with_reducible rfl))
            simp only [Act.put, List.getElem_toArray, List.getElem_cons_succ, List.getElem_cons_zero, List.setIfInBounds_toArray, List.set_cons_zero, List.set_cons_succ]
            refine wpAnyX_take (i := 19) (oi := _) (v := ?_) rfl (by kernel_rfl) (by kernel_rfl) (by kernel_rfl) (by kernel_rfl) (by kernel_rfl) (fun _ _ _ h => h) (Or.inl ⟨by rfl, ?_⟩) (by assumption) ?_
            rotate_left
            · (intro w hSw; go_simp; first | done | (with_reducible rfl))
            simp only [Act.put, List.getElem_toArray, List.getElem_cons_succ, List.getElem_cons_zero, List.setIfInBounds_toArray, List.set_cons_zero, List.set_cons_succ]
            refine wpAnyX_take (i := 20) (oi := _) (v := ?_) rfl (by kernel_rfl) (by kernel_rfl) (by kernel_rfl) (by kernel_rfl) (by kernel_rfl) (fun _ _ _ h => h) (Or.inl ⟨by rfl, ?_⟩) (by assumption) ?_
            rotate_left
            · (intro w hSw; go_simp; first | done | (with_reducible rfl))
            simp only [Act.put, List.getElem_toArray, List.getElem_cons_succ, List.getElem_cons_zero, List.setIfInBounds_toArray, List.set_cons_zero, List.set_cons_succ]
            refine wpAnyX_take (i := 21) (oi := _) (v := _) rfl (by kernel_rfl) (by kernel_rfl) (by kernel_rfl) (by kernel_rfl) (by kernel_rfl) (fun _ _ _ h => h) (yieldsIf_load_mid (by rfl) 24 _ rfl _ _ rfl _ _ (fun w_ hS_ => rng_vec (HIR.out w_ hS_.g)) hdv hdvr infoVc) (by assumption) ?_
            simp only [Act.put, List.getElem_toArray, List.getElem_cons_succ, List.getElem_cons_zero, List.setIfInBounds_toArray, List.set_cons_zero, List.set_cons_succ]
            refine wpAnyX_take (i := 22) (oi := _) (v := ?_) rfl (by kernel_rfl) (by kernel_rfl) (by kernel_rfl) (by kernel_rfl) (by kernel_rfl) (fun _ _ _ h => h) (Or.inl ⟨by rfl, ?_⟩) (by assumption) ?_
            rotate_left
            · (intro w hSw; go_simp; first | done | (with_reducible rfl))
            simp only [Act.put, List.getElem_toArray, List.getElem_cons_succ, List.getElem_cons_zero, List.setIfInBounds_toArray, List.set_cons_zero, List.set_cons_succ]
            refine wpAnyX_take (i := 23) (oi := _) (v := _) rfl (by kernel_rfl) (by kernel_rfl) (by kernel_rfl) (by kernel_rfl) (by kernel_rfl) (fun _ _ _ h => h) (yieldsIf_load_mid (by rfl) 24 _ rfl _ _ rfl _ _ (fun w_ hS_ => (hS_.boxGet k0m).vec2 2 s.x s.y rfl rfl) hdv hdvr infoVc) (by assumption) ?_
            simp only [Act.put, List.getElem_toArray, List.getElem_cons_succ, List.getElem_cons_zero, List.setIfInBounds_toArray, List.set_cons_zero, List.set_cons_succ]
            refine wpAnyX_one (i := 24) (by kernel_rfl) rfl (fun K hK => ?_)
            go_simp
            refine (HWI.out _ HB.out.g).mono ?_
            rintro e wg1 ⟨rfl, hg⟩
            replace HB := Keep.mk (HB.out.grown hg)
            refine hK.out _ _ HB.out (fun hHeld => ?_)
            clear hK K hg
            refine wpAnyX_take (i := 25) (oi := _) (v := ?_) rfl (by kernel_rfl) (by kernel_rfl) (by kernel_rfl) (by kernel_rfl) (by kernel_rfl) (fun _ _ _ h => h) (Or.inl ⟨by rfl, ?_⟩) (by assumption) ?_
            rotate_left
            · (intro w hSw; go_simp; first | done | (with_reducible rfl))
            simp only [Act.put, List.getElem_toArray, List.getElem_cons_succ, List.getElem_cons_zero, List.setIfInBounds_toArray, List.set_cons_zero, List.set_cons_succ]
            refine wpAnyX_done (by kernel_rfl) ?_ _
            clear hHeld
            go_wp2_with fail
            go_meet
            exact ⟨by rw [HMF.out], HB⟩
        · have dwa : decide (ci.wa ≤ 0) = false := decide_eq_false hwa
          have HMF : Keep (mt s ci = false) := ⟨by rw [HMT.out]; simp [hwa]⟩
          clear HMT HWI hwa
          refine region_X (S := fun w' => Sep w w' [boxA sb (shv s) 26]) [] (by kernel_rfl) (HB.out.grown (gr_drew _ _)) (fun hHeld => ?_)
          replace HB := Keep.mk hHeld
          obtain ⟨W0, hW0⟩ : ∃ W_, wr.drew = W_ := ⟨_, rfl⟩
          rw [hW0] at HB hHeld ⊢
          clear hW0
          refine wpAnyX_take (i := 0) (oi := _) (v := ?_) rfl (by kernel_rfl) (by kernel_rfl) (by kernel_rfl) (by kernel_rfl) (by kernel_rfl) (fun _ _ _ h => h) (Or.inl ⟨by rfl, ?_⟩) (by assumption) ?_
          rotate_left
          · (intro w hSw; go_simp; first | done | (with_reducible rfl))
          simp only [Act.put, List.getElem_toArray, List.getElem_cons_zero, List.setIfInBounds_toArray, List.set_cons_zero, List.set_cons_succ]
          refine wpAnyX_take (i := 1) (oi := _) (v := ?_) rfl (by kernel_rfl) (by kernel_rfl) (by kernel_rfl) (by kernel_rfl) (by kernel_rfl) (fun _ _ _ h => h) (Or.inl ⟨by rfl, ?_⟩) (by assumption) ?_
          rotate_left
          · (intro w hSw; go_simp; first | done | (with_reducible rfl))
          simp only [Act.put, List.getElem_toArray, List.getElem_cons_succ, List.getElem_cons_zero, List.setIfInBounds_toArray, List.set_cons_zero, List.set_cons_succ]
          refine wpAnyX_take (i := 2) (oi := _) (v := ?_) rfl (by kernel_rfl) (by kernel_rfl) (by kernel_rfl) (by kernel_rfl) (by kernel_rfl) (fun _ _ _ h => h) (Or.inl ⟨by rfl, ?_⟩) (by assumption) ?_
          rotate_left
          · (intro w hSw; go_simp; first | done | (with_reducible rfl))
          simp only [Act.put, List.getElem_toArray, List.getElem_cons_succ, List.getElem_cons_zero, List.setIfInBounds_toArray, List.set_cons_zero, List.set_cons_succ]
          refine wpAnyX_take (i := 3) (oi := _) (v := ?_) rfl (by kernel_rfl) (by kernel_rfl) (by kernel_rfl) (by kernel_rfl) (by kernel_rfl) (fun _ _ _ h => h) (Or.inl ⟨by rfl, ?_⟩) (by assumption) ?_
          rotate_left
          · (intro w hSw; go_simp; first | done | (with_reducible rfl))
          simp only [Act.put, List.getElem_toArray, List.getElem_cons_succ, List.getElem_cons_zero, List.setIfInBounds_toArray, List.set_cons_zero, List.set_cons_succ]
          refine wpAnyX_take (i := 4) (oi := _) (v := ?_) rfl (by kernel_rfl) (by kernel_rfl) (by kernel_rfl) (by kernel_rfl) (by kernel_rfl) (fun _ _ _ h => h) (Or.inl ⟨by rfl, ?_⟩) (by assumption) ?_
          rotate_left
          · (intro w hSw; have q0 := HIR.out _ hSw.g 11 _ rfl; go_simp; first | done | (with_reducible rfl))
          simp only [Act.put, List.getElem_toArray, List.getElem_cons_succ, List.getElem_cons_zero, List.setIfInBounds_toArray, List.set_cons_zero, List.set_cons_succ]
          refine wpAnyX_take (i := 5) (oi := _) (v := ?_) rfl (by kernel_rfl) (by kernel_rfl) (by kernel_rfl) (by kernel_rfl) (by kernel_rfl) (fun _ _ _ h => h) (Or.inl ⟨by rfl, ?_⟩) (by assumption) ?_
          rotate_left
          · (intro w hSw; go_simp; first | done | (with_reducible rfl))
          simp only [Act.put, List.getElem_toArray, List.getElem_cons_succ, List.getElem_cons_zero, List.setIfInBounds_toArray, List.set_cons_zero, List.set_cons_succ]
          refine wpAnyX_take (i := 6) (oi := _) (v := ?_) rfl (by kernel_rfl) (by kernel_rfl) (by kernel_rfl) (by kernel_rfl) (by kernel_rfl) (fun _ _ _ h => h) (Or.inl ⟨by rfl, ?_⟩) (by assumption) ?_
          rotate_left
          · (intro w hSw; go_simp; first | done | (with_reducible rfl))
          simp only [Act.put, List.getElem_toArray, List.getElem_cons_succ, List.getElem_cons_zero, List.setIfInBounds_toArray, List.set_cons_zero, List.set_cons_succ]
          refine wpAnyX_take (i := 7) (oi := _) (v := undef) rfl (by kernel_rfl) (by kernel_rfl) (by kernel_rfl) (by kernel_rfl) (by kernel_rfl) (fun _ _ _ h => h) (Or.inr ⟨by rfl, rfl⟩) (by assumption) ?_
          simp only [Act.put, List.getElem_toArray, List.getElem_cons_succ, List.getElem_cons_zero, List.setIfInBounds_toArray, List.set_cons_zero, List.set_cons_succ]
          refine wpAnyX_take (i := 8) (oi := _) (v := undef) rfl (by kernel_rfl) (by kernel_rfl) (by kernel_rfl) (by kernel_rfl) (by kernel_rfl) (fun _ _ _ h => h) (Or.inr ⟨by rfl, rfl⟩) (by assumption) ?_
          simp only [Act.put, List.getElem_toArray, List.getElem_cons_succ, List.getElem_cons_zero, List.setIfInBounds_toArray, List.set_cons_zero, List.set_cons_succ]
          refine wpAnyX_take (i := 9) (oi := _) (v := undef) rfl (by kernel_rfl) (by kernel_rfl) (by kernel_rfl) (by kernel_rfl) (by kernel_rfl) (fun _ _ _ h => h) (Or.inr ⟨by rfl, rfl⟩) (by assumption) ?_
          simp only [Act.put, List.getElem_toArray, List.getElem_cons_succ, List.getElem_cons_zero, List.setIfInBounds_toArray, List.set_cons_zero, List.set_cons_succ]
          refine wpAnyX_take (i := 10) (oi := _) (v := undef) rfl (by kernel_rfl) (by kernel_rfl) (by kernel_rfl) (by kernel_rfl) (by kernel_rfl) (fun _ _ _ h => h) (Or.inr ⟨by rfl, rfl⟩) (by assumption) ?_
          simp only [Act.put, List.getElem_toArray, List.getElem_cons_succ, List.getElem_cons_zero, List.setIfInBounds_toArray, List.set_cons_zero, List.set_cons_succ]
          refine wpAnyX_take (i := 11) (oi := _) (v := undef) rfl (by kernel_rfl) (by kernel_rfl) (by kernel_rfl) (by kernel_rfl) (by kernel_rfl) (fun _ _ _ h => h) (Or.inr ⟨by rfl, rfl⟩) (by assumption) ?_
          simp only [Act.put, List.getElem_toArray, List.getElem_cons_succ, List.getElem_cons_zero, List.setIfInBounds_toArray, List.set_cons_zero, List.set_cons_succ]
          refine wpAnyX_take (i := 12) (oi := _) (v := undef) rfl (by kernel_rfl) (by kernel_rfl) (by kernel_rfl) (by kernel_rfl) (by kernel_rfl) (fun _ _ _ h => h) (Or.inr ⟨by rfl, rfl⟩) (by assumption) ?_
          simp only [Act.put, List.getElem_toArray, List.getElem_cons_succ, List.getElem_cons_zero, List.setIfInBounds_toArray, List.set_cons_zero, List.set_cons_succ]
          refine wpAnyX_take (i := 13) (oi := _) (v := undef) rfl (by kernel_rfl) (by kernel_rfl) (by kernel_rfl) (by kernel_rfl) (by kernel_rfl) (fun _ _ _ h => h) (Or.inr ⟨by rfl, rfl⟩) (by assumption) ?_
          simp only [Act.put, List.getElem_toArray, List.getElem_cons_succ, List.getElem_cons_zero, List.setIfInBounds_toArray, List.set_cons_zero, List.set_cons_succ]
          refine wpAnyX_take (i := 14) (oi := _) (v := undef) rfl (by kernel_rfl) (by kernel_rfl) (by kernel_rfl) (by kernel_rfl) (by kernel_rfl) (fun _ _ _ h => h) (Or.inr ⟨by rfl, rfl⟩) (by assumption) ?_
          simp only [Act.put, List.getElem_toArray, List.getElem_cons_succ, List.getElem_cons_zero, List.setIfInBounds_toArray, List.set_cons_zero, List.set_cons_succ]
          refine wpAnyX_take (i := 15) (oi := _) (v := ?_) rfl (by kernel_rfl) (by kernel_rfl) (by kernel_rfl) (by kernel_rfl) (by kernel_rfl) (fun _ _ _ h => h) (Or.inl ⟨by rfl, ?_⟩) (by assumption) ?_
          rotate_left
          · (intro w hSw; go_simp; first | done | (with_reducible rfl))
          simp only [Act.put, List.getElem_toArray, List.getElem_cons_succ, List.getElem_cons_zero, List.setIfInBounds_toArray, List.set_cons_zero, List.set_cons_succ]
          refine wpAnyX_take (i := 16) (oi := _) (v := ?_) rfl (by kernel_rfl) (by kernel_rfl) (by kernel_rfl) (by kernel_rfl) (by kernel_rfl) (fun _ _ _ h => h) (Or.inl ⟨by rfl, ?_⟩) (by assumption) ?_
          rotate_left
          · (intro w hSw; go_simp; first | done | (with_reducible rfl))
          simp only [Act.put, List.getElem_toArray, List.getElem_cons_succ, List.getElem_cons_zero, List.setIfInBounds_toArray, List.set_cons_zero, List.set_cons_succ]
          refine wpAnyX_take (i := 17) (oi := _) (v := undef) rfl (by kernel_rfl) (by kernel_rfl) (by kernel_rfl) (by kernel_rfl) (by kernel_rfl) (fun _ _ _ h => h) (Or.inr ⟨by rfl, rfl⟩) (by assumption) ?_
          simp only [Act.put, List.getElem_toArray, List.getElem_cons_succ, List.getElem_cons_zero, List.setIfInBounds_toArray, List.set_cons_zero, List.set_cons_succ]
          refine wpAnyX_take (i := 18) (oi := _) (v := undef) rfl (by kernel_rfl) (by kernel_rfl) (by kernel_rfl) (by kernel_rfl) (by kernel_rfl) (fun _ _ _ h => h) (Or.inr ⟨by rfl, rfl⟩) (by assumption) ?_
          simp only [Act.put, List.getElem_toArray, List.getElem_cons_succ, List.getElem_cons_zero, List.setIfInBounds_toArray, List.set_cons_zero, List.set_cons_succ]
          refine wpAnyX_take (i := 19) (oi := _) (v := undef) rfl (by kernel_rfl) (by kernel_rfl) (by kernel_rfl) (by kernel_rfl) (by kernel_rfl) (fun _ _ _ h => h) (Or.inr ⟨by rfl, rfl⟩) (by assumption) ?_
          simp only [Act.put, List.getElem_toArray, List.getElem_cons_succ, List.getElem_cons_zero, List.setIfInBounds_toArray, List.set_cons_zero, List.set_cons_succ]
          refine wpAnyX_take (i := 20) (oi := _) (v := undef) rfl (by kernel_rfl) (by kernel_rfl) (by kernel_rfl) (by kernel_rfl) (by kernel_rfl) (fun _ _ _ h => h) (Or.inr ⟨by rfl, rfl⟩) (by assumption) ?_
          simp only [Act.put, List.getElem_toArray, List.getElem_cons_succ, List.getElem_cons_zero, List.setIfInBounds_toArray, List.set_cons_zero, List.set_cons_succ]
          refine wpAnyX_take (i := 21) (oi := _) (v := undef) rfl (by kernel_rfl) (by kernel_rfl) (by kernel_rfl) (by kernel_rfl) (by kernel_rfl) (fun _ _ _ h => h) (Or.inr ⟨by rfl, rfl⟩) (by assumption) ?_
          simp only [Act.put, List.getElem_toArray, List.getElem_cons_succ, List.getElem_cons_zero, List.setIfInBounds_toArray, List.set_cons_zero, List.set_cons_succ]
          refine wpAnyX_take (i := 22) (oi := _) (v := undef) rfl (by kernel_rfl) (by kernel_rfl) (by kernel_rfl) (by kernel_rfl) (by kernel_rfl) (fun _ _ _ h => h) (Or.inr ⟨by rfl, rfl⟩) (by assumption) ?_
          simp only [Act.put, List.getElem_toArray, List.getElem_cons_succ, List.getElem_cons_zero, List.setIfInBounds_toArray, List.set_cons_zero, List.set_cons_succ]
          refine wpAnyX_take (i := 23) (oi := _) (v := undef) rfl (by kernel_rfl) (by kernel_rfl) (by kernel_rfl) (by kernel_rfl) (by kernel_rfl) (fun _ _ _ h => h) (Or.inr ⟨by rfl, rfl⟩) (by assumption) ?_
          simp only [Act.put, List.getElem_toArray, List.getElem_cons_succ, List.getElem_cons_zero, List.setIfInBounds_toArray, List.set_cons_zero, List.set_cons_succ]
          refine wpAnyX_take (i := 24) (oi := _) (v := undef) rfl (by kernel_rfl) (by kernel_rfl) (by kernel_rfl) (by kernel_rfl) (by kernel_rfl) (fun _ _ _ h => h) (Or.inr ⟨by rfl, rfl⟩) (by assumption) ?_
          simp only [Act.put, List.getElem_toArray, List.getElem_cons_succ, List.getElem_cons_zero, List.setIfInBounds_toArray, List.set_cons_zero, List.set_cons_succ]
          refine wpAnyX_take (i := 25) (oi := _) (v := ?_) rfl (by kernel_rfl) (by kernel_rfl) (by kernel_rfl) (by kernel_rfl) (by kernel_rfl) (fun _ _ _ h => h) (Or.inl ⟨by rfl, ?_⟩) (by assumption) ?_
          rotate_left
          · (intro w hSw; go_simp; first | done | (with_reducible rfl))
          simp only [Act.put, List.getElem_toArray, List.getElem_cons_succ, List.getElem_cons_zero, List.setIfInBounds_toArray, List.set_cons_zero, List.set_cons_succ]
          refine wpAnyX_done (by kernel_rfl) ?_ _
          clear hHeld
          go_wp2_with fail
          go_meet
          exact ⟨by rw [HMF.out], HB⟩
      case rest =>
      replace HB := hcut.2
      replace hcut := hcut.1
      rename World => w8
      generalize hmt : mt s ci = m at hcut
      subst hcut
      have HMT2 := Keep.mk hmt
      clear hmt HMT HWI
      cases m
      case true =>
        have HE : Keep (r = (i : Int)) := ⟨by rw [← HFR.out]; exact fst_here HCI.out HMT2.out HM1.out⟩
        go_wp2_with fail
        go_ret
        exact ⟨by rw [HE.out]; rfl, HB.out.g⟩
      case false =>
        have HM2 : Keep (∀ (j : Nat) y, j < i + 1 → cs[j]? = some y → mt s y = false) := ⟨fun j y hj hy => by
          by_cases q : j < i
          · exact HM1.out j y q hy
          · obtain rfl : j = i := by omega
            rw [HCI.out] at hy
            cases hy
            exact HMT2.out⟩
        go_wp2_with fail
        go_roundw
        case rel => exact ⟨i + 1, by omega, rfl, HM2, HB⟩
        case measure => simp [intOf]; omega
    · have hii : ¬ (i : Int) < (n : Int) := by omega
      have hdi : decide ((i : Int) < (n : Int)) = false := decide_eq_false hii
      have HE : Keep (r = -1) := ⟨by rw [← HFR.out]; exact fst_none (fun j y hj hy => HM1.out j y (by rw [HNN.out] at hj; omega) hy)⟩
      go_wp2_with fail
      go_ret
      exact ⟨by rw [HE.out]; rfl, HB.out.g⟩
end Go.Proofs.YtmacmoikjgmaoaaDoor.Bo

namespace Go.Proofs.YtmacmoikjgmaoaaDoor.Bo
open Go Go.RowKit

set_option maxRecDepth 100000 in
set_option maxHeartbeats 64000000 in
theorem rmove_c (w : World) (kk : Nat) (L : Bo) (cv : Value) (cs : List Cr) (s : Sh) (hB : RB w (pt kk) L) (hC : Crs w cv cs) (ok : ShOk s) (hk : Kc w) :
    Calls Tryd.prog 23 #[pt kk, cv, .agg (shv s).toArray] w fun e w' => e = .returned (.tuple #[.agg (shv (mov L cs s).1).toArray, iv (mov L cs s).2.1, .bool (mov L cs s).2.2]) ∧ w.grownBy w' none := by
  obtain ⟨ds, hds, hdsr⟩ := underS
  have S3 := ((Sep.nil w).newBox (shv s).toArray 26).newBox zS7.toArray 26
  obtain ⟨W1, hW1⟩ : ∃ W1, w.alloc (.cells (shv s).toArray 26) = W1 := ⟨_, rfl⟩
  obtain ⟨xb, hxb⟩ : ∃ xb, w.heap.size = xb := ⟨_, rfl⟩
  rw [hW1, hxb] at S3
  obtain ⟨W2, hW2⟩ : ∃ W2, W1.alloc (.cells zS7.toArray 26) = W2 := ⟨_, rfl⟩
  obtain ⟨rb, hrb⟩ : ∃ rb, W1.heap.size = rb := ⟨_, rfl⟩
  rw [hW2, hrb] at S3
  rw [zS7_lit] at hW2
  have HS : Keep (Sep w W2 [boxA xb (shv s) 26, boxA rb zS7 26]) := ⟨S3.swap⟩
  have hss : (shv s).toArray.size = 7 := rfl
  have HBD := Keep.mk hB
  have HC := Keep.mk hC
  have HK := Keep.mk hk
  have HOK := Keep.mk ok
  clear S3 hB hC ok hk
  obtain ⟨a0, cap, hcv, _⟩ := HC.out.o
  obtain ⟨rS, hrS⟩ : ∃ r, (mov L cs s).1 = r := ⟨_, rfl⟩
  obtain ⟨rH, hrH⟩ : ∃ r, (mov L cs s).2.1 = r := ⟨_, rfl⟩
  obtain ⟨rO, hrO⟩ : ∃ r, (mov L cs s).2.2 = r := ⟨_, rfl⟩
  rw [hrS, hrH, hrO]
  have HMV : Keep (mov L cs s = (rS, rH, rO)) := ⟨by rw [← hrS, ← hrH, ← hrO]⟩
  clear hrS hrH hrO hcv
  go_enter Tryd.func23, Tryd.ntmps23
  go_wp2_with fail
  go_loopw [9] (fun u wr => ∃ (k : Nat) (t : Sh), k ≤ 4 ∧ u = iv k ∧ Keep (ShOk t ∧ fly L cs 4 s = fly L cs (4 - k) t) ∧ Keep (Sep w wr [boxA xb (shv t) 26, boxA rb zS7 26])) (fun u _ => (4 - intOf u).toNat)
  case atStart => exact ⟨0, s, by omega, rfl, ⟨HOK.out, rfl⟩, HS⟩
  case round =>
    obtain ⟨k, t, hk4, rfl, HT, HB⟩ := hrel
    clear HS HOK hW1 hW2 hxb hrb
    by_cases hlt : k < 4
    · have hki : (k : Int) < 4 := by omega
      have hdk : decide ((k : Int) < 4) = true := decide_eq_true hki
      have hk1 : IntKind.i64.wrap ((k : Int) + 1) = ((k + 1 : Nat) : Int) := by rw [wi _ (by omega) (by omega)]; omega
      have HKK := Keep.mk (And.intro hlt hk4)
      clear hlt hk4 hki
      have HQX := Keep.mk (fun W => rquarter_c W t.sx HT.out.1.sx)
      have HQY := Keep.mk (fun W => rquarter_c W t.sy HT.out.1.sy)
      have HSX := Keep.mk (fun W => rsum_g t.x (t.sx / 4) HT.out.1.x (div4_in HT.out.1.sx) W)
      have HSY := Keep.mk (fun W => rsum_g t.y (t.sy / 4) HT.out.1.y (div4_in HT.out.1.sy) W)
      have HN : Keep (nxt t = { t with x := addZ t.x (t.sx / 4), y := addZ t.y (t.sy / 4) }) := ⟨rfl⟩
      obtain ⟨px, hpx⟩ : ∃ p, addZ t.x (t.sx / 4) = p := ⟨_, rfl⟩
      obtain ⟨py, hpy⟩ : ∃ p, addZ t.y (t.sy / 4) = p := ⟨_, rfl⟩
      rw [hpx] at HSX HN
      rw [hpy] at HSY HN
      clear hpx hpy
      generalize t.sx / 4 = qx at *
      generalize t.sy / 4 = qy at *
      go_wp2_with fail
      refine region_X (S := fun w' => Sep w w' [boxA xb (shv t) 26, boxA rb zS7 26]) [10] (by kernel_rfl) (HB.out.grown (gr_drew _ _)) (fun hHeld => ?_)
      replace HB := Keep.mk hHeld
      refine wpAnyX_take (i := 0) (oi := _) (v := ?_) rfl (by kernel_rfl) (by kernel_rfl) (by kernel_rfl) (by kernel_rfl) (by kernel_rfl) (fun _ _ _ h => h) (Or.inl ⟨by rfl, ?_⟩) (by assumption) ?_
      rotate_left
      · (intro w hSw; go_simp; first | done | (with_reducible rfl))
      simp only [Act.put, List.getElem_toArray, List.getElem_cons_zero, List.setIfInBounds_toArray, List.set_cons_zero, List.set_cons_succ]
      refine wpAnyX_take (i := 1) (oi := _) (v := ?_) rfl (by kernel_rfl) (by kernel_rfl) (by kernel_rfl) (by kernel_rfl) (by kernel_rfl) (fun _ _ _ h => h) (Or.inl ⟨by rfl, ?_⟩) (by assumption) ?_
      rotate_left
      · (intro w hSw; go_simp; first | done | (with_reducible rfl))
      simp only [Act.put, List.getElem_toArray, List.getElem_cons_succ, List.getElem_cons_zero, List.setIfInBounds_toArray, List.set_cons_zero, List.set_cons_succ]
      refine wpAnyX_take (i := 2) (oi := _) (v := ?_) rfl (by kernel_rfl) (by kernel_rfl) (by kernel_rfl) (by kernel_rfl) (by kernel_rfl) (fun _ _ _ h => h) (Or.inl ⟨by rfl, ?_⟩) (by assumption) ?_
      rotate_left
      · (intro w hSw; have q2 := (hSw.boxGet k0m).cellv 2 _ rfl; go_simp; first | done | (with_reducible rfl))
      simp only [Act.put, List.getElem_toArray, List.getElem_cons_succ, List.getElem_cons_zero, List.setIfInBounds_toArray, List.set_cons_zero, List.set_cons_succ]
      refine wpAnyX_take (i := 3) (oi := _) (v := ?_) rfl (by kernel_rfl) (by kernel_rfl) (by kernel_rfl) (by kernel_rfl) (by kernel_rfl) (fun _ _ _ h => h) (Or.inl ⟨by rfl, ?_⟩) (by assumption) ?_
      rotate_left
      · (intro w hSw; go_simp; first | done | (with_reducible rfl))
      simp only [Act.put, List.getElem_toArray, List.getElem_cons_succ, List.getElem_cons_zero, List.setIfInBounds_toArray, List.set_cons_zero, List.set_cons_succ]
      refine wpAnyX_take (i := 4) (oi := _) (v := ?_) rfl (by kernel_rfl) (by kernel_rfl) (by kernel_rfl) (by kernel_rfl) (by kernel_rfl) (fun _ _ _ h => h) (Or.inl ⟨by rfl, ?_⟩) (by assumption) ?_
      rotate_left
      · (intro w hSw; go_simp; first | done | (with_reducible rfl))
      simp only [Act.put, List.getElem_toArray, List.getElem_cons_succ, List.getElem_cons_zero, List.setIfInBounds_toArray, List.set_cons_zero, List.set_cons_succ]
      refine wpAnyX_take (i := 5) (oi := _) (v := ?_) rfl (by kernel_rfl) (by kernel_rfl) (by kernel_rfl) (by kernel_rfl) (by kernel_rfl) (fun _ _ _ h => h) (Or.inl ⟨by rfl, ?_⟩) (by assumption) ?_
      rotate_left
      · (intro w hSw; have q4 := (hSw.boxGet k0m).cellv 4 _ rfl; go_simp; first | done | (with_reducible rfl))
      simp only [Act.put, List.getElem_toArray, List.getElem_cons_succ, List.getElem_cons_zero, List.setIfInBounds_toArray, List.set_cons_zero, List.set_cons_succ]
      refine wpAnyX_one (i := 6) (by kernel_rfl) rfl (fun K hK => ?_)
      go_simp
      refine (HQX.out _).mono ?_
      rintro e wg ⟨rfl, hg⟩
      replace HB := Keep.mk (HB.out.grown hg)
      refine hK.out _ _ HB.out (fun hHeld => ?_)
      clear hK K hg
      refine wpAnyX_one (i := 7) (by kernel_rfl) rfl (fun K hK => ?_)
      go_simp
      refine (HSX.out _).mono ?_
      rintro e wg ⟨rfl, hg⟩
      replace HB := Keep.mk (HB.out.grown hg)
      refine hK.out _ _ HB.out (fun hHeld => ?_)
      clear hK K hg
      refine wpAnyX_one (i := 8) (by kernel_rfl) rfl (fun K hK => ?_)
      go_simp
      refine hK.out _ _ HB.out (fun hHeld => ?_)
      clear hK K
      refine wpAnyX_take (i := 9) (oi := _) (v := ?_) rfl (by kernel_rfl) (by kernel_rfl) (by kernel_rfl) (by kernel_rfl) (by kernel_rfl) (fun _ _ _ h => h) (Or.inl ⟨by rfl, ?_⟩) (by assumption) ?_
      rotate_left
      · (intro w hSw; go_simp; first | done | (with_reducible rfl))
      simp only [Act.put, List.getElem_toArray, List.getElem_cons_succ, List.getElem_cons_zero, List.setIfInBounds_toArray, List.set_cons_zero, List.set_cons_succ]
      refine wpAnyX_late (i := 10) (by kernel_rfl) rfl (by kernel_rfl) (fun K hK => ?_)
      have f0 := (HB.out.boxGet k0m).frozen 2
      have y0 := (HB.out.boxGet k0m).cellv 2 _ rfl
      have HB2 : Keep (Sep w (wg.setCell ⟨xb, 2, none⟩ (Value.int IntKind.i64 px)) [boxA xb (shv { t with x := px }) 26, boxA rb zS7 26]) := ⟨HB.out.boxPut 2 (iv px)⟩
      go_simp
      refine hK.out _ _ ?_
      clear hK K f0 y0 HB hHeld
      generalize wg.setCell ⟨xb, 2, none⟩ (Value.int IntKind.i64 px) = w2 at HB2 ⊢
      have HB := HB2
      clear HB2
      refine wpAnyX_done (by kernel_rfl) ?_ _
      clear HQX HSX
      obtain ⟨tX, htX⟩ : ∃ t1 : Sh, ({ t with x := px } : Sh) = t1 := ⟨_, rfl⟩
      have HTX : Keep (tX.sy = t.sy ∧ tX.y = t.y ∧ { tX with y := py } = nxt t) := ⟨by rw [← htX, HN.out]; exact ⟨rfl, rfl, rfl⟩⟩
      rw [htX] at HB
      clear htX
      rw [← HTX.out.1] at HQY
      rw [← HTX.out.2.1] at HSY
      go_wp2_with fail
      refine region_X (S := fun w' => Sep w w' [boxA xb (shv tX) 26, boxA rb zS7 26]) [10] (by kernel_rfl) (HB.out.grown (gr_drew _ _)) (fun hHeld => ?_)
      replace HB := Keep.mk hHeld
      refine wpAnyX_take (i := 0) (oi := _) (v := ?_) rfl (by kernel_rfl) (by kernel_rfl) (by kernel_rfl) (by kernel_rfl) (by kernel_rfl) (fun _ _ _ h => h) (Or.inl ⟨by rfl, ?_⟩) (by assumption) ?_
      rotate_left
      · (intro w hSw; go_simp; first | done | (with_reducible rfl))
      simp only [Act.put, List.getElem_toArray, List.getElem_cons_zero, List.setIfInBounds_toArray, List.set_cons_zero, List.set_cons_succ]
      refine wpAnyX_take (i := 1) (oi := _) (v := ?_) rfl (by kernel_rfl) (by kernel_rfl) (by kernel_rfl) (by kernel_rfl) (by kernel_rfl) (fun _ _ _ h => h) (Or.inl ⟨by rfl, ?_⟩) (by assumption) ?_
      rotate_left
      · (intro w hSw; go_simp; first | done | (with_reducible rfl))
      simp only [Act.put, List.getElem_toArray, List.getElem_cons_succ, List.getElem_cons_zero, List.setIfInBounds_toArray, List.set_cons_zero, List.set_cons_succ]
      refine wpAnyX_take (i := 2) (oi := _) (v := ?_) rfl (by kernel_rfl) (by kernel_rfl) (by kernel_rfl) (by kernel_rfl) (by kernel_rfl) (fun _ _ _ h => h) (Or.inl ⟨by rfl, ?_⟩) (by assumption) ?_
      rotate_left
      · (intro w hSw; have q3 := (hSw.boxGet k0m).cellv 3 _ rfl; go_simp; first | done | (with_reducible rfl))
      simp only [Act.put, List.getElem_toArray, List.getElem_cons_succ, List.getElem_cons_zero, List.setIfInBounds_toArray, List.set_cons_zero, List.set_cons_succ]
      refine wpAnyX_take (i := 3) (oi := _) (v := ?_) rfl (by kernel_rfl) (by kernel_rfl) (by kernel_rfl) (by kernel_rfl) (by kernel_rfl) (fun _ _ _ h => h) (Or.inl ⟨by rfl, ?_⟩) (by assumption) ?_
      rotate_left
      · (intro w hSw; go_simp; first | done | (with_reducible rfl))
      simp only [Act.put, List.getElem_toArray, List.getElem_cons_succ, List.getElem_cons_zero, List.setIfInBounds_toArray, List.set_cons_zero, List.set_cons_succ]
      refine wpAnyX_take (i := 4) (oi := _) (v := ?_) rfl (by kernel_rfl) (by kernel_rfl) (by kernel_rfl) (by kernel_rfl) (by kernel_rfl) (fun _ _ _ h => h) (Or.inl ⟨by rfl, ?_⟩) (by assumption) ?_
      rotate_left
      · (intro w hSw; go_simp; first | done | (with_reducible rfl))
      simp only [Act.put, List.getElem_toArray, List.getElem_cons_succ, List.getElem_cons_zero, List.setIfInBounds_toArray, List.set_cons_zero, List.set_cons_succ]
      refine wpAnyX_take (i := 5) (oi := _) (v := ?_) rfl (by kernel_rfl) (by kernel_rfl) (by kernel_rfl) (by kernel_rfl) (by kernel_rfl) (fun _ _ _ h => h) (Or.inl ⟨by rfl, ?_⟩) (by assumption) ?_
      rotate_left
      · (intro w hSw; have q5 := (hSw.boxGet k0m).cellv 5 _ rfl; go_simp; first | done | (with_reducible rfl))
      simp only [Act.put, List.getElem_toArray, List.getElem_cons_succ, List.getElem_cons_zero, List.setIfInBounds_toArray, List.set_cons_zero, List.set_cons_succ]
      refine wpAnyX_one (i := 6) (by kernel_rfl) rfl (fun K hK => ?_)
      go_simp
      refine (HQY.out _).mono ?_
      rintro e wg ⟨rfl, hg⟩
      replace HB := Keep.mk (HB.out.grown hg)
      refine hK.out _ _ HB.out (fun hHeld => ?_)
      clear hK K hg
      refine wpAnyX_one (i := 7) (by kernel_rfl) rfl (fun K hK => ?_)
      go_simp
      refine (HSY.out _).mono ?_
      rintro e wg ⟨rfl, hg⟩
      replace HB := Keep.mk (HB.out.grown hg)
      refine hK.out _ _ HB.out (fun hHeld => ?_)
      clear hK K hg
      refine wpAnyX_one (i := 8) (by kernel_rfl) rfl (fun K hK => ?_)
      go_simp
      refine hK.out _ _ HB.out (fun hHeld => ?_)
      clear hK K
      refine wpAnyX_take (i := 9) (oi := _) (v := ?_) rfl (by kernel_rfl) (by kernel_rfl) (by kernel_rfl) (by kernel_rfl) (by kernel_rfl) (fun _ _ _ h => h) (Or.inl ⟨by rfl, ?_⟩) (by assumption) ?_
      rotate_left
      · (intro w hSw; go_simp; first | done | (with_reducible rfl))
      simp only [Act.put, List.getElem_toArray, List.getElem_cons_succ, List.getElem_cons_zero, List.setIfInBounds_toArray, List.set_cons_zero, List.set_cons_succ]
      refine wpAnyX_late (i := 10) (by kernel_rfl) rfl (by kernel_rfl) (fun K hK => ?_)
      have f0 := (HB.out.boxGet k0m).frozen 3
      have y0 := (HB.out.boxGet k0m).cellv 3 _ rfl
      have HB2 : Keep (Sep w (wg.setCell ⟨xb, 3, none⟩ (Value.int IntKind.i64 py)) [boxA xb (shv { tX with y := py }) 26, boxA rb zS7 26]) := ⟨HB.out.boxPut 3 (iv py)⟩
      go_simp
      refine hK.out _ _ ?_
      clear hK K f0 y0 HB hHeld
      generalize wg.setCell ⟨xb, 3, none⟩ (Value.int IntKind.i64 py) = w3 at HB2 ⊢
      have HB := HB2
      clear HB2
      refine wpAnyX_done (by kernel_rfl) ?_ _
      clear HQY HSY
      rw [HTX.out.2.2] at HB
      have HT1 : Keep (ShOk (nxt t)) := ⟨nxt_ok HT.out.1⟩
      have HSF : Keep (slid L (nxt t) = slid L (nxt t)) := ⟨rfl⟩
      obtain ⟨t1, ht1⟩ : ∃ t1, nxt t = t1 := ⟨_, rfl⟩
      rw [ht1] at HB HT1
      have HN1 := Keep.mk ht1
      clear ht1 HN HTX HSF
      have q2 : w3.cell? ⟨xb, 2, none⟩ = some (iv t1.x) := (HB.out.boxGet k0m).cellv 2 _ rfl
      have q3 : w3.cell? ⟨xb, 3, none⟩ = some (iv t1.y) := (HB.out.boxGet k0m).cellv 3 _ rfl
      have hSo := rsolid_c w3 (pt kk) L (HBD.out.kept HB.out.g) t1.x t1.y HT1.out.x HT1.out.y
      rw [show decide (atL L (t1.x, t1.y) = 35) = slid L t1 from rfl] at hSo
      generalize hsd : slid L t1 = sd at hSo
      have HSD : Keep (slid L (nxt t) = sd) := ⟨by rw [HN1.out]; exact hsd⟩
      clear hsd
      go_wp2_with fail
      refine hSo.mono ?_
      rintro e w4 ⟨rfl, g_⟩
      replace HB := Keep.mk (HB.out.grown g_)
      clear g_ hSo q2 q3
      cases sd
      case true =>
        have HE : Keep ((rS, rH, rO) = (t1, (-1 : Int), false)) := ⟨by
          rw [← HMV.out, mov, HT.out.2, show 4 - k = (3 - k) + 1 by have := HKK.out.1; omega, fly_wall HSD.out, HN1.out]
          rfl⟩
        have RN := Keep.mk (HB.out.boxGet k0m).range
        have HXR := Keep.mk (HB.out.boxGet k1m)
        have HO := Keep.mk (shv_one t1)
        obtain ⟨e1, e2, e3⟩ : rS = t1 ∧ rH = -1 ∧ rO = false := by
          have := HE.out
          injection this with q1 q2
          injection q2 with q2 q3
          exact ⟨q1, q2, q3⟩
        go_wp2_with (first
          | (show wpList _ _ _ ({ dst := _, op := Op.load 26 _, type := _, pos := _, after := _, guard := _ } :: _) _ _
             refine load_g (by rfl) 26 _ rfl _ _ rfl _ _ RN.out hds hdsr (infoS' t1) ?_)
          | (show wpList _ _ _ ({ dst := _, op := Op.store 26 _ _, type := _, pos := _, after := _, guard := _ } :: _) _ _
             refine store_at _ rb 0 zS7 (shv t1) 26 26 rfl rfl rfl rfl HXR.out (Nat.le_refl _) (infoS' t1) HO.out ?_))
        intro w9 hS_ g_
        have S_ := hS_ _ _ HB.out.swap
        rw [over_all zS7 (shv t1) rfl] at S_
        replace HB := Keep.mk S_
        clear hS_ g_ S_ HXR RN
        go_wp2_with fail
        exact ret_ctt rfl rfl (HB.out.boxGet k0m) hds hdsr (infoS' t1) rfl ⟨by rw [e1, e2, e3]; rfl, HB.out.g⟩
      case false =>
      have HME := Keep.mk (fun W (g : w.grownBy W none) => rmet_c W cv cs t1 (HC.out.kept g) HT1.out (HK.out.kept g))
      have HFS : Keep ((fst t1 cs = -1 ∧ cs.findIdx? (mt t1) = none) ∨ ∃ i : Nat, fst t1 cs = (i : Int) ∧ cs.findIdx? (mt t1) = some i) := ⟨by
        unfold fst
        cases cs.findIdx? (mt t1) with
        | none => exact .inl ⟨rfl, rfl⟩
        | some i => exact .inr ⟨i, rfl, rfl⟩⟩
      generalize fst t1 cs = fr at HME HFS
      have RN := Keep.mk (HB.out.boxGet k0m).range
      go_wp2_with (first
        | (show wpList _ _ _ ({ dst := _, op := Op.load 26 _, type := _, pos := _, after := _, guard := _ } :: _) _ _
           refine load_g (by rfl) 26 _ rfl _ _ rfl _ _ RN.out hds hdsr (infoS' t1) ?_))
      refine (HME.out _ HB.out.g).mono ?_
      rintro e w5 ⟨rfl, g_⟩
      replace HB := Keep.mk (HB.out.grown g_)
      clear g_ RN HME
      rcases HFS.out with ⟨e1, e2⟩ | ⟨i, e1, e2⟩
      · subst e1
        have HT2 : Keep (ShOk t1 ∧ fly L cs 4 s = fly L cs (4 - (k + 1)) t1) := ⟨HT1.out, by
          rw [HT.out.2, show 4 - k = (4 - (k + 1)) + 1 by have := HKK.out.1; omega, fly_on HSD.out (by rw [HN1.out]; exact e2), HN1.out]⟩
        clear HFS e2
        go_wp2_with fail
        go_roundw
        case rel => exact ⟨k + 1, t1, by have := HKK.out.1; omega, rfl, HT2, HB⟩
        case measure => have := HKK.out.1; simp [intOf]; omega
      · subst e1
        have HE : Keep ((rS, rH, rO) = (t1, (i : Int), false)) := ⟨by
          rw [← HMV.out, mov, HT.out.2, show 4 - k = (3 - k) + 1 by have := HKK.out.1; omega, fly_hit HSD.out (by rw [HN1.out]; exact e2), HN1.out]
          rfl⟩
        have d0 : decide (0 ≤ (i : Int)) = true := decide_eq_true (by omega)
        have d0' : (0 : Int) ≤ (i : Int) := by omega
        clear HFS e2
        have RN := Keep.mk (HB.out.boxGet k0m).range
        have HXR := Keep.mk (HB.out.boxGet k1m)
        have HO := Keep.mk (shv_one t1)
        obtain ⟨e1, e2, e3⟩ : rS = t1 ∧ rH = (i : Int) ∧ rO = false := by
          have := HE.out
          injection this with q1 q2
          injection q2 with q2 q3
          exact ⟨q1, q2, q3⟩
        go_wp2_with (first
          | (show wpList _ _ _ ({ dst := _, op := Op.load 26 _, type := _, pos := _, after := _, guard := _ } :: _) _ _
             refine load_g (by rfl) 26 _ rfl _ _ rfl _ _ RN.out hds hdsr (infoS' t1) ?_)
          | (show wpList _ _ _ ({ dst := _, op := Op.store 26 _ _, type := _, pos := _, after := _, guard := _ } :: _) _ _
             refine store_at _ rb 0 zS7 (shv t1) 26 26 rfl rfl rfl rfl HXR.out (Nat.le_refl _) (infoS' t1) HO.out ?_))
        intro w9 hS_ g_
        have S_ := hS_ _ _ HB.out.swap
        rw [over_all zS7 (shv t1) rfl] at S_
        replace HB := Keep.mk S_
        clear hS_ g_ S_ HXR RN
        go_wp2_with fail
        exact ret_ctt rfl rfl (HB.out.boxGet k0m) hds hdsr (infoS' t1) rfl ⟨by rw [e1, e2, e3]; rfl, HB.out.g⟩
    · have hki : ¬ (k : Int) < 4 := by omega
      have hdk : decide ((k : Int) < 4) = false := decide_eq_false hki
      have HE : Keep ((rS, rH, rO) = fin t none) := ⟨by
        rw [← HMV.out, mov, HT.out.2, show 4 - k = 0 by omega]
        rfl⟩
      have y6 : wr.cell? ⟨xb, 6, none⟩ = some (iv t.lf) := (HB.out.boxGet k0m).cellv 6 _ rfl
      have f6 : wr.frozen? ⟨xb, 6, none⟩ = false := (HB.out.boxGet k0m).frozen 6
      have S6 := HB.out.boxPut 6 (iv (w64 (t.lf - 1)))
      have kL : IntKind.i64.wrap (t.lf - 1) = w64 (t.lf - 1) := rfl
      generalize w64 (t.lf - 1) = lf2 at S6 kL
      have HE2 : Keep ((rS, rH, rO) = ({ t with lf := lf2 }, (-1 : Int), decide (0 < lf2))) := ⟨by rw [HE.out, fin, ← kL]; rfl⟩
      obtain ⟨w7, hw7⟩ : ∃ w4, wr.setCell ⟨xb, 6, none⟩ (iv lf2) = w4 := ⟨_, rfl⟩
      rw [hw7] at S6
      change Sep w w7 [boxA xb (shv { t with lf := lf2 }) 26, boxA rb zS7 26] at S6
      obtain ⟨t2, ht2⟩ : ∃ t1 : Sh, ({ t with lf := lf2 } : Sh) = t1 := ⟨_, rfl⟩
      have HLF : Keep (t2.lf = lf2) := ⟨by rw [← ht2]⟩
      rw [ht2] at S6 HE2
      clear HB HE ht2
      have HB : Keep (Sep w w7 [boxA rb zS7 26, boxA xb (shv t2) 26]) := ⟨S6.swap⟩
      clear S6
      go_wp2_with fail
      replace HB := Keep.mk (HB.out.grown (gr_drew _ none))
      refine region_X (S := fun w' => Sep w w' [boxA xb (shv t2) 26]) [] (by kernel_rfl) HB.out.tail (fun hHeld => ?_)
      obtain ⟨W0, hW0⟩ : ∃ W_, w7.drew = W_ := ⟨_, rfl⟩
      rw [hW0] at HB hHeld ⊢
      clear hW0
      refine wpAnyX_take (i := 0) (oi := _) (v := _) rfl (by kernel_rfl) (by kernel_rfl) (by kernel_rfl) (by kernel_rfl) (by kernel_rfl) (fun _ _ _ h => h) (yieldsIf_load_mid (by rfl) 26 _ rfl _ _ rfl _ _ (fun w_ hS_ => (hS_.boxGet k0m).range) hds hdsr (infoS' t2)) (by assumption) ?_
      simp only [Act.put, List.getElem_toArray, List.getElem_cons_zero, List.setIfInBounds_toArray, List.set_cons_zero, List.set_cons_succ]
      refine wpAnyX_take (i := 1) (oi := _) (v := ?_) rfl (by kernel_rfl) (by kernel_rfl) (by kernel_rfl) (by kernel_rfl) (by kernel_rfl) (fun _ _ _ h => h) (Or.inl ⟨by rfl, ?_⟩) (by assumption) ?_
      rotate_left
      · (intro w hSw; go_simp; first | done | (with_reducible rfl))
      simp only [Act.put, List.getElem_toArray, List.getElem_cons_succ, List.getElem_cons_zero, List.setIfInBounds_toArray, List.set_cons_zero, List.set_cons_succ]
      refine wpAnyX_take (i := 2) (oi := _) (v := ?_) rfl (by kernel_rfl) (by kernel_rfl) (by kernel_rfl) (by kernel_rfl) (by kernel_rfl) (fun _ _ _ h => h) (Or.inl ⟨by rfl, ?_⟩) (by assumption) ?_
      rotate_left
      · (intro w hSw; have q6 := (hSw.boxGet k0m).cellv 6 _ rfl; go_simp; first | done | (with_reducible rfl))
      simp only [Act.put, List.getElem_toArray, List.getElem_cons_succ, List.getElem_cons_zero, List.setIfInBounds_toArray, List.set_cons_zero, List.set_cons_succ]
      refine wpAnyX_take (i := 3) (oi := _) (v := ?_) rfl (by kernel_rfl) (by kernel_rfl) (by kernel_rfl) (by kernel_rfl) (by kernel_rfl) (fun _ _ _ h => h) (Or.inl ⟨by rfl, ?_⟩) (by assumption) ?_
      rotate_left
      · (intro w hSw; go_simp; first | done | (with_reducible rfl))
      simp only [Act.put, List.getElem_toArray, List.getElem_cons_succ, List.getElem_cons_zero, List.setIfInBounds_toArray, List.set_cons_zero, List.set_cons_succ]
      refine wpAnyX_one (i := 4) (by kernel_rfl) rfl (fun K hK => ?_)
      rw [if_pos (show Region.wanted _ _ = true from rfl)]
      refine wp_store_mid 26 _ _ rfl rb 0 (shv t2).toArray rfl rfl ((HB.out.boxGet k0m).there 0 7 (Nat.le_refl _)) infoS (all_oneCell_toArray (shv_one t2)) ?_
      have S_ := HB.out.boxTurn ((HB.out.boxGet k0m).setCells (shv t2) 0) (gr_sets _ _ _ _)
      rw [over_all zS7 (shv t2) rfl] at S_
      refine hK.out _ _ S_.tail (fun hHeld => ?_)
      replace HB := Keep.mk S_
      clear hK K S_
      change Keep (Sep w (World.setCells W0 rb 0 (shv t2).toArray.toList) _) at HB
      generalize World.setCells W0 rb 0 (shv t2).toArray.toList = ws1 at HB hHeld ⊢
      simp only [Act.put, List.getElem_toArray, List.getElem_cons_succ, List.getElem_cons_zero]
      refine wpAnyX_take (i := 5) (oi := _) (v := ?_) rfl (by kernel_rfl) (by kernel_rfl) (by kernel_rfl) (by kernel_rfl) (by kernel_rfl) (fun _ _ _ h => h) (Or.inl ⟨by rfl, ?_⟩) (by assumption) ?_
      rotate_left
      · (intro w hSw; go_simp; first | done | (with_reducible rfl))
      simp only [Act.put, List.getElem_toArray, List.getElem_cons_succ, List.getElem_cons_zero, List.setIfInBounds_toArray, List.set_cons_zero, List.set_cons_succ]
      refine wpAnyX_take (i := 6) (oi := _) (v := ?_) rfl (by kernel_rfl) (by kernel_rfl) (by kernel_rfl) (by kernel_rfl) (by kernel_rfl) (fun _ _ _ h => h) (Or.inl ⟨by rfl, ?_⟩) (by assumption) ?_
      rotate_left
      · (intro w hSw; go_simp; first | done | (with_reducible rfl))
      simp only [Act.put, List.getElem_toArray, List.getElem_cons_succ, List.getElem_cons_zero, List.setIfInBounds_toArray, List.set_cons_zero, List.set_cons_succ]
      refine wpAnyX_done (by kernel_rfl) ?_ _
      clear hHeld
      go_wp2_with fail
      obtain ⟨e1, e2, e3⟩ : rS = t2 ∧ rH = -1 ∧ rO = decide (0 < lf2) := by
        have := HE2.out
        injection this with q1 q2
        injection q2 with q2 q3
        exact ⟨q1, q2, q3⟩
      rw [← HLF.out] at e3
      subst e1 e2 e3
      exact ret_ctt rfl rfl (HB.out.boxGet k0m) hds hdsr (infoS' rS) rfl ⟨rfl, HB.out.g⟩
end Go.Proofs.YtmacmoikjgmaoaaDoor.Bo
