/- ShaSums: kept -/
import Derived.Test.YtabiomfgmdnikaaDoorF2
namespace Go.Proofs.YtabiomfgmdnikaaDoor
open Go Go.RowKit

theorem cvt_any (w : World) (a : Option Addr) (n c : Nat) (q : List UInt8) (h : BytesOf w a n c q) : (convert 24 9 (.slice a n c)).run Tryd.prog w = .ok (.string ⟨q.toArray⟩) w := by
  cases a with
  | some ad => exact cvt_back w (some ad) n c q h (by simp)
  | none =>
    have hn : n = 0 := by
      rcases Nat.eq_zero_or_pos n with h0 | h0
      · exact h0
      · obtain ⟨B, o, e, _⟩ := h.at_ h0
        cases e
    have hq : q = [] := List.length_eq_zero_iff.1 (by rw [h.len]; exact hn)
    subst hn hq
    rw [run_convert_bytes_string w 24 9 5 none 0 c under28 under5 under9]
    rfl

set_option maxRecDepth 100000 in
set_option maxHeartbeats 8000000 in
theorem kept_any (gm cm n : Nat) (a : Option Addr) (c : Nat) (ls : List (List UInt8)) (w : World) (hL : Lent w gm cm n ls) (hp : Parts w a n ls) (hn : n ≤ 40) (hb : ∀ (j : Nat) (l : List UInt8), ls[j]? = some l → l.length ≤ 2097152) :
    Calls Tryd.prog 20 #[.slice (some ⟨gm, 0, none⟩) n cm, .slice a n c] w fun e w' => e = .returned (.bool true) ∧ w.grownBy w' none := by
  have HL : Keep (Lent w gm cm n ls) := ⟨hL⟩
  have HP : Keep (Parts w a n ls) := ⟨hp⟩
  have HB : Keep (∀ (j : Nat) (l : List UInt8), ls[j]? = some l → l.length ≤ 2097152) := ⟨hb⟩
  have hcm := hL.cap
  have hl := hL.len
  obtain ⟨g1, c1, hc1, hb1⟩ := hL.b1
  obtain ⟨g2, c2, hc2, hb2⟩ := hL.b2
  have hv1 := cvt_back _ _ _ _ _ hb1 (by simp)
  have hv2 := cvt_back _ _ _ _ _ hb2 (by simp)
  have q1 : (ByteArray.mk behindL.toArray).toList = [98, 101, 104, 105, 110, 100] := by kernel_rfl
  have q2 : (ByteArray.mk itL.toArray).toList = [105, 116] := by kernel_rfl
  generalize ByteArray.mk behindL.toArray = bb1 at hv1 q1
  generalize ByteArray.mk itL.toArray = bb2 at hv2 q2
  clear hL hp hb hb1 hb2
  go_enter Tryd.func20, Tryd.ntmps20
  go_wp2_with fail
  clear hv1 hv2 q1 q2 hc1 hc2
  go_loopw [6] (fun t w' => ∃ i : Nat, i ≤ n ∧ t = .int .i64 i ∧ Keep (w.grownBy w' none)) (fun t _ => n - (intOf t).toNat)
  case atStart => exact ⟨0, by omega, rfl, ⟨World.grownBy.refl _ _⟩⟩
  case round =>
    obtain ⟨i, hi, rfl, hrel⟩ := hrel
    rename World => wo
    by_cases hli : i < n
    · obtain ⟨l, hil⟩ : ∃ p, ls[i]? = some p := ⟨_, List.getElem?_eq_getElem (by omega)⟩
      obtain ⟨B, o, rfl, hat⟩ := HP.out.at_ (by omega)
      obtain ⟨a2, n2, c2, hcell, hby⟩ := hat i l hil
      obtain rfl := hby.len
      obtain ⟨g, cp, e1, e2, e3⟩ := HL.out.row i l hil
      have hll := HB.out i l hil
      have hcW : ∀ W, w.grownBy W none → W.cell? ⟨B, o + i, none⟩ = some (.slice a2 l.length c2) := fun W gW => gW.cell hcell (by simp)
      have hmW : ∀ W, w.grownBy W none → W.cell? ⟨gm, i, none⟩ = some (.slice (some ⟨g, 0, none⟩) l.length cp) := fun W gW => gW.cell e1 (by simp)
      have hc := hcW wo hrel.out
      have hm := hmW wo hrel.out
      have hlv : ∀ W, w.grownBy W none → (convert 24 9 (.slice a2 l.length c2)).run Tryd.prog W = .ok (.string ⟨l.toArray⟩) W := fun W gW => cvt_any W _ _ _ _ (hby.kept gW)
      have hmb : BytesOf w (some ⟨g, 0, none⟩) l.length cp l := ⟨rfl, by omega, fun _ => ⟨g, 0, rfl, fun k x hx => by
        rw [Nat.zero_add]
        exact e3 k x (by rw [List.getElem?_append_left (List.getElem?_eq_some_iff.1 hx).1]; exact hx)⟩⟩
      have hmv : ∀ W, w.grownBy W none → (convert 24 9 (.slice (some ⟨g, 0, none⟩) l.length cp)).run Tryd.prog W = .ok (.string ⟨l.toArray⟩) W := fun W gW => cvt_any W _ _ _ _ (hmb.kept gW)
      have hmk : ∀ W, w.grownBy W none → ∀ j, j < 150 → W.cell? ⟨g, l.length + j, none⟩ = some (bv (UInt8.ofNat (7 * i + j))) := fun W gW j hj => gW.cell (e3 (l.length + j) _ (by rw [List.getElem?_append_right (by omega), Nat.add_sub_cancel_left]; exact marks_at i j hj)) (by simp)
      have HMK : Keep (∀ W, w.grownBy W none → ∀ j, j < 150 → W.cell? ⟨g, l.length + j, none⟩ = some (bv (UInt8.ofNat (7 * i + j)))) := ⟨hmk⟩
      generalize ByteArray.mk l.toArray = lb at hlv hmv
      have hbq : (lb.toList == lb.toList) = true := by simp
      clear hat hmk e1 e3 hcell hby hmb
      go_wp2_with fail
      refine wp_region_held_drew (S := fun w' => w.grownBy w' none) (by kernel_rfl) (hrel.out.trans (gr_drewN _ 1 none)) (fun hHeld => ?_)
      refine wpAnyH_take (i := 0) (oi := _) (v := ?_) rfl (by kernel_rfl) (by kernel_rfl) (by kernel_rfl) (fun _ _ _ h => h) (Or.inl ⟨by rfl, ?_⟩) (by assumption) ?_
      rotate_left
      · (intro w hSw; go_simp; first | done | (with_reducible rfl))
      simp only [Act.put, List.getElem_toArray, List.getElem_cons_zero, List.setIfInBounds_toArray, List.set_cons_zero, List.set_cons_succ]
      refine wpAnyH_take (i := 1) (oi := _) (v := ?_) rfl (by kernel_rfl) (by kernel_rfl) (by kernel_rfl) (fun _ _ _ h => h) (Or.inl ⟨by rfl, ?_⟩) (by assumption) ?_
      rotate_left
      · (intro w hSw; go_simp; first | done | (with_reducible rfl))
      simp only [Act.put, List.getElem_toArray, List.getElem_cons_succ, List.getElem_cons_zero, List.setIfInBounds_toArray, List.set_cons_zero, List.set_cons_succ]
      refine wpAnyH_take (i := 2) (oi := _) (v := ?_) rfl (by kernel_rfl) (by kernel_rfl) (by kernel_rfl) (fun _ _ _ h => h) (Or.inl ⟨by rfl, ?_⟩) (by assumption) ?_
      rotate_left
      · (intro w hSw; go_simp; first | done | (with_reducible rfl))
      simp only [Act.put, List.getElem_toArray, List.getElem_cons_succ, List.getElem_cons_zero, List.setIfInBounds_toArray, List.set_cons_zero, List.set_cons_succ]
      refine wpAnyH_take (i := 3) (oi := _) (v := ?_) rfl (by kernel_rfl) (by kernel_rfl) (by kernel_rfl) (fun _ _ _ h => h) (Or.inl ⟨by rfl, ?_⟩) (by assumption) ?_
      rotate_left
      · (intro w hSw; go_simp; first | done | (with_reducible rfl))
      simp only [Act.put, List.getElem_toArray, List.getElem_cons_succ, List.getElem_cons_zero, List.setIfInBounds_toArray, List.set_cons_zero, List.set_cons_succ]
      refine wpAnyH_take (i := 4) (oi := _) (v := ?_) rfl (by kernel_rfl) (by kernel_rfl) (by kernel_rfl) (fun _ _ _ h => h) (Or.inl ⟨by rfl, ?_⟩) (by assumption) ?_
      rotate_left
      · (intro w hSw; go_simp; first | done | (with_reducible rfl))
      simp only [Act.put, List.getElem_toArray, List.getElem_cons_succ, List.getElem_cons_zero, List.setIfInBounds_toArray, List.set_cons_zero, List.set_cons_succ]
      refine wpAnyH_take (i := 5) (oi := _) (v := ?_) rfl (by kernel_rfl) (by kernel_rfl) (by kernel_rfl) (fun _ _ _ h => h) (Or.inl ⟨by rfl, ?_⟩) (by assumption) ?_
      rotate_left
      · (intro w hSw; go_simp; first | done | (with_reducible rfl))
      simp only [Act.put, List.getElem_toArray, List.getElem_cons_succ, List.getElem_cons_zero, List.setIfInBounds_toArray, List.set_cons_zero, List.set_cons_succ]
      refine wpAnyH_take (i := 6) (oi := _) (v := ?_) rfl (by kernel_rfl) (by kernel_rfl) (by kernel_rfl) (fun _ _ _ h => h) (Or.inl ⟨by rfl, ?_⟩) (by assumption) ?_
      rotate_left
      · (intro w hSw; go_simp; first | done | (with_reducible rfl))
      simp only [Act.put, List.getElem_toArray, List.getElem_cons_succ, List.getElem_cons_zero, List.setIfInBounds_toArray, List.set_cons_zero, List.set_cons_succ]
      refine wpAnyH_take (i := 7) (oi := _) (v := ?_) rfl (by kernel_rfl) (by kernel_rfl) (by kernel_rfl) (fun _ _ _ h => h) (Or.inl ⟨by rfl, ?_⟩) (by assumption) ?_
      rotate_left
      · (intro w hSw; go_simp; first | done | (with_reducible rfl))
      simp only [Act.put, List.getElem_toArray, List.getElem_cons_succ, List.getElem_cons_zero, List.setIfInBounds_toArray, List.set_cons_zero, List.set_cons_succ]
      refine wpAnyH_take (i := 8) (oi := _) (v := ?_) rfl (by kernel_rfl) (by kernel_rfl) (by kernel_rfl) (fun _ _ _ h => h) (Or.inl ⟨by rfl, ?_⟩) (by assumption) ?_
      rotate_left
      · (intro w hSw; go_simp; first | done | (with_reducible rfl))
      simp only [Act.put, List.getElem_toArray, List.getElem_cons_succ, List.getElem_cons_zero, List.setIfInBounds_toArray, List.set_cons_zero, List.set_cons_succ]
      refine wpAnyH_take (i := 9) (oi := _) (v := ?_) rfl (by kernel_rfl) (by kernel_rfl) (by kernel_rfl) (fun _ _ _ h => h) (Or.inl ⟨by rfl, ?_⟩) (by assumption) ?_
      rotate_left
      · (intro w hSw; go_simp; first | done | (with_reducible rfl))
      simp only [Act.put, List.getElem_toArray, List.getElem_cons_succ, List.getElem_cons_zero, List.setIfInBounds_toArray, List.set_cons_zero, List.set_cons_succ]
      refine wpAnyH_take (i := 10) (oi := _) (v := ?_) rfl (by kernel_rfl) (by kernel_rfl) (by kernel_rfl) (fun _ _ _ h => h) (Or.inl ⟨by rfl, ?_⟩) (by assumption) ?_
      rotate_left
      · (intro w hSw; go_simp; first | done | (with_reducible rfl))
      simp only [Act.put, List.getElem_toArray, List.getElem_cons_succ, List.getElem_cons_zero, List.setIfInBounds_toArray, List.set_cons_zero, List.set_cons_succ]
      refine wpAnyH_done (by kernel_rfl) ?_ _
      go_wp2_with fail
      clear hcW hmW hc hm hlv hmv hbq
      go_loopw [9] (fun t w' => ∃ j : Nat, j ≤ 150 ∧ t = .int .i64 j ∧ Keep (w.grownBy w' none)) (fun t _ => 150 - (intOf t).toNat)
      case atStart => exact ⟨0, by omega, rfl, ⟨hHeld⟩⟩
      case round =>
        rename Keep (w.grownBy wo none) => hwo
        obtain ⟨j, hj, rfl, hin⟩ := hrel
        by_cases hlj : j < 150
        · obtain ⟨v, hv⟩ : ∃ v, UInt8.ofNat (7 * i + j) = v := ⟨_, rfl⟩
          have hv2 : (7 * (i : Int) + (j : Int)) % 256 = (v.toNat : Int) := by rw [← hv]; simp
          have hck : wr.cell? ⟨g, l.length + j, none⟩ = some (.int .u8 v.toNat) := by rw [← hv]; exact HMK.out wr hin.out j hlj
          have HI : Keep (w.grownBy wr none) := hin
          clear hv hin
          go_wp2_with fail
          refine ⟨⟨j + 1, by omega, by go_num, HI⟩, ?_⟩
          simp [intOf]; omega
        · have HI : Keep (w.grownBy wr none) := hin
          clear hin
          go_wp2_with fail
          refine ⟨⟨i + 1, by omega, by go_num, HI⟩, ?_⟩
          simp [intOf]; omega
    · have HE : Keep (w.grownBy wo none) := hrel
      clear hrel
      go_wp2_with fail
      go_ret
      exact ⟨rfl, HE.out⟩
end Go.Proofs.YtabiomfgmdnikaaDoor
