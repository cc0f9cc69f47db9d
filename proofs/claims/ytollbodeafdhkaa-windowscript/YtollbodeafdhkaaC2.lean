/- the reference's Bits; same. -/
import Derived.Test.YtollbodeafdhkaaC1
namespace Go.Proofs.Ytollbodeafdhkaa
open Go Go.RowKit
theorem mod_step (B i : Nat) : B % 2 ^ (i + 1) = B % 2 ^ i + if B.testBit i then 2 ^ i else 0 := by
  rw [Nat.mod_pow_succ, Nat.testBit_eq_decide_div_mod_eq]
  rcases Nat.mod_two_eq_zero_or_one (B / 2 ^ i) with q | q <;> rw [q] <;> simp
theorem pow_lt {i : Nat} (h : i < 64) : 2 ^ i % 18446744073709551616 = 2 ^ i := by
  apply Nat.mod_eq_of_lt
  have := Nat.pow_le_pow_right (show 0 < 2 by omega) (show i ≤ 63 by omega)
  omega
set_option maxRecDepth 100000 in
set_option maxHeartbeats 4000000 in
theorem rbits_c {w : World} {p : Nat} {a : Option Addr} {n c : Nat} {L : List Nat} {h B : Nat} (r : RW w p a n c L h) (v : Inv h B L) (hh : h < 18446744073709551616) :
    Calls Try.prog 20 #[.pointer (some ⟨p, 0, none⟩)] w fun e w' => e = .returned (uv B) ∧ w' = w := by
  have c1 := r.has.cellv 1 _ rfl
  have HK : Keep (∀ s, Calls Try.prog 19 #[.pointer (some ⟨p, 0, none⟩), uv s] w fun e w' => e = .returned (.bool (decide (s ∈ L))) ∧ w' = w) := ⟨fun s => marked_c r s⟩
  have HV := Keep.mk v
  have hBl := v.lt
  clear v r
  go_enter Try.func20, Try.ntmps20
  go_wp2_with fail
  go_loopw [3, 4, 5] (fun x y z w' => ∃ i : Nat, i ≤ 64 ∧ x = uv (B % 2 ^ i) ∧ y = uv (2 ^ i % 18446744073709551616) ∧ z = uv i ∧ Keep (w' = w)) (fun _ _ z _ => 64 - (intOf z).toNat)
  case atStart => exact ⟨0, by omega, by simp [Nat.mod_one], rfl, rfl, ⟨rfl⟩⟩
  case round =>
    obtain ⟨i, i1, rfl, rfl, rfl, HW⟩ := hrel
    obtain rfl := HW.out
    clear HW
    by_cases hi : i < 64
    · have hia : (i : Int) < 64 := by omega
      have hb := HV.out.bit i
      have hst := mod_step B i
      have hle : B % 2 ^ (i + 1) ≤ B := Nat.mod_le _ _
      have hpl : 2 ^ (i + 1) % 18446744073709551616 = (2 * 2 ^ i) % 18446744073709551616 := by rw [Nat.pow_succ, Nat.mul_comm]
      have hwi : IntKind.u64.wrap ((i : Int) + 1) = ((i + 1 : Nat) : Int) := by rw [wu _ (by omega) (by omega)]; omega
      rw [pow_lt hi]
      obtain ⟨X, hX⟩ : ∃ X, B % 2 ^ i = X := ⟨_, rfl⟩
      obtain ⟨X', hX'⟩ : ∃ X', B % 2 ^ (i + 1) = X' := ⟨_, rfl⟩
      obtain ⟨Y', hY'⟩ : ∃ Y', 2 ^ (i + 1) % 18446744073709551616 = Y' := ⟨_, rfl⟩
      obtain ⟨Y, hY⟩ : ∃ Y, 2 ^ i = Y := ⟨_, rfl⟩
      rw [hX]
      rw [hX', hX, hY] at hst
      rw [hX'] at hle
      rw [hY', hY] at hpl
      rw [hY]
      have HE : Keep (B % 2 ^ (i + 1) = X' ∧ 2 ^ (i + 1) % 18446744073709551616 = Y') := ⟨hX', hY'⟩
      clear hX hX' hY hY'
      have hwy : IntKind.u64.wrap (2 * (Y : Int)) = (Y' : Int) := by
        rw [show IntKind.u64.wrap (2 * (Y : Int)) = (2 * (Y : Int)) % 18446744073709551616 by simp [IntKind.wrap, IntKind.bits, IntKind.signed]]
        omega
      clear hpl
      by_cases hu : i < h
      · have hui : (i : Int) < (h : Int) := by omega
        have hw : IntKind.u64.wrap ((h : Int) - (i : Int)) = ((h - i : Nat) : Int) := by rw [wu _ (by omega) (by omega)]; omega
        have HKs := Keep.mk (HK.out (h - i))
        generalize h - i = q at *
        go_wp2_with fail
        refine HKs.out.mono ?_
        rintro e w1 ⟨rfl, rfl⟩
        by_cases hm : q ∈ L
        · rw [decide_eq_true hm]
          rw [if_pos (hb.2 ⟨hi, hu, hm⟩)] at hst
          have hwx : IntKind.u64.wrap ((X : Int) + (Y : Int)) = (X' : Int) := by rw [wu _ (by omega) (by omega)]; omega
          clear hb hst hle
          go_wp2_with fail
          refine ⟨⟨i + 1, by omega, by rw [HE.out.1], by rw [HE.out.2], rfl, ⟨by trivial⟩⟩, ?_⟩
          simp only [intOf]; omega
        · rw [decide_eq_false hm]
          rw [if_neg (fun e => hm (hb.1 e).2.2), Nat.add_zero] at hst
          subst hst
          clear hb hle
          go_wp2_with fail
          refine ⟨⟨i + 1, by omega, by rw [HE.out.1], by rw [HE.out.2], rfl, ⟨by trivial⟩⟩, ?_⟩
          simp only [intOf]; omega
      · have hui : ¬ (i : Int) < (h : Int) := by omega
        rw [if_neg (fun e => hu (hb.1 e).2.1), Nat.add_zero] at hst
        subst hst
        clear hb hle
        go_wp2_with fail
        refine ⟨⟨i + 1, by omega, by rw [HE.out.1], by rw [HE.out.2], rfl, ⟨by trivial⟩⟩, ?_⟩
        simp only [intOf]; omega
    · have hia : ¬ (i : Int) < 64 := by omega
      obtain rfl : i = 64 := by omega
      have e : B % 2 ^ 64 = B := Nat.mod_eq_of_lt (by omega)
      rw [e]
      clear e
      go_wp2_with fail
      go_ret
      exact ⟨rfl, rfl⟩
theorem RW.kept {w w' : World} {p : Nat} {a : Option Addr} {n c : Nat} {L : List Nat} {h : Nat} (r : RW w p a n c L h) (g : w.grownBy w' none) : RW w' p a n c L h :=
  ⟨r.has.kept g (by simp), ⟨r.ns.len, fun hn => by
    obtain ⟨B, o, e, hc⟩ := r.ns.at_ hn
    exact ⟨B, o, e, fun j x hx => ⟨cell_kept g (hc j x hx).1, (hc j x hx).2⟩⟩⟩, r.n0⟩
set_option maxRecDepth 100000 in
set_option maxHeartbeats 4000000 in
theorem same_c {w : World} {p : Nat} {a : Option Addr} {n c : Nat} {L : List Nat} {h B : Nat} (r : RW w p a n c L h) (v : Inv h B L) (hh : h < 18446744073709551616) :
    Calls Try.prog 15 #[.agg #[uv h, uv B], .pointer (some ⟨p, 0, none⟩)] w fun e w' => e = .returned (.bool true) ∧ w.grownBy w' none := by
  have HV := Keep.mk v
  have HS : Keep (Has (w.alloc (.cells #[uv h, uv B] 26)).drew w.heap.size (wv h B) 26 ∧ RW (w.alloc (.cells #[uv h, uv B] 26)).drew p a n c L h ∧ w.grownBy (w.alloc (.cells #[uv h, uv B] 26)).drew none) := ⟨Has.new w (wv h B) 26, r.kept ((World.grownBy_alloc w (.cells #[uv h, uv B] 26) none).trans (gr_drew _ _)), (World.grownBy_alloc _ _ _).trans (gr_drew _ _)⟩
  clear v r
  go_enter Try.func15, Try.ntmps15
  go_wp2_with fail
  refine wp_region_held_drew (S := fun w' => Has w' w.heap.size (wv h B) 26 ∧ RW w' p a n c L h ∧ w.grownBy w' none) (by kernel_rfl) HS.out (fun hHeld => ?_)
  clear HS
  generalize (w.alloc (.cells #[uv h, uv B] 26)).drew = wq at *
  generalize w.heap.size = b at *
  refine wpAnyH_take (i := 0) (oi := _) (v := ?_) rfl (by kernel_rfl) (by kernel_rfl) (by kernel_rfl) (fun _ _ _ h => h) (Or.inl ⟨by rfl, ?_⟩) (by assumption) ?_
  rotate_left
  · (intro w hSw; have x0 := hSw.1.cellv 0 _ rfl; have x1 := hSw.1.cellv 1 _ rfl; have x2 := hSw.2.1.has.cellv 1 _ rfl; clear hSw; go_simp; first | done | (with_reducible rfl))
  simp only [Act.put, List.getElem_toArray, List.getElem_cons_zero, List.setIfInBounds_toArray, List.set_cons_zero, List.set_cons_succ]
  refine wpAnyH_take (i := 2) (oi := _) (v := ?_) rfl (by kernel_rfl) (by kernel_rfl) (by kernel_rfl) (fun _ _ _ h => h) (Or.inl ⟨by rfl, ?_⟩) (by assumption) ?_
  rotate_left
  · (intro w hSw; go_simp; first | done | (with_reducible rfl))
  simp only [Act.put, List.getElem_toArray, List.getElem_cons_succ, List.getElem_cons_zero, List.setIfInBounds_toArray, List.set_cons_zero, List.set_cons_succ]
  refine wpAnyH_take (i := 3) (oi := _) (v := ?_) rfl (by kernel_rfl) (by kernel_rfl) (by kernel_rfl) (fun _ _ _ h => h) (Or.inl ⟨by rfl, ?_⟩) (by assumption) ?_
  rotate_left
  · (intro w hSw; go_simp; first | done | (with_reducible rfl))
  simp only [Act.put, List.getElem_toArray, List.getElem_cons_succ, List.getElem_cons_zero, List.setIfInBounds_toArray, List.set_cons_zero, List.set_cons_succ]
  refine wpAnyH_take (i := 4) (oi := _) (v := ?_) rfl (by kernel_rfl) (by kernel_rfl) (by kernel_rfl) (fun _ _ _ h => h) (Or.inl ⟨by rfl, ?_⟩) (by assumption) ?_
  rotate_left
  · (intro w hSw; go_simp; first | done | (with_reducible rfl))
  simp only [Act.put, List.getElem_toArray, List.getElem_cons_succ, List.getElem_cons_zero, List.setIfInBounds_toArray, List.set_cons_zero, List.set_cons_succ]
  refine wpAnyH_take (i := 5) (oi := _) (v := ?_) rfl (by kernel_rfl) (by kernel_rfl) (by kernel_rfl) (fun _ _ _ h => h) (Or.inl ⟨by rfl, ?_⟩) (by assumption) ?_
  rotate_left
  · (intro w hSw; have x0 := hSw.1.cellv 0 _ rfl; have x1 := hSw.1.cellv 1 _ rfl; have x2 := hSw.2.1.has.cellv 1 _ rfl; clear hSw; go_simp; first | done | (with_reducible rfl))
  simp only [Act.put, List.getElem_toArray, List.getElem_cons_succ, List.getElem_cons_zero, List.setIfInBounds_toArray, List.set_cons_zero, List.set_cons_succ]
  refine wpAnyH_ready (rs := [1]) (by kernel_rfl) (by simp) ?_
  refine AllReadyH.cons rfl (fun K hK => ?_) AllReadyH.nil
  go_simp
  refine (high_c h B _).mono ?_
  rintro e w3 ⟨rfl, g⟩
  refine hK.out _ _ ⟨hHeld.1.kept g (by simp), hHeld.2.1.kept g, hHeld.2.2.trans g⟩ (fun hHeld => ?_)
  clear hK K g
  refine wpAnyH_take (i := 6) (oi := _) (v := ?_) rfl (by kernel_rfl) (by kernel_rfl) (by kernel_rfl) (fun _ _ _ h => h) (Or.inl ⟨by rfl, ?_⟩) (by assumption) ?_
  rotate_left
  · (intro w hSw; go_simp; first | done | (with_reducible rfl))
  simp only [Act.put, List.getElem_toArray, List.getElem_cons_succ, List.getElem_cons_zero, List.setIfInBounds_toArray, List.set_cons_zero, List.set_cons_succ]
  refine wpAnyH_take (i := 7) (oi := _) (v := ?_) rfl (by kernel_rfl) (by kernel_rfl) (by kernel_rfl) (fun _ _ _ h => h) (Or.inl ⟨by rfl, ?_⟩) (by assumption) ?_
  rotate_left
  · (intro w hSw; go_simp; first | done | (with_reducible rfl))
  simp only [Act.put, List.getElem_toArray, List.getElem_cons_succ, List.getElem_cons_zero, List.setIfInBounds_toArray, List.set_cons_zero, List.set_cons_succ]
  refine wpAnyH_take (i := 8) (oi := _) (v := ?_) rfl (by kernel_rfl) (by kernel_rfl) (by kernel_rfl) (fun _ _ _ h => h) (Or.inl ⟨by rfl, ?_⟩) (by assumption) ?_
  rotate_left
  · (intro w hSw; have x0 := hSw.1.cellv 0 _ rfl; have x1 := hSw.1.cellv 1 _ rfl; have x2 := hSw.2.1.has.cellv 1 _ rfl; clear hSw; go_simp; first | done | (with_reducible rfl))
  simp only [Act.put, List.getElem_toArray, List.getElem_cons_succ, List.getElem_cons_zero, List.setIfInBounds_toArray, List.set_cons_zero, List.set_cons_succ]
  refine wpAnyH_take (i := 10) (oi := _) (v := ?_) rfl (by kernel_rfl) (by kernel_rfl) (by kernel_rfl) (fun _ _ _ h => h) (Or.inl ⟨by rfl, ?_⟩) (by assumption) ?_
  rotate_left
  · (intro w hSw; go_simp; first | done | (with_reducible rfl))
  simp only [Act.put, List.getElem_toArray, List.getElem_cons_succ, List.getElem_cons_zero, List.setIfInBounds_toArray, List.set_cons_zero, List.set_cons_succ]
  refine wpAnyH_ready (rs := [9]) (by kernel_rfl) (by simp) ?_
  refine AllReadyH.cons rfl (fun K hK => ?_) AllReadyH.nil
  go_simp
  refine (bits_c h B _).mono ?_
  rintro e w3 ⟨rfl, g⟩
  refine hK.out _ _ ⟨hHeld.1.kept g (by simp), hHeld.2.1.kept g, hHeld.2.2.trans g⟩ (fun hHeld => ?_)
  clear hK K g
  refine wpAnyH_ready (rs := [11]) (by kernel_rfl) (by simp) ?_
  refine AllReadyH.cons rfl (fun K hK => ?_) AllReadyH.nil
  go_simp
  refine (rbits_c hHeld.2.1 HV.out hh).mono ?_
  rintro e w4 ⟨rfl, rfl⟩
  refine hK.out _ _ hHeld (fun hHeld => ?_)
  clear hK K
  refine wpAnyH_take (i := 12) (oi := _) (v := ?_) rfl (by kernel_rfl) (by kernel_rfl) (by kernel_rfl) (fun _ _ _ h => h) (Or.inl ⟨by rfl, ?_⟩) (by assumption) ?_
  rotate_left
  · (intro w hSw; go_simp; first | done | (with_reducible rfl))
  simp only [Act.put, List.getElem_toArray, List.getElem_cons_succ, List.getElem_cons_zero, List.setIfInBounds_toArray, List.set_cons_zero, List.set_cons_succ]
  refine wpAnyH_take (i := 13) (oi := _) (v := ?_) rfl (by kernel_rfl) (by kernel_rfl) (by kernel_rfl) (fun _ _ _ h => h) (Or.inl ⟨by rfl, ?_⟩) (by assumption) ?_
  rotate_left
  · (intro w hSw; go_simp; first | done | (with_reducible rfl))
  simp only [Act.put, List.getElem_toArray, List.getElem_cons_succ, List.getElem_cons_zero, List.setIfInBounds_toArray, List.set_cons_zero, List.set_cons_succ]
  refine wpAnyH_take (i := 14) (oi := _) (v := ?_) rfl (by kernel_rfl) (by kernel_rfl) (by kernel_rfl) (fun _ _ _ h => h) (Or.inl ⟨by rfl, ?_⟩) (by assumption) ?_
  rotate_left
  · (intro w hSw; go_simp; first | done | (with_reducible rfl))
  simp only [Act.put, List.getElem_toArray, List.getElem_cons_succ, List.getElem_cons_zero, List.setIfInBounds_toArray, List.set_cons_zero, List.set_cons_succ]
  refine wpAnyH_done (by kernel_rfl) ?_ _
  have HW := Keep.mk hHeld.2.2
  clear hHeld
  go_wp2_with fail
  go_ret
  exact ⟨rfl, HW.out⟩
end Go.Proofs.Ytollbodeafdhkaa
