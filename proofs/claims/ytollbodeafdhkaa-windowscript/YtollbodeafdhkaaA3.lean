/- windows of the call's own; numbers as they are handed in; the laws' walk. -/
import Derived.Test.YtollbodeafdhkaaA2
namespace Go.Proofs.Ytollbodeafdhkaa
open Go Go.RowKit
/-- a window of the call's own -/
structure MW (w0 w : World) (b h B : Nat) (M : List Nat) : Prop where
  k : WK w b h B
  v : Inv h B M
  lo : w0.heap.size ≤ b
  g : w0.grownBy w none
theorem WK.kept {w w' : World} {b h B : Nat} {row : Option Nat} (k : WK w b h B) (g : w.grownBy w' row) (hne : some b ≠ row) : WK w' b h B := ⟨k.has.kept g hne, k.h1, k.b1⟩
theorem MW.kept {w0 w w' : World} {b h B : Nat} {M : List Nat} (m : MW w0 w b h B M) (g : w.grownBy w' none) : MW w0 w' b h B M := ⟨m.k.kept g (by simp), m.v, m.lo, m.g.trans g⟩
theorem MW.other {w0 w w' : World} {b c h B : Nat} {M : List Nat} (m : MW w0 w b h B M) (g : w.grownBy w' (some c)) (hc : w0.heap.size ≤ c) (hne : b ≠ c) : MW w0 w' b h B M := ⟨m.k.kept g (by simpa using hne), m.v, m.lo, gr_new m.g g hc⟩
theorem MW.new {w0 w : World} (g : w0.grownBy w none) : MW w0 (w.alloc (.cells #[uv 0, uv 0] 26)) w.heap.size 0 0 [] := ⟨⟨Has.new w (wv 0 0) 26, by omega, by omega⟩, Inv.zero, g.size, g.trans (World.grownBy_alloc _ _ _)⟩
theorem MW.copy {w0 w : World} {b h B : Nat} {M : List Nat} (m : MW w0 w b h B M) : MW w0 (w.alloc (.cells #[uv h, uv B] 26)) w.heap.size h B M := ⟨⟨Has.new w (wv h B) 26, m.k.h1, m.k.b1⟩, m.v, m.g.size, m.g.trans (World.grownBy_alloc _ _ _)⟩
theorem my_mark {w0 w : World} {b h B : Nat} {M : List Nat} (m : MW w0 w b h B M) (s : Nat) (hs : s < 18446744073709551616) :
    Calls Try.prog 9 #[.pointer (some ⟨b, 0, none⟩), uv s] w fun e w' => e = .returned (.int .i64 (chk h B s : Nat)) ∧ MW w0 w' b (mkH h B s) (mkB h B s) (mkM h B s M) ∧ w.grownBy w' (some b) := by
  refine (mark_c b h B s w m.k hs).mono ?_
  rintro e w' ⟨rfl, k, g⟩
  exact ⟨rfl, ⟨k, m.v.mark s, m.lo, gr_new m.g g m.lo⟩, g⟩
theorem my_check {w0 w : World} {b h B : Nat} {M : List Nat} (m : MW w0 w b h B M) (s : Nat) (hs : s < 18446744073709551616) (W : World) :
    Calls Try.prog 11 #[.agg #[uv h, uv B], uv s] W fun e w' => e = .returned (.int .i64 (chk h B s : Nat)) ∧ W.grownBy w' none := check_c h B s W m.k.h1 m.k.b1 hs
/-- numbers as they are handed in -/
structure Ns (k : IntKind) (w : World) (a : Option Addr) (n : Nat) (xs : List Nat) : Prop where
  len : xs.length = n
  at_ : 0 < n → ∃ B o, a = some ⟨B, o, none⟩ ∧ ∀ (j : Nat) x, xs[j]? = some x → w.cell? ⟨B, o + j, none⟩ = some (.int k (x : Nat)) ∧ (x : Int) < 2 ^ k.bits
theorem cell_kept {w w' : World} {x : Addr} {v : Value} (hg : w.grownBy w' none) (h : w.cell? x = some v) : w'.cell? x = some v := by
  have hb : x.block < w.heap.size := World.block_lt_of_cell? w x h
  rw [← h]
  simp only [World.cell?]
  rw [hg.block x.block hb (by simp)]
theorem Ns.step {k : IntKind} {w : World} {a : Option Addr} {n : Nat} {xs : List Nat} (h : Ns k w a n xs) {i : Nat} (hi : i < n) : ∃ B o x, a = some ⟨B, o, none⟩ ∧ xs[i]? = some x ∧ (x : Int) < 2 ^ k.bits ∧ ∀ w', w.grownBy w' none → w'.cell? ⟨B, o + i, none⟩ = some (.int k (x : Nat)) := by
  obtain ⟨B, o, e, hc⟩ := h.at_ (by omega)
  have hl := h.len
  obtain ⟨x, hx⟩ : ∃ x, xs[i]? = some x := ⟨_, List.getElem?_eq_getElem (by omega)⟩
  obtain ⟨c1, c2⟩ := hc i x hx
  exact ⟨B, o, x, e, hx, c2, fun w' g => cell_kept g c1⟩
theorem up_ok {h B : Nat} {d : Nat} (h1 : 1 ≤ d) (h2 : d ≤ 64) : chk h B (h + d) = 0 ∧ mkH h B (h + d) = h + d := by
  have e : chk h B (h + d) = 0 := by unfold chk; rw [if_pos (by omega), if_neg (by omega)]
  exact ⟨e, by unfold mkH; rw [if_pos e]; omega⟩
set_option maxRecDepth 100000 in
set_option maxHeartbeats 8000000 in
theorem walk_c {w0 w : World} {b h B : Nat} {M : List Nat} (m : MW w0 w b h B M) (a : Option Addr) (n c : Nat) (xs : List Nat) (hs : Ns .u8 w0 a n xs) (hn : n ≤ 200) (hh : h + 64 * n < 18446744073709551616) :
    Calls Try.prog 12 #[.pointer (some ⟨b, 0, none⟩), .slice a n c] w fun e w' => e = .returned (.bool true) ∧ (∃ h' B' M', h' ≤ h + 64 * n ∧ MW w0 w' b h' B' M') ∧ w.grownBy w' (some b) := by
  have HX := Keep.mk hs
  have HM : Keep (MW w0 w b h B M ∧ w.grownBy w (some b)) := ⟨m, World.grownBy.refl _ _⟩
  clear hs m
  go_enter Try.func12, Try.ntmps12
  go_wp2_with fail
  go_loopw [5] (fun s w' => ∃ (i h' B' : Nat) (M' : List Nat), i ≤ n ∧ h' ≤ h + 64 * i ∧ s = .int .i64 (i : Nat) ∧ Keep (MW w0 w' b h' B' M' ∧ w.grownBy w' (some b))) (fun s _ => n - (intOf s).toNat)
  case atStart => exact ⟨0, h, B, M, by omega, by omega, rfl, HM⟩
  case round =>
    clear HM
    obtain ⟨i, h', B', M', i1, hh', rfl, HM⟩ := hrel
    by_cases hi : i < n
    · have hia : (i : Int) < (n : Int) := by omega
      obtain ⟨sb, so, x, rfl, hxi, hx, hcc⟩ := HX.out.step hi
      have hx256 : (x : Int) < 256 := by simpa [IntKind.bits] using hx
      have c1 := hcc wr HM.out.1.g
      have HSB : Keep (sb ≠ b) := ⟨by
        have := World.block_lt_of_cell? w0 _ (hcc w0 (World.grownBy.refl _ _))
        have := HM.out.1.lo
        simp at *
        omega⟩
      clear hcc hxi hx
      have hwi : IntKind.i64.wrap ((i : Int) + 1) = ((i + 1 : Nat) : Int) := wi _ (by omega) (by omega)
      have hx8 : IntKind.u64.wrap (x : Int) = (x : Int) := wu _ (by omega) (by omega)
      have hmod : (x : Int).tmod 64 = ((x % 64 : Nat) : Int) := by rw [Int.tmod_eq_emod_of_nonneg (by omega)]; omega
      have hwm : IntKind.u64.wrap ((x % 64 : Nat) : Int) = ((x % 64 : Nat) : Int) := wu _ (by omega) (by omega)
      have hy : x % 64 < 64 := by omega
      generalize x % 64 = y at *
      have hw1 : IntKind.u64.wrap ((h' : Int) + 1) = ((h' + 1 : Nat) : Int) := by rw [wu _ (by omega) (by omega)]; omega
      have hw2 : IntKind.u64.wrap (((h' + 1 : Nat) : Int) + (y : Int)) = ((h' + (1 + y) : Nat) : Int) := by rw [wu _ (by omega) (by omega)]; omega
      obtain ⟨H1, hH1⟩ : ∃ H1, h' + 1 = H1 := ⟨_, rfl⟩
      obtain ⟨S, hS⟩ : ∃ S, h' + (1 + y) = S := ⟨_, rfl⟩
      rw [hH1] at hw1 hw2
      rw [hS] at hw2
      have HS : Keep (h' + (1 + y) = S) := ⟨hS⟩
      have hSl : S < 18446744073709551616 := by omega
      clear hH1
      have z0 := HM.out.1.k.has.cellv 0 _ rfl
      have z1 := HM.out.1.k.has.cellv 1 _ rfl
      go_wp2_with fail
      refine wp_region_held_drew (S := fun w' => w'.cell? ⟨sb, so + i, none⟩ = some (.int .u8 (x : Nat))) (by kernel_rfl) c1 (fun hHeld => ?_)
      refine wpAnyH_take (i := 0) (oi := _) (v := ?_) rfl (by kernel_rfl) (by kernel_rfl) (by kernel_rfl) (fun _ _ _ h => h) (Or.inl ⟨by rfl, ?_⟩) (by assumption) ?_
      rotate_left
      · (intro w hSw; go_simp; first | done | (with_reducible rfl))
      simp only [Act.put, List.getElem_toArray, List.getElem_cons_zero, List.setIfInBounds_toArray, List.set_cons_zero, List.set_cons_succ]
      refine wpAnyH_take (i := 1) (oi := _) (v := ?_) rfl (by kernel_rfl) (by kernel_rfl) (by kernel_rfl) (fun _ _ _ h => h) (Or.inl ⟨by rfl, ?_⟩) (by assumption) ?_
      rotate_left
      · (intro w hSw; go_simp; first | done | (with_reducible rfl))
      simp only [Act.put, List.getElem_toArray, List.getElem_cons_succ, List.getElem_cons_zero, List.setIfInBounds_toArray, List.set_cons_zero, List.set_cons_succ]
      refine wpAnyH_take (i := 2) (oi := _) (v := ?_) rfl (by kernel_rfl) (by kernel_rfl) (by kernel_rfl) (fun _ _ _ h => h) (Or.inl ⟨by rfl, ?_⟩) (by assumption) ?_
      rotate_left
      · (intro w hSw; go_simp; first | done | (with_reducible rfl))
      simp only [Act.put, List.getElem_toArray, List.getElem_cons_succ, List.getElem_cons_zero, List.setIfInBounds_toArray, List.set_cons_zero, List.set_cons_succ]
      refine wpAnyH_take (i := 6) (oi := _) (v := ?_) rfl (by kernel_rfl) (by kernel_rfl) (by kernel_rfl) (fun _ _ _ h => h) (Or.inl ⟨by rfl, ?_⟩) (by assumption) ?_
      rotate_left
      · (intro w hSw; go_simp; first | done | (with_reducible rfl))
      simp only [Act.put, List.getElem_toArray, List.getElem_cons_succ, List.getElem_cons_zero, List.setIfInBounds_toArray, List.set_cons_zero, List.set_cons_succ]
      refine wpAnyH_take (i := 7) (oi := _) (v := ?_) rfl (by kernel_rfl) (by kernel_rfl) (by kernel_rfl) (fun _ _ _ h => h) (Or.inl ⟨by rfl, ?_⟩) (by assumption) ?_
      rotate_left
      · (intro w hSw; go_simp; first | done | (with_reducible rfl))
      simp only [Act.put, List.getElem_toArray, List.getElem_cons_succ, List.getElem_cons_zero, List.setIfInBounds_toArray, List.set_cons_zero, List.set_cons_succ]
      refine wpAnyH_take (i := 8) (oi := _) (v := ?_) rfl (by kernel_rfl) (by kernel_rfl) (by kernel_rfl) (fun _ _ _ h => h) (Or.inl ⟨by rfl, ?_⟩) (by assumption) ?_
      rotate_left
      · (intro w hSw; go_simp; first | done | (with_reducible rfl))
      simp only [Act.put, List.getElem_toArray, List.getElem_cons_succ, List.getElem_cons_zero, List.setIfInBounds_toArray, List.set_cons_zero, List.set_cons_succ]
      refine wpAnyH_take (i := 9) (oi := _) (v := ?_) rfl (by kernel_rfl) (by kernel_rfl) (by kernel_rfl) (fun _ _ _ h => h) (Or.inl ⟨by rfl, ?_⟩) (by assumption) ?_
      rotate_left
      · (intro w hSw; have hq := hSw; clear hSw; go_simp; first | done | (with_reducible rfl))
      simp only [Act.put, List.getElem_toArray, List.getElem_cons_succ, List.getElem_cons_zero, List.setIfInBounds_toArray, List.set_cons_zero, List.set_cons_succ]
      refine wpAnyH_take (i := 10) (oi := _) (v := ?_) rfl (by kernel_rfl) (by kernel_rfl) (by kernel_rfl) (fun _ _ _ h => h) (Or.inl ⟨by rfl, ?_⟩) (by assumption) ?_
      rotate_left
      · (intro w hSw; go_simp; first | done | (with_reducible rfl))
      simp only [Act.put, List.getElem_toArray, List.getElem_cons_succ, List.getElem_cons_zero, List.setIfInBounds_toArray, List.set_cons_zero, List.set_cons_succ]
      refine wpAnyH_take (i := 11) (oi := _) (v := ?_) rfl (by kernel_rfl) (by kernel_rfl) (by kernel_rfl) (fun _ _ _ h => h) (Or.inl ⟨by rfl, ?_⟩) (by assumption) ?_
      rotate_left
      · (intro w hSw; go_simp; first | done | (with_reducible rfl))
      simp only [Act.put, List.getElem_toArray, List.getElem_cons_succ, List.getElem_cons_zero, List.setIfInBounds_toArray, List.set_cons_zero, List.set_cons_succ]
      have z0d : wr.drew.cell? ⟨b, 0, none⟩ = some (uv h') := z0
      have z1d : wr.drew.cell? ⟨b, 1, none⟩ = some (uv B') := z1
      replace HM : Keep (MW w0 wr.drew b h' B' M' ∧ w.grownBy wr.drew (some b)) := ⟨HM.out.1.kept (gr_drew _ _), HM.out.2.trans (gr_drew _ _)⟩
      clear z0 z1 c1
      generalize wr.drew = w1 at *
      refine wpAnyH_ready (rs := [3]) (by kernel_rfl) (by simp) ?_
      refine AllReadyH.cons rfl (fun K hK => ?_) AllReadyH.nil
      go_simp
      refine hK.out _ _ hHeld (fun hHeld => ?_)
      clear hK K z0d z1d
      refine wpAnyH_ready (rs := [4]) (by kernel_rfl) (by simp) ?_
      refine AllReadyH.cons rfl (fun K hK => ?_) AllReadyH.nil
      go_simp
      refine (high_c h' B' _).mono ?_
      rintro e w2 ⟨rfl, g2⟩
      have hHeld2 : w2.cell? ⟨sb, so + i, none⟩ = some (.int .u8 (x : Nat)) := cell_kept g2 hHeld
      replace HM : Keep (MW w0 w2 b h' B' M' ∧ w.grownBy w2 (some b)) := ⟨HM.out.1.kept g2, HM.out.2.trans (g2.but _)⟩
      clear g2 hHeld
      refine hK.out _ _ hHeld2 (fun hHeld => ?_)
      clear hK K hHeld2
      refine wpAnyH_take (i := 5) (oi := _) (v := ?_) rfl (by kernel_rfl) (by kernel_rfl) (by kernel_rfl) (fun _ _ _ h => h) (Or.inl ⟨by rfl, ?_⟩) (by assumption) ?_
      rotate_left
      · (intro w hSw; go_simp; first | done | (with_reducible rfl))
      simp only [Act.put, List.getElem_toArray, List.getElem_cons_succ, List.getElem_cons_zero, List.setIfInBounds_toArray, List.set_cons_zero, List.set_cons_succ]
      refine wpAnyH_take (i := 12) (oi := _) (v := ?_) rfl (by kernel_rfl) (by kernel_rfl) (by kernel_rfl) (fun _ _ _ h => h) (Or.inl ⟨by rfl, ?_⟩) (by assumption) ?_
      rotate_left
      · (intro w hSw; go_simp; first | done | (with_reducible rfl))
      simp only [Act.put, List.getElem_toArray, List.getElem_cons_succ, List.getElem_cons_zero, List.setIfInBounds_toArray, List.set_cons_zero, List.set_cons_succ]
      refine wpAnyH_ready (rs := [13]) (by kernel_rfl) (by simp) ?_
      refine AllReadyH.cons rfl (fun K hK => ?_) AllReadyH.nil
      go_simp
      have c := my_mark HM.out.1 S hSl
      have hc : chk h' B' S = 0 ∧ mkH h' B' S = S := by rw [← HS.out]; exact up_ok (by omega) (by omega)
      rw [hc.1, hc.2] at c
      refine c.mono ?_
      rintro e w3 ⟨rfl, hm, g3⟩
      have hHeld2 : w3.cell? ⟨sb, so + i, none⟩ = some (.int .u8 (x : Nat)) := by
        have hb := World.block_lt_of_cell? w2 _ hHeld
        rw [← hHeld]
        simp only [World.cell?]
        rw [g3.block sb hb (by have := HSB.out; simpa using this)]
      have HM3 : Keep (MW w0 w3 b S (mkB h' B' S) (mkM h' B' S M') ∧ w.grownBy w3 (some b)) := ⟨hm, HM.out.2.trans g3⟩
      clear c hc HM g3 hm hHeld
      generalize mkB h' B' S = B2 at *
      generalize mkM h' B' S M' = M2 at *
      refine hK.out _ _ hHeld2 (fun hHeld => ?_)
      clear hK K hHeld2
      refine wpAnyH_ready (rs := [14]) (by kernel_rfl) (by simp) ?_
      refine AllReadyH.cons rfl (fun K hK => ?_) AllReadyH.nil
      go_simp
      refine (num_c _ _).mono ?_
      rintro e w4 ⟨rfl, rfl⟩
      refine hK.out _ _ hHeld (fun hHeld => ?_)
      clear hK K
      refine wpAnyH_take (i := 15) (oi := _) (v := ?_) rfl (by kernel_rfl) (by kernel_rfl) (by kernel_rfl) (fun _ _ _ h => h) (Or.inl ⟨by rfl, ?_⟩) (by assumption) ?_
      rotate_left
      · (intro w hSw; go_simp; first | done | (with_reducible rfl))
      simp only [Act.put, List.getElem_toArray, List.getElem_cons_succ, List.getElem_cons_zero, List.setIfInBounds_toArray, List.set_cons_zero, List.set_cons_succ]
      refine wpAnyH_done (by kernel_rfl) ?_ _
      go_wp2_with fail
      refine ⟨⟨i + 1, S, _, _, by omega, by omega, rfl, HM3⟩, ?_⟩
      simp only [intOf]; omega
    · have hia : ¬ (i : Int) < (n : Int) := by omega
      go_wp2_with fail
      go_ret
      exact ⟨rfl, ⟨h', by omega, B', M', HM.out.1⟩, HM.out.2⟩
end Go.Proofs.Ytollbodeafdhkaa
