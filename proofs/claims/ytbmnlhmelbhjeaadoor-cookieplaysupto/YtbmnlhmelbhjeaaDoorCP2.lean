/- the reference's Turn -/
import Derived.Test.YtbmnlhmelbhjeaaDoorCP1
import Derived.Test.YtbmnlhmelbhjeaaDoorCP0
namespace Go.Proofs.YtbmnlhmelbhjeaaDoor
open Go Go.RowKit

/-- one string more, and where the row lies -/
theorem apps2 (w : World) (base : Nat) (v : Value) (n : Nat) (xs : List ByteArray) (x : ByteArray) (hown : w.ownsRow base 9 1 v n (xs.map .string)) (hn : n ≤ 1000) (hbase : base ≤ w.heap.size) :
    ∃ g c' w', (Builtin.append_ #[22, 22] 22 #[v, .slice (some ⟨w.heap.size, 0, none⟩) 1 1]).run Tryd.prog (w.alloc (.cells #[.string x] 9)) = .ok (.slice (some ⟨g, 0, none⟩) (n + 1) c') w' ∧ w'.ownsRow base 9 1 (.slice (some ⟨g, 0, none⟩) (n + 1) c') (n + 1) ((xs ++ [x]).map .string) ∧ w.grownBy w' v.ownBlock ∧ (some g = v.ownBlock ∨ w.heap.size ≤ g) := by
  obtain ⟨i, h1, h2, h3, h4⟩ := info9
  have hk := hown.kept (World.grownBy_alloc w (.cells #[.string x] 9) none) (by cases v.ownBlock <;> simp)
  obtain ⟨v', w', r1, r2, r3, _, r5⟩ := run_append_own_at (P := Tryd.prog) _ base 22 22 9 i (.string ⟨#[]⟩) 1 16 under22 h1 h4 h2 h3 rfl (by decide) v n _ hk ⟨w.heap.size, 0, none⟩ 1 1 [.string x] rfl (fun j u hu => by
      rw [Addr.add_mid, Nat.zero_add]
      refine (Has.newA w #[.string x] 9).cellv j _ ?_
      match j, hu with
      | 0, hu => exact hu
      | j + 1, hu => simp at hu) (fun u hu => by simp at hu; subst hu; rfl) (by unfold maxLen; omega) (by omega) (by rw [heap1]; omega)
  have e : xs.map Value.string ++ [.string x] = (xs ++ [x]).map Value.string := by simp
  rw [e] at r2
  obtain ⟨g, cap, _, rfl, _⟩ := own_row r2 (by omega)
  rw [heap1] at r5
  refine ⟨g, cap, w', r1, r2, (World.grownBy_alloc w (.cells #[.string x] 9) v.ownBlock).trans r3, ?_⟩
  rcases r5 with q | q
  · exact .inl q
  · have : g = w.heap.size + 1 := by simpa [Value.ownBlock] using q
    exact .inr (by omega)
/-- a reference's jar whose row is the call's own -/
structure RO (w : World) (kb base g cap : Nat) (ks : List ByteArray) : Prop where
  h : Has w kb [.slice (some ⟨g, 0, none⟩) ks.length cap] 71
  o : w.ownsRow base 9 1 (.slice (some ⟨g, 0, none⟩) ks.length cap) ks.length (ks.map .string)
  ne : kb ≠ g
theorem RO.rv {w : World} {kb base g cap : Nat} {ks : List ByteArray} (h : RO w kb base g cap ks) (hl : 0 < ks.length) : RV w kb (some ⟨g, 0, none⟩) cap ks := by
  refine ⟨h.h, rfl, fun _ => ?_⟩
  obtain ⟨g', cap', e, _, _, hc⟩ := own_str h.o hl
  injection e with e1 e2 e3
  injection e1 with e1
  injection e1 with e1
  subst e1
  exact ⟨g, 0, rfl, fun j p hp => by rw [Nat.zero_add]; exact hc j p hp⟩
theorem RO.grow {w w' : World} {kb base g cap : Nat} {ks : List ByteArray} (h : RO w kb base g cap ks) (gg : w.grownBy w' none) : RO w' kb base g cap ks := ⟨h.h.kept gg (by simp), h.o.kept gg (by simp [Value.ownBlock]), h.ne⟩
theorem RO.other {w w' : World} {kb base g cap x : Nat} {ks : List ByteArray} (h : RO w kb base g cap ks) (gg : w.grownBy w' (some x)) (h1 : kb ≠ x) (h2 : g ≠ x) : RO w' kb base g cap ks := ⟨h.h.kept gg (by simpa using h1), h.o.kept gg (by simpa [Value.ownBlock] using h2), h.ne⟩

set_option maxRecDepth 100000 in
set_option maxHeartbeats 8000000 in
theorem rturn_c (kb base g cap : Nat) (ks : List ByteArray) (c key : ByteArray) (x : Nat) (w : World) (h : RO w kb base g cap ks) (hk : RK w) (h3 : 3 ≤ w.heap.size) (hb : base ≤ w.heap.size) (hl : ks.length = x + 1) (hx2 : x < 990) (hx : ks[x]? = some key) (hks : key.size = 32) (hc : c.size ≤ 1073741000) :
    Calls Tryd.prog 35 #[.pointer (some ⟨kb, 0, none⟩), .string c] w fun e w' => e = .returned (.tuple #[]) ∧ ∃ g' cap', RO w' kb base g' cap' (ks ++ [deriveB key turnB [c]]) ∧ (g' = g ∨ w.heap.size ≤ g') ∧ ∃ w1, w.grownBy w1 (some g) ∧ w1.grownBy w' (some kb) := by
  have HH := Keep.mk (And.intro h (And.intro hk (And.intro hx (h.rv (by omega)))))
  have HKY : Keep (w.cell? ⟨kb, 0, none⟩ = some (.slice (some ⟨g, 0, none⟩) (x + 1) cap) ∧ w.cell? ⟨g, x, none⟩ = some (.string key)) := ⟨by rw [← hl]; exact h.h.cellv 0 _ rfl, by
    obtain ⟨B, o, e, hat⟩ := (h.rv (by omega)).s.at_ (by omega)
    injection e with e
    injection e with e1 e2
    subst e1 e2
    have := hat x key hx
    rwa [Nat.zero_add] at this⟩
  have HS : Keep ((saidB turnB [c]).size ≤ 2147483648) := ⟨by
    rw [saidB_size]
    simp only [Mac.said, Mac.flat, List.map_cons, List.map_nil, List.flatMap_cons, List.flatMap_nil, List.length_append, List.length_cons, List.length_nil, Mac.len8_len, sl_len]
    have : turnB.size = 4 := rfl
    omega⟩
  have hxx : (x : Int) < (x : Int) + 1 := by omega
  have hwx : IntKind.i64.wrap (x : Int) = (x : Int) := by unfold IntKind.wrap; simp [IntKind.signed, IntKind.bits]; omega
  clear h hk hx
  go_enter Tryd.func35, Tryd.ntmps35
  go_wp2_with fail
  have gg := gr_drewN w 1 none
  refine wp_region_held_drew (S := fun w' => w.grownBy w' none) (by kernel_rfl) gg (fun hHeld => ?_)
  generalize w.drew = w1 at hHeld ⊢
  clear gg
  refine wpAnyH_take (i := 0) (oi := _) (v := ?_) rfl (by kernel_rfl) (by kernel_rfl) (by kernel_rfl) (fun _ _ _ h => h) (Or.inl ⟨by rfl, ?_⟩) (by assumption) ?_
  rotate_left
  · (intro w hSw; go_simp; first | done | (with_reducible rfl))
  simp only [Act.put, List.getElem_toArray, List.getElem_cons_zero, List.setIfInBounds_toArray, List.set_cons_zero, List.set_cons_succ]
  refine wpAnyH_take (i := 1) (oi := _) (v := ?_) rfl (by kernel_rfl) (by kernel_rfl) (by kernel_rfl) (fun _ _ _ h => h) (Or.inl ⟨by rfl, ?_⟩) (by assumption) ?_
  rotate_left
  · (intro w hSw; go_simp; first | done | (with_reducible rfl))
  simp only [Act.put, List.getElem_toArray, List.getElem_cons_succ, List.getElem_cons_zero, List.setIfInBounds_toArray, List.set_cons_zero, List.set_cons_succ]
  refine wpAnyH_take (i := 2) (oi := _) (v := ?_) rfl (by kernel_rfl) (by kernel_rfl) (by kernel_rfl) (fun _ _ _ h => h) (Or.inl ⟨by rfl, ?_⟩) (by assumption) ?_
  rotate_left
  · (intro w hSw; go_simp; first | done | (with_reducible rfl))
  simp only [Act.put, List.getElem_toArray, List.getElem_cons_succ, List.getElem_cons_zero, List.setIfInBounds_toArray, List.set_cons_zero, List.set_cons_succ]
  refine wpAnyH_take (i := 3) (oi := _) (v := ?_) rfl (by kernel_rfl) (by kernel_rfl) (by kernel_rfl) (fun _ _ _ h => h) (Or.inl ⟨by rfl, ?_⟩) (by assumption) ?_
  rotate_left
  · (intro w hSw; have y1 := hSw.cell HKY.out.1 (by simp); have y2 := hSw.cell HKY.out.2 (by simp); clear hSw; go_simp; first | done | (with_reducible rfl))
  simp only [Act.put, List.getElem_toArray, List.getElem_cons_succ, List.getElem_cons_zero, List.setIfInBounds_toArray, List.set_cons_zero, List.set_cons_succ]
  refine wpAnyH_take (i := 4) (oi := _) (v := ?_) rfl (by kernel_rfl) (by kernel_rfl) (by kernel_rfl) (fun _ _ _ h => h) (Or.inl ⟨by rfl, ?_⟩) (by assumption) ?_
  rotate_left
  · (intro w hSw; go_simp; first | done | (with_reducible rfl))
  simp only [Act.put, List.getElem_toArray, List.getElem_cons_succ, List.getElem_cons_zero, List.setIfInBounds_toArray, List.set_cons_zero, List.set_cons_succ]
  refine wpAnyH_take (i := 5) (oi := _) (v := ?_) rfl (by kernel_rfl) (by kernel_rfl) (by kernel_rfl) (fun _ _ _ h => h) (Or.inl ⟨by rfl, ?_⟩) (by assumption) ?_
  rotate_left
  · (intro w hSw; go_simp; first | done | (with_reducible rfl))
  simp only [Act.put, List.getElem_toArray, List.getElem_cons_succ, List.getElem_cons_zero, List.setIfInBounds_toArray, List.set_cons_zero, List.set_cons_succ]
  refine wpAnyH_take (i := 6) (oi := _) (v := ?_) rfl (by kernel_rfl) (by kernel_rfl) (by kernel_rfl) (fun _ _ _ h => h) (Or.inl ⟨by rfl, ?_⟩) (by assumption) ?_
  rotate_left
  · (intro w hSw; go_simp; first | done | (with_reducible rfl))
  simp only [Act.put, List.getElem_toArray, List.getElem_cons_succ, List.getElem_cons_zero, List.setIfInBounds_toArray, List.set_cons_zero, List.set_cons_succ]
  refine wpAnyH_take (i := 7) (oi := _) (v := ?_) rfl (by kernel_rfl) (by kernel_rfl) (by kernel_rfl) (fun _ _ _ h => h) (Or.inl ⟨by rfl, ?_⟩) (by assumption) ?_
  rotate_left
  · (intro w hSw; have y1 := hSw.cell HKY.out.1 (by simp); have y2 := hSw.cell HKY.out.2 (by simp); clear hSw; go_simp; first | done | (with_reducible rfl))
  simp only [Act.put, List.getElem_toArray, List.getElem_cons_succ, List.getElem_cons_zero, List.setIfInBounds_toArray, List.set_cons_zero, List.set_cons_succ]
  refine wpAnyH_take (i := 8) (oi := _) (v := ?_) rfl (by kernel_rfl) (by kernel_rfl) (by kernel_rfl) (fun _ _ _ h => h) (Or.inl ⟨by rfl, ?_⟩) (by assumption) ?_
  rotate_left
  · (intro w hSw; go_simp; first | done | (with_reducible rfl))
  simp only [Act.put, List.getElem_toArray, List.getElem_cons_succ, List.getElem_cons_zero, List.setIfInBounds_toArray, List.set_cons_zero, List.set_cons_succ]
  refine wpAnyH_take (i := 9) (oi := _) (v := ?_) rfl (by kernel_rfl) (by kernel_rfl) (by kernel_rfl) (fun _ _ _ h => h) (Or.inl ⟨by rfl, ?_⟩) (by assumption) ?_
  rotate_left
  · (intro w hSw; go_simp; first | done | (with_reducible rfl))
  simp only [Act.put, List.getElem_toArray, List.getElem_cons_succ, List.getElem_cons_zero, List.setIfInBounds_toArray, List.set_cons_zero, List.set_cons_succ]
  refine wpAnyH_take (i := 10) (oi := _) (v := ?_) rfl (by kernel_rfl) (by kernel_rfl) (by kernel_rfl) (fun _ _ _ h => h) (Or.inl ⟨by rfl, ?_⟩) (by assumption) ?_
  rotate_left
  · (intro w hSw; go_simp; first | done | (with_reducible rfl))
  simp only [Act.put, List.getElem_toArray, List.getElem_cons_succ, List.getElem_cons_zero, List.setIfInBounds_toArray, List.set_cons_zero, List.set_cons_succ]
  refine wpAnyH_take (i := 11) (oi := _) (v := ?_) rfl (by kernel_rfl) (by kernel_rfl) (by kernel_rfl) (fun _ _ _ h => h) (Or.inl ⟨by rfl, ?_⟩) (by assumption) ?_
  rotate_left
  · (intro w hSw; have y1 := hSw.cell HKY.out.1 (by simp); have y2 := hSw.cell HKY.out.2 (by simp); clear hSw; go_simp; first | done | (with_reducible rfl))
  simp only [Act.put, List.getElem_toArray, List.getElem_cons_succ, List.getElem_cons_zero, List.setIfInBounds_toArray, List.set_cons_zero, List.set_cons_succ]
  refine wpAnyH_ready (rs := [12]) (by kernel_rfl) (by simp) ?_
  refine AllReadyH.cons rfl (fun K hK => ?_) AllReadyH.nil
  go_simp
  go_wp2_with fail
  refine hK.out _ _ hHeld (fun hHeld => ?_)
  clear hK K
  refine wpAnyH_done (by kernel_rfl) ?_ _
  have HG := Keep.mk hHeld
  clear hHeld
  go_wp2_with fail
  have gd := gr_drewN w1 1 none
  refine wp_region_held_drew (S := fun _ => True) (by kernel_rfl) trivial (fun hHeld => ?_)
  change w1.grownBy w1.drew none at gd
  generalize w1.drew = w2 at gd ⊢
  have HW := Keep.mk (HG.out.trans gd)
  clear gd HG
  refine wpAnyH_take (i := 0) (oi := _) (v := ?_) rfl (by kernel_rfl) (by kernel_rfl) (by kernel_rfl) (fun _ _ _ h => h) (Or.inl ⟨by rfl, ?_⟩) (by assumption) ?_
  rotate_left
  · (intro w hSw; go_simp; first | done | (with_reducible rfl))
  simp only [Act.put, List.getElem_toArray, List.getElem_cons_zero, List.setIfInBounds_toArray, List.set_cons_zero, List.set_cons_succ]
  refine wpAnyH_take (i := 1) (oi := _) (v := ?_) rfl (by kernel_rfl) (by kernel_rfl) (by kernel_rfl) (fun _ _ _ h => h) (Or.inl ⟨by rfl, ?_⟩) (by assumption) ?_
  rotate_left
  · (intro w hSw; go_simp; first | done | (with_reducible rfl))
  simp only [Act.put, List.getElem_toArray, List.getElem_cons_succ, List.getElem_cons_zero, List.setIfInBounds_toArray, List.set_cons_zero, List.set_cons_succ]
  refine wpAnyH_take (i := 2) (oi := _) (v := ?_) rfl (by kernel_rfl) (by kernel_rfl) (by kernel_rfl) (fun _ _ _ h => h) (Or.inl ⟨by rfl, ?_⟩) (by assumption) ?_
  rotate_left
  · (intro w hSw; go_simp; first | done | (with_reducible rfl))
  simp only [Act.put, List.getElem_toArray, List.getElem_cons_succ, List.getElem_cons_zero, List.setIfInBounds_toArray, List.set_cons_zero, List.set_cons_succ]
  refine wpAnyH_take (i := 3) (oi := _) (v := ?_) rfl (by kernel_rfl) (by kernel_rfl) (by kernel_rfl) (fun _ _ _ h => h) (Or.inl ⟨by rfl, ?_⟩) (by assumption) ?_
  rotate_left
  · (intro w hSw; go_simp; first | done | (with_reducible rfl))
  simp only [Act.put, List.getElem_toArray, List.getElem_cons_succ, List.getElem_cons_zero, List.setIfInBounds_toArray, List.set_cons_zero, List.set_cons_succ]
  refine wpAnyH_take (i := 5) (oi := _) (v := ?_) rfl (by kernel_rfl) (by kernel_rfl) (by kernel_rfl) (fun _ _ _ h => h) (Or.inl ⟨by rfl, ?_⟩) (by assumption) ?_
  rotate_left
  · (intro w hSw; go_simp; first | done | (with_reducible rfl))
  simp only [Act.put, List.getElem_toArray, List.getElem_cons_succ, List.getElem_cons_zero, List.setIfInBounds_toArray, List.set_cons_zero, List.set_cons_succ]
  refine wpAnyH_take (i := 6) (oi := _) (v := ?_) rfl (by kernel_rfl) (by kernel_rfl) (by kernel_rfl) (fun _ _ _ h => h) (Or.inl ⟨by rfl, ?_⟩) (by assumption) ?_
  rotate_left
  · (intro w hSw; go_simp; first | done | (with_reducible rfl))
  simp only [Act.put, List.getElem_toArray, List.getElem_cons_succ, List.getElem_cons_zero, List.setIfInBounds_toArray, List.set_cons_zero, List.set_cons_succ]
  refine wpAnyH_ready (rs := [4, 7]) (by kernel_rfl) (by simp) ?_
  refine AllReadyH.cons rfl (fun K hK => ?_) ?_
  · have y1 := HW.out.cell HKY.out.1 (by simp)
    go_simp
    go_wp2_with fail
    clear y1
    refine hK.out _ _ trivial (fun _ => ?_)
    clear hK K
    refine wpAnyH_ready (rs := [7]) (by kernel_rfl) (by simp) ?_
    refine AllReadyH.cons rfl (fun K hK => ?_) AllReadyH.nil
    go_simp
    go_wp2_with fail
    have hT := strs_new w2 [c]
    change Strs (w2.alloc (.cells #[.string c] 9)) (some ⟨w2.heap.size, 0, none⟩) 1 [c] at hT
    have gg := World.grownBy_alloc w2 (.cells #[.string c] 9) none
    generalize w2.alloc (.cells #[.string c] 9) = w3 at hT gg ⊢
    have HT := Keep.mk hT
    clear hT
    have HW2 := Keep.mk (HW.out.trans gg)
    clear HW gg
    have HW := HW2
    clear HW2
    refine hK.out _ _ trivial (fun _ => ?_)
    clear hK K
    refine wpAnyH_ready (rs := [8]) (by kernel_rfl) (by simp) ?_
    refine AllReadyH.cons rfl (fun K hK => ?_) AllReadyH.nil
    go_simp
    go_wp2_with fail
    refine (rderive_any key turnB _ 1 1 [c] _ (HH.out.2.1.kept HW.out) (Nat.le_trans h3 HW.out.size) HT.out (by omega) HS.out).mono ?_
    rintro e w4 ⟨rfl, gg⟩
    generalize hkn : deriveB key turnB [c] = kn
    have HKN := Keep.mk hkn
    clear hkn
    have HW2 := Keep.mk (HW.out.trans gg)
    clear HW gg HT
    have HW := HW2
    clear HW2
    refine hK.out _ _ trivial (fun _ => ?_)
    clear hK K
    refine wpAnyH_ready (rs := [9]) (by kernel_rfl) (by simp) ?_
    refine AllReadyH.cons rfl (fun K hK => ?_) AllReadyH.nil
    obtain ⟨g', c', w6, r1, r2, r3, r4⟩ := apps2 w4 base _ _ _ kn (HH.out.1.grow HW.out).o (by omega) (Nat.le_trans hb HW.out.size)
    rw [hl] at r1
    have HAP := Keep.mk r1
    have HR6 := Keep.mk (And.intro r2 (And.intro r3 r4))
    clear r1 r2 r3 r4
    go_simp
    go_wp2_with fail
    refine hK.out _ _ trivial (fun _ => ?_)
    clear hK K
    refine wpAnyH_ready (rs := [10]) (by kernel_rfl) (by simp) ?_
    refine AllReadyH.cons rfl (fun K hK => ?_) AllReadyH.nil
    rw [if_pos (by rfl)]
    refine wp_append_run _ _ 22 rfl _ _ rfl rfl HAP.out ?_
    refine hK.out _ _ trivial (fun _ => ?_)
    clear hK K
    refine wpAnyH_take (i := 11) (oi := _) (v := ?_) rfl (by kernel_rfl) (by kernel_rfl) (by kernel_rfl) (fun _ _ _ h => h) (Or.inl ⟨by rfl, ?_⟩) (by assumption) ?_
    rotate_left
    · (intro w hSw; go_simp; first | done | (with_reducible rfl))
    simp only [Act.put, List.getElem_toArray, List.getElem_cons_succ, List.getElem_cons_zero, List.setIfInBounds_toArray, List.set_cons_zero, List.set_cons_succ]
    refine wpAnyH_take (i := 12) (oi := _) (v := ?_) rfl (by kernel_rfl) (by kernel_rfl) (by kernel_rfl) (fun _ _ _ h => h) (Or.inl ⟨by rfl, ?_⟩) (by assumption) ?_
    rotate_left
    · (intro w hSw; go_simp; first | done | (with_reducible rfl))
    simp only [Act.put, List.getElem_toArray, List.getElem_cons_succ, List.getElem_cons_zero, List.setIfInBounds_toArray, List.set_cons_zero, List.set_cons_succ]
    refine wpAnyH_ready (rs := [13]) (by kernel_rfl) (by simp) ?_
    refine AllReadyH.cons rfl (fun K hK => ?_) AllReadyH.nil
    have hkk : Has w6 kb [.slice (some ⟨g, 0, none⟩) (x + 1) cap] 71 := by
      have := (HH.out.1.grow HW.out).h.kept HR6.out.2.1 (by simpa [Value.ownBlock] using HH.out.1.ne)
      rwa [hl] at this
    have c1 := hkk.cellv 0 _ rfl
    have c2 := hkk.frozen 0
    have HK6 := Keep.mk hkk
    clear hkk
    go_simp
    go_wp2_with fail
    refine hK.out _ _ trivial (fun _ => ?_)
    clear hK K
    refine wpAnyH_done (by kernel_rfl) ?_ _
    go_wp2_with fail
    go_end0
    rw [HKN.out]
    have hlen : (ks ++ [kn]).length = x + 1 + 1 := by rw [List.length_append, hl]; rfl
    have hr1 := HR6.out.1
    rw [hl] at hr1
    refine ⟨rfl, g', c', ⟨?_, ?_, ?_⟩, ?_, w6, (gr_weak HW.out (some g)).trans HR6.out.2.1, gr_set _ _ _ _⟩
    · have := HK6.out.setCell 0 (.slice (some ⟨g', 0, none⟩) (x + 1 + 1) c')
      rw [hlen]
      exact this
    · have h2 : kb ≠ g' := by
        rcases HR6.out.2.2 with e | e
        · have : g' = g := by simpa [Value.ownBlock] using e
          rw [this]; exact HH.out.1.ne
        · have := HH.out.1.h.lt; have := HW.out.size; omega
      rw [hlen]
      exact hr1.kept (gr_set _ _ _ _) (by simpa [Value.ownBlock] using fun e => h2 e.symm)
    · rcases HR6.out.2.2 with e | e
      · have : g' = g := by simpa [Value.ownBlock] using e
        rw [this]; exact HH.out.1.ne
      · have := HH.out.1.h.lt; have := HW.out.size; omega
    · rcases HR6.out.2.2 with e | e
      · exact .inl (by simpa [Value.ownBlock] using e)
      · exact .inr (Nat.le_trans HW.out.size e)
  refine AllReadyH.cons rfl (fun K hK => ?_) AllReadyH.nil
  go_simp
  go_wp2_with fail
  have hT := strs_new w2 [c]
  change Strs (w2.alloc (.cells #[.string c] 9)) (some ⟨w2.heap.size, 0, none⟩) 1 [c] at hT
  have gg := World.grownBy_alloc w2 (.cells #[.string c] 9) none
  generalize w2.alloc (.cells #[.string c] 9) = w3 at hT gg ⊢
  have HT := Keep.mk hT
  clear hT
  have HW2 := Keep.mk (HW.out.trans gg)
  clear HW gg
  have HW := HW2
  clear HW2
  refine hK.out _ _ trivial (fun _ => ?_)
  clear hK K
  refine wpAnyH_ready (rs := [4, 8]) (by kernel_rfl) (by simp) ?_
  refine AllReadyH.cons rfl (fun K hK => ?_) ?_
  · have y1 := HW.out.cell HKY.out.1 (by simp)
    go_simp
    go_wp2_with fail
    clear y1
    refine hK.out _ _ trivial (fun _ => ?_)
    clear hK K
    refine wpAnyH_ready (rs := [8]) (by kernel_rfl) (by simp) ?_
    refine AllReadyH.cons rfl (fun K hK => ?_) AllReadyH.nil
    go_simp
    go_wp2_with fail
    refine (rderive_any key turnB _ 1 1 [c] _ (HH.out.2.1.kept HW.out) (Nat.le_trans h3 HW.out.size) HT.out (by omega) HS.out).mono ?_
    rintro e w4 ⟨rfl, gg⟩
    generalize hkn : deriveB key turnB [c] = kn
    have HKN := Keep.mk hkn
    clear hkn
    have HW2 := Keep.mk (HW.out.trans gg)
    clear HW gg HT
    have HW := HW2
    clear HW2
    refine hK.out _ _ trivial (fun _ => ?_)
    clear hK K
    refine wpAnyH_ready (rs := [9]) (by kernel_rfl) (by simp) ?_
    refine AllReadyH.cons rfl (fun K hK => ?_) AllReadyH.nil
    obtain ⟨g', c', w6, r1, r2, r3, r4⟩ := apps2 w4 base _ _ _ kn (HH.out.1.grow HW.out).o (by omega) (Nat.le_trans hb HW.out.size)
    rw [hl] at r1
    have HAP := Keep.mk r1
    have HR6 := Keep.mk (And.intro r2 (And.intro r3 r4))
    clear r1 r2 r3 r4
    go_simp
    go_wp2_with fail
    refine hK.out _ _ trivial (fun _ => ?_)
    clear hK K
    refine wpAnyH_ready (rs := [10]) (by kernel_rfl) (by simp) ?_
    refine AllReadyH.cons rfl (fun K hK => ?_) AllReadyH.nil
    rw [if_pos (by rfl)]
    refine wp_append_run _ _ 22 rfl _ _ rfl rfl HAP.out ?_
    refine hK.out _ _ trivial (fun _ => ?_)
    clear hK K
    refine wpAnyH_take (i := 11) (oi := _) (v := ?_) rfl (by kernel_rfl) (by kernel_rfl) (by kernel_rfl) (fun _ _ _ h => h) (Or.inl ⟨by rfl, ?_⟩) (by assumption) ?_
    rotate_left
    · (intro w hSw; go_simp; first | done | (with_reducible rfl))
    simp only [Act.put, List.getElem_toArray, List.getElem_cons_succ, List.getElem_cons_zero, List.setIfInBounds_toArray, List.set_cons_zero, List.set_cons_succ]
    refine wpAnyH_take (i := 12) (oi := _) (v := ?_) rfl (by kernel_rfl) (by kernel_rfl) (by kernel_rfl) (fun _ _ _ h => h) (Or.inl ⟨by rfl, ?_⟩) (by assumption) ?_
    rotate_left
    · (intro w hSw; go_simp; first | done | (with_reducible rfl))
    simp only [Act.put, List.getElem_toArray, List.getElem_cons_succ, List.getElem_cons_zero, List.setIfInBounds_toArray, List.set_cons_zero, List.set_cons_succ]
    refine wpAnyH_ready (rs := [13]) (by kernel_rfl) (by simp) ?_
    refine AllReadyH.cons rfl (fun K hK => ?_) AllReadyH.nil
    have hkk : Has w6 kb [.slice (some ⟨g, 0, none⟩) (x + 1) cap] 71 := by
      have := (HH.out.1.grow HW.out).h.kept HR6.out.2.1 (by simpa [Value.ownBlock] using HH.out.1.ne)
      rwa [hl] at this
    have c1 := hkk.cellv 0 _ rfl
    have c2 := hkk.frozen 0
    have HK6 := Keep.mk hkk
    clear hkk
    go_simp
    go_wp2_with fail
    refine hK.out _ _ trivial (fun _ => ?_)
    clear hK K
    refine wpAnyH_done (by kernel_rfl) ?_ _
    go_wp2_with fail
    go_end0
    rw [HKN.out]
    have hlen : (ks ++ [kn]).length = x + 1 + 1 := by rw [List.length_append, hl]; rfl
    have hr1 := HR6.out.1
    rw [hl] at hr1
    refine ⟨rfl, g', c', ⟨?_, ?_, ?_⟩, ?_, w6, (gr_weak HW.out (some g)).trans HR6.out.2.1, gr_set _ _ _ _⟩
    · have := HK6.out.setCell 0 (.slice (some ⟨g', 0, none⟩) (x + 1 + 1) c')
      rw [hlen]
      exact this
    · have h2 : kb ≠ g' := by
        rcases HR6.out.2.2 with e | e
        · have : g' = g := by simpa [Value.ownBlock] using e
          rw [this]; exact HH.out.1.ne
        · have := HH.out.1.h.lt; have := HW.out.size; omega
      rw [hlen]
      exact hr1.kept (gr_set _ _ _ _) (by simpa [Value.ownBlock] using fun e => h2 e.symm)
    · rcases HR6.out.2.2 with e | e
      · have : g' = g := by simpa [Value.ownBlock] using e
        rw [this]; exact HH.out.1.ne
      · have := HH.out.1.h.lt; have := HW.out.size; omega
    · rcases HR6.out.2.2 with e | e
      · exact .inl (by simpa [Value.ownBlock] using e)
      · exact .inr (Nat.le_trans HW.out.size e)
  refine AllReadyH.cons rfl (fun K hK => ?_) AllReadyH.nil
  go_simp
  go_wp2_with fail
  refine (rderive_any key turnB _ 1 1 [c] _ (HH.out.2.1.kept HW.out) (Nat.le_trans h3 HW.out.size) HT.out (by omega) HS.out).mono ?_
  rintro e w4 ⟨rfl, gg⟩
  generalize hkn : deriveB key turnB [c] = kn
  have HKN := Keep.mk hkn
  clear hkn
  have HW2 := Keep.mk (HW.out.trans gg)
  clear HW gg HT
  have HW := HW2
  clear HW2
  refine hK.out _ _ trivial (fun _ => ?_)
  clear hK K
  refine wpAnyH_ready (rs := [4, 9]) (by kernel_rfl) (by simp) ?_
  refine AllReadyH.cons rfl (fun K hK => ?_) ?_
  · have y1 := HW.out.cell HKY.out.1 (by simp)
    go_simp
    go_wp2_with fail
    clear y1
    refine hK.out _ _ trivial (fun _ => ?_)
    clear hK K
    refine wpAnyH_ready (rs := [9]) (by kernel_rfl) (by simp) ?_
    refine AllReadyH.cons rfl (fun K hK => ?_) AllReadyH.nil
    obtain ⟨g', c', w6, r1, r2, r3, r4⟩ := apps2 w4 base _ _ _ kn (HH.out.1.grow HW.out).o (by omega) (Nat.le_trans hb HW.out.size)
    rw [hl] at r1
    have HAP := Keep.mk r1
    have HR6 := Keep.mk (And.intro r2 (And.intro r3 r4))
    clear r1 r2 r3 r4
    go_simp
    go_wp2_with fail
    refine hK.out _ _ trivial (fun _ => ?_)
    clear hK K
    refine wpAnyH_ready (rs := [10]) (by kernel_rfl) (by simp) ?_
    refine AllReadyH.cons rfl (fun K hK => ?_) AllReadyH.nil
    rw [if_pos (by rfl)]
    refine wp_append_run _ _ 22 rfl _ _ rfl rfl HAP.out ?_
    refine hK.out _ _ trivial (fun _ => ?_)
    clear hK K
    refine wpAnyH_take (i := 11) (oi := _) (v := ?_) rfl (by kernel_rfl) (by kernel_rfl) (by kernel_rfl) (fun _ _ _ h => h) (Or.inl ⟨by rfl, ?_⟩) (by assumption) ?_
    rotate_left
    · (intro w hSw; go_simp; first | done | (with_reducible rfl))
    simp only [Act.put, List.getElem_toArray, List.getElem_cons_succ, List.getElem_cons_zero, List.setIfInBounds_toArray, List.set_cons_zero, List.set_cons_succ]
    refine wpAnyH_take (i := 12) (oi := _) (v := ?_) rfl (by kernel_rfl) (by kernel_rfl) (by kernel_rfl) (fun _ _ _ h => h) (Or.inl ⟨by rfl, ?_⟩) (by assumption) ?_
    rotate_left
    · (intro w hSw; go_simp; first | done | (with_reducible rfl))
    simp only [Act.put, List.getElem_toArray, List.getElem_cons_succ, List.getElem_cons_zero, List.setIfInBounds_toArray, List.set_cons_zero, List.set_cons_succ]
    refine wpAnyH_ready (rs := [13]) (by kernel_rfl) (by simp) ?_
    refine AllReadyH.cons rfl (fun K hK => ?_) AllReadyH.nil
    have hkk : Has w6 kb [.slice (some ⟨g, 0, none⟩) (x + 1) cap] 71 := by
      have := (HH.out.1.grow HW.out).h.kept HR6.out.2.1 (by simpa [Value.ownBlock] using HH.out.1.ne)
      rwa [hl] at this
    have c1 := hkk.cellv 0 _ rfl
    have c2 := hkk.frozen 0
    have HK6 := Keep.mk hkk
    clear hkk
    go_simp
    go_wp2_with fail
    refine hK.out _ _ trivial (fun _ => ?_)
    clear hK K
    refine wpAnyH_done (by kernel_rfl) ?_ _
    go_wp2_with fail
    go_end0
    rw [HKN.out]
    have hlen : (ks ++ [kn]).length = x + 1 + 1 := by rw [List.length_append, hl]; rfl
    have hr1 := HR6.out.1
    rw [hl] at hr1
    refine ⟨rfl, g', c', ⟨?_, ?_, ?_⟩, ?_, w6, (gr_weak HW.out (some g)).trans HR6.out.2.1, gr_set _ _ _ _⟩
    · have := HK6.out.setCell 0 (.slice (some ⟨g', 0, none⟩) (x + 1 + 1) c')
      rw [hlen]
      exact this
    · have h2 : kb ≠ g' := by
        rcases HR6.out.2.2 with e | e
        · have : g' = g := by simpa [Value.ownBlock] using e
          rw [this]; exact HH.out.1.ne
        · have := HH.out.1.h.lt; have := HW.out.size; omega
      rw [hlen]
      exact hr1.kept (gr_set _ _ _ _) (by simpa [Value.ownBlock] using fun e => h2 e.symm)
    · rcases HR6.out.2.2 with e | e
      · have : g' = g := by simpa [Value.ownBlock] using e
        rw [this]; exact HH.out.1.ne
      · have := HH.out.1.h.lt; have := HW.out.size; omega
    · rcases HR6.out.2.2 with e | e
      · exact .inl (by simpa [Value.ownBlock] using e)
      · exact .inr (Nat.le_trans HW.out.size e)
  refine AllReadyH.cons rfl (fun K hK => ?_) AllReadyH.nil
  obtain ⟨g', c', w6, r1, r2, r3, r4⟩ := apps2 w4 base _ _ _ kn (HH.out.1.grow HW.out).o (by omega) (Nat.le_trans hb HW.out.size)
  rw [hl] at r1
  have HAP := Keep.mk r1
  have HR6 := Keep.mk (And.intro r2 (And.intro r3 r4))
  clear r1 r2 r3 r4
  go_simp
  go_wp2_with fail
  refine hK.out _ _ trivial (fun _ => ?_)
  clear hK K
  refine wpAnyH_ready (rs := [4]) (by kernel_rfl) (by simp) ?_
  refine AllReadyH.cons rfl (fun K hK => ?_) AllReadyH.nil
  have y1 := (HW.out.trans (World.grownBy_alloc w4 (.cells #[.string kn] 9) none)).cell HKY.out.1 (by simp)
  go_simp
  go_wp2_with fail
  clear y1
  refine hK.out _ _ trivial (fun _ => ?_)
  clear hK K
  refine wpAnyH_ready (rs := [10]) (by kernel_rfl) (by simp) ?_
  refine AllReadyH.cons rfl (fun K hK => ?_) AllReadyH.nil
  rw [if_pos (by rfl)]
  refine wp_append_run _ _ 22 rfl _ _ rfl rfl HAP.out ?_
  refine hK.out _ _ trivial (fun _ => ?_)
  clear hK K
  refine wpAnyH_take (i := 11) (oi := _) (v := ?_) rfl (by kernel_rfl) (by kernel_rfl) (by kernel_rfl) (fun _ _ _ h => h) (Or.inl ⟨by rfl, ?_⟩) (by assumption) ?_
  rotate_left
  · (intro w hSw; go_simp; first | done | (with_reducible rfl))
  simp only [Act.put, List.getElem_toArray, List.getElem_cons_succ, List.getElem_cons_zero, List.setIfInBounds_toArray, List.set_cons_zero, List.set_cons_succ]
  refine wpAnyH_take (i := 12) (oi := _) (v := ?_) rfl (by kernel_rfl) (by kernel_rfl) (by kernel_rfl) (fun _ _ _ h => h) (Or.inl ⟨by rfl, ?_⟩) (by assumption) ?_
  rotate_left
  · (intro w hSw; go_simp; first | done | (with_reducible rfl))
  simp only [Act.put, List.getElem_toArray, List.getElem_cons_succ, List.getElem_cons_zero, List.setIfInBounds_toArray, List.set_cons_zero, List.set_cons_succ]
  refine wpAnyH_ready (rs := [13]) (by kernel_rfl) (by simp) ?_
  refine AllReadyH.cons rfl (fun K hK => ?_) AllReadyH.nil
  have hkk : Has w6 kb [.slice (some ⟨g, 0, none⟩) (x + 1) cap] 71 := by
    have := (HH.out.1.grow HW.out).h.kept HR6.out.2.1 (by simpa [Value.ownBlock] using HH.out.1.ne)
    rwa [hl] at this
  have c1 := hkk.cellv 0 _ rfl
  have c2 := hkk.frozen 0
  have HK6 := Keep.mk hkk
  clear hkk
  go_simp
  go_wp2_with fail
  refine hK.out _ _ trivial (fun _ => ?_)
  clear hK K
  refine wpAnyH_done (by kernel_rfl) ?_ _
  go_wp2_with fail
  go_end0
  rw [HKN.out]
  have hlen : (ks ++ [kn]).length = x + 1 + 1 := by rw [List.length_append, hl]; rfl
  have hr1 := HR6.out.1
  rw [hl] at hr1
  refine ⟨rfl, g', c', ⟨?_, ?_, ?_⟩, ?_, w6, (gr_weak HW.out (some g)).trans HR6.out.2.1, gr_set _ _ _ _⟩
  · have := HK6.out.setCell 0 (.slice (some ⟨g', 0, none⟩) (x + 1 + 1) c')
    rw [hlen]
    exact this
  · have h2 : kb ≠ g' := by
      rcases HR6.out.2.2 with e | e
      · have : g' = g := by simpa [Value.ownBlock] using e
        rw [this]; exact HH.out.1.ne
      · have := HH.out.1.h.lt; have := HW.out.size; omega
    rw [hlen]
    exact hr1.kept (gr_set _ _ _ _) (by simpa [Value.ownBlock] using fun e => h2 e.symm)
  · rcases HR6.out.2.2 with e | e
    · have : g' = g := by simpa [Value.ownBlock] using e
      rw [this]; exact HH.out.1.ne
    · have := HH.out.1.h.lt; have := HW.out.size; omega
  · rcases HR6.out.2.2 with e | e
    · exact .inl (by simpa [Value.ownBlock] using e)
    · exact .inr (Nat.le_trans HW.out.size e)
end Go.Proofs.YtbmnlhmelbhjeaaDoor
