import Derived.Test.YtldnpebnpbahjaaGreatDoorCA7
/- client.Hear -/
namespace Go.Proofs.YtldnpebnpbahjaaGreatDoor.Pk.Sn
open Go Go.RowKit

theorem okd_came {D : Dg} (h : Okd D) : Came D := ⟨h.f, h.n, h.c, h.m, h.s, h.dt⟩
theorem nxt_c (cb : Nat) (C : Cl) (data : ByteArray) (D : Dg) (w : World) (hk : Kc w) (hh : Has w cb C.cs 83) (hc : C.ok) (hd : Came D) (hds : data.size ≤ 281474976710656) :
    Calls Tryz.prog C.st #[pa cb 0, .agg (hcs data D).toArray] w fun e w' => e = .returned (.tuple #[.string (nxtS C data D).1, iv (nxtS C data D).2.1]) ∧ Has w' cb (nxtS C data D).2.2.cs 83 ∧ w.grownBy w' (some cb) := by
  unfold nxtS
  rcases hc.st with h | h | h
  · rw [h, if_neg (by decide), if_neg (by decide)]
    exact silent_c cb C data D w hk hh hc hd hds
  · rw [h, if_pos rfl]
    exact greeted_c cb C data D w hk hh hc hd hds
  · rw [h, if_neg (by decide), if_pos rfl]
    exact playing_c cb C data D w hk hh hc hd hds
set_option maxRecDepth 100000 in
theorem builtHe (s : ByteArray) (D : Dg) : Tryz.prog.built 93 [(0, .string s), (1, .agg D.cells.toArray)] = some (hcs s D).toArray := by
  unfold hcs Dg.cells
  kernel_rfl
theorem ent_st {C : Cl} (h : C.ok) : Enters C.st := by
  rcases h.st with h | h | h
  all_goals (rw [h]; intro a W; kernel_rfl)
set_option maxHeartbeats 8000000 in
set_option maxRecDepth 100000 in
theorem hear_c (cb : Nat) (C : Cl) (data : ByteArray) (w : World) (hk : Kc w) (hh : Has w cb C.cs 83) (hc : C.ok) (hds : data.size ≤ 281474976710656) :
    Calls Tryz.prog 15 #[pa cb 0, .string data] w fun e w' => e = .returned (.tuple #[.string (heaS C data).1, iv (heaS C data).2.1]) ∧ Has w' cb (heaS C data).2.2.cs 83 ∧ w.grownBy w' (some cb) := by
  obtain ⟨du, hdu, hdr⟩ := under26
  obtain ⟨X, hX⟩ : ∃ q, heaS C data = q := ⟨_, rfl⟩
  rw [hX]
  unfold heaS at hX
  have HK := Keep.mk (And.intro hk (And.intro hh (And.intro hc hds)))
  have HDE := Keep.mk (decode_c data w (by omega))
  have HOK : Keep ((dec (sl data)).2 = 0 → Came (dec (sl data)).1) := ⟨fun h => okd_came (dec_back h).2.2.1⟩
  obtain ⟨R, hR⟩ : ∃ q, dec (sl data) = q := ⟨_, rfl⟩
  rw [hR] at hX HDE HOK
  obtain ⟨D, cd⟩ := R
  have HX := Keep.mk hX
  have hcb := hh.lt
  clear hk hh hc hX hR
  go_enter Tryz.func15, Tryz.ntmps15
  go_wp2_with fail
  refine HDE.out.mono ?_
  rintro e w1 ⟨rfl, g1⟩
  unfold dv
  obtain ⟨w2, hw2⟩ : ∃ q, w1.alloc (.cells D.cells.toArray 34) = q := ⟨_, rfl⟩
  obtain ⟨h2, g2, s2⟩ := hasN hw2
  have H2 : Keep (Has w2 w1.heap.size D.cells 34 ∧ Has w2 cb C.cs 83 ∧ w.grownBy w2 none ∧ Kc w2) := ⟨h2, (HK.out.2.1.kept g1 (by simp)).kept g2 (by simp), g1.trans g2, (HK.out.1.kept g1 (by simp)).kept g2 (by simp)⟩
  have e0 := H2.out.1.cellv 0 _ rfl
  have c3 := H2.out.2.1.cellv 3 _ rfl
  unfold Dg.cells at hw2
  clear h2 g2 s2 g1 HDE
  by_cases hz : cd = 0
  rotate_left
  · have q1 : (cd != 0) = true := by simp [hz]
    have hX := HX.out
    rw [if_pos hz] at hX
    subst hX
    clear hz HX
    go_wp2_with fail
    go_ret2
    exact ⟨rfl, H2.out.2.1, gr_weak H2.out.2.2.1 _⟩
  have hX := HX.out
  rw [if_neg (by simp [hz])] at hX
  have HD := Keep.mk (HOK.out hz)
  clear HX HOK
  subst hz
  by_cases k : D.kind = 1 ∨ D.kind = 3 ∨ D.kind = 5
  · rw [if_pos k] at hX
    subst hX
    rcases k with k | k | k
    · have q1 : (D.kind == 1) = true := by simp [k]
      clear k
      go_wp2_with fail
      go_ret2
      exact ⟨rfl, H2.out.2.1, gr_weak H2.out.2.2.1 _⟩
    · have q1 : (D.kind == 1) = false := by simp [k]
      have q3 : (D.kind == 3) = true := by simp [k]
      clear k
      go_wp2_with fail
      go_ret2
      exact ⟨rfl, H2.out.2.1, gr_weak H2.out.2.2.1 _⟩
    · have q1 : (D.kind == 1) = false := by simp [k]
      have q3 : (D.kind == 3) = false := by simp [k]
      have q5 : (D.kind == 5) = true := by simp [k]
      clear k
      go_wp2_with fail
      go_ret2
      exact ⟨rfl, H2.out.2.1, gr_weak H2.out.2.2.1 _⟩
  rw [if_neg k] at hX
  subst hX
  have q1 : (D.kind == 1) = false := by simp; exact fun e => k (.inl e)
  have q3 : (D.kind == 3) = false := by simp; exact fun e => k (.inr (.inl e))
  have q5 : (D.kind == 5) = false := by simp; exact fun e => k (.inr (.inr e))
  clear k
  have HN : Keep (∀ w3 : World, Kc w3 → Has w3 cb C.cs 83 → Calls Tryz.prog C.st #[pa cb 0, .agg (hcs data D).toArray] w3 fun e w' => e = .returned (.tuple #[.string (nxtS C data D).1, iv (nxtS C data D).2.1]) ∧ Has w' cb (nxtS C data D).2.2.cs 83 ∧ w3.grownBy w' (some cb)) := ⟨fun w3 hk hh => nxt_c cb C data D w3 hk hh HK.out.2.2.1 HD.out HK.out.2.2.2⟩
  have HB := Keep.mk (builtHe data D)
  have hen := ent_st HK.out.2.2.1
  have H3 : Keep (Has w2.drew w1.heap.size D.cells 34 ∧ Has w2.drew cb C.cs 83 ∧ w.grownBy w2.drew none ∧ Kc w2.drew) := ⟨H2.out.1.kept (gr_drew _ none) (by simp), H2.out.2.1.kept (gr_drew _ none) (by simp), H2.out.2.2.1.trans (gr_drew _ none), H2.out.2.2.2.kept (gr_drew _ none) (by simp)⟩
  clear H2 HK HD
  go_wp2_with fail
  refine region_Y (S := fun w' => w'.cell? ⟨cb, 3, none⟩ = some (fv C.st)) [8] (by kernel_rfl) ?_
  have hHeld := (gr_drew w2 none).cell c3 (by simp)
  refine wpAnyY_pure (i := 0) (oi := _) (v := ?_) rfl (by kernel_rfl) (by kernel_rfl) (by kernel_rfl) (by kernel_rfl) (fun _ _ _ h => h) (Or.inl ⟨by rfl, ?_⟩) ?_
  rotate_left
  · (intro w hSw; go_simp; first | done | (with_reducible rfl))
  simp only [Act.put, List.getElem_toArray, List.getElem_cons_zero, List.setIfInBounds_toArray, List.set_cons_zero, List.set_cons_succ]
  refine wpAnyY_pure (i := 1) (oi := _) (v := ?_) rfl (by kernel_rfl) (by kernel_rfl) (by kernel_rfl) (by kernel_rfl) (fun _ _ _ h => h) (Or.inl ⟨by rfl, ?_⟩) ?_
  rotate_left
  · (intro w hSw; go_simp; first | done | (with_reducible rfl))
  simp only [Act.put, List.getElem_toArray, List.getElem_cons_succ, List.getElem_cons_zero, List.setIfInBounds_toArray, List.set_cons_zero, List.set_cons_succ]
  refine wpAnyY_pure (i := 2) (oi := _) (v := ?_) rfl (by kernel_rfl) (by kernel_rfl) (by kernel_rfl) (by kernel_rfl) (fun _ _ _ h => h) (Or.inl ⟨by rfl, ?_⟩) ?_
  rotate_left
  · (intro w hSw; go_simp; first | done | (with_reducible rfl))
  simp only [Act.put, List.getElem_toArray, List.getElem_cons_succ, List.getElem_cons_zero, List.setIfInBounds_toArray, List.set_cons_zero, List.set_cons_succ]
  refine wpAnyY_take (i := 3) (oi := _) (v := ?_) rfl (by kernel_rfl) (by kernel_rfl) (by kernel_rfl) (by kernel_rfl) (by kernel_rfl) (fun _ _ _ h => h) (Or.inl ⟨by rfl, ?_⟩) (by assumption) ?_
  rotate_left
  · (intro w hSw; have k := hSw; go_simp; first | done | (with_reducible rfl))
  simp only [Act.put, List.getElem_toArray, List.getElem_cons_succ, List.getElem_cons_zero, List.setIfInBounds_toArray, List.set_cons_zero, List.set_cons_succ]
  refine wpAnyY_pure (i := 4) (oi := _) (v := ?_) rfl (by kernel_rfl) (by kernel_rfl) (by kernel_rfl) (by kernel_rfl) (fun _ _ _ h => h) (Or.inl ⟨by rfl, ?_⟩) ?_
  rotate_left
  · (intro w hSw; go_simp; first | done | (with_reducible rfl))
  simp only [Act.put, List.getElem_toArray, List.getElem_cons_succ, List.getElem_cons_zero, List.setIfInBounds_toArray, List.set_cons_zero, List.set_cons_succ]
  refine wpAnyY_pure (i := 5) (oi := _) (v := ?_) rfl (by kernel_rfl) (by kernel_rfl) (by kernel_rfl) (by kernel_rfl) (fun _ _ _ h => h) (Or.inl ⟨by rfl, ?_⟩) ?_
  rotate_left
  · (intro w hSw; go_simp; first | done | (with_reducible rfl))
  simp only [Act.put, List.getElem_toArray, List.getElem_cons_succ, List.getElem_cons_zero, List.setIfInBounds_toArray, List.set_cons_zero, List.set_cons_succ]
  refine wpAnyY_one (i := 6) (by kernel_rfl) rfl (fun K hK => ?_)
  rw [if_pos (show Region.wanted _ _ = true from rfl)]
  refine wp_load_mid 34 _ rfl w1.heap.size 0 rfl D.cells du H3.out.1.range hdu hdr info26 ?_
  refine hK.out _ _ (fun h => h) ?_
  clear hK K
  simp only [Act.put, List.getElem_toArray, List.getElem_cons_succ, List.getElem_cons_zero, List.setIfInBounds_toArray, List.set_cons_zero, List.set_cons_succ]
  refine wpAnyY_pure (i := 7) (oi := _) (v := .agg (hcs data D).toArray) rfl (by kernel_rfl) (by kernel_rfl) (by kernel_rfl) (by kernel_rfl) (fun _ _ _ h => h) (yieldsIf_build (by rfl) 93 _ rfl _ ((congrArg (Tryz.prog.built 93) (by simp only [List.map_toArray, List.map_cons, List.map_nil]; rfl)).trans HB.out)) ?_
  simp only [Act.put, List.getElem_toArray, List.getElem_cons_succ, List.getElem_cons_zero, List.setIfInBounds_toArray, List.set_cons_zero, List.set_cons_succ]
  refine wpAnyY_late (i := 8) (by kernel_rfl) rfl (by kernel_rfl) (fun K hK => ?_)
  go_simp
  refine (HN.out _ H3.out.2.2.2 H3.out.2.1).mono ?_
  rintro e w3 ⟨rfl, h3, g3⟩
  have H4 := Keep.mk (And.intro h3 ((gr_weak H3.out.2.2.1 (some cb)).trans g3))
  refine hK.out _ _ ?_
  clear hK K h3 g3
  refine wpAnyY_pure (i := 9) (oi := _) (v := ?_) rfl (by kernel_rfl) (by kernel_rfl) (by kernel_rfl) (by kernel_rfl) (fun _ _ _ h => h) (Or.inl ⟨by rfl, ?_⟩) ?_
  rotate_left
  · (intro w hSw; go_simp; first | done | (with_reducible rfl))
  simp only [Act.put, List.getElem_toArray, List.getElem_cons_succ, List.getElem_cons_zero, List.setIfInBounds_toArray, List.set_cons_zero, List.set_cons_succ]
  refine wpAnyY_pure (i := 10) (oi := _) (v := ?_) rfl (by kernel_rfl) (by kernel_rfl) (by kernel_rfl) (by kernel_rfl) (fun _ _ _ h => h) (Or.inl ⟨by rfl, ?_⟩) ?_
  rotate_left
  · (intro w hSw; go_simp; first | done | (with_reducible rfl))
  simp only [Act.put, List.getElem_toArray, List.getElem_cons_succ, List.getElem_cons_zero, List.setIfInBounds_toArray, List.set_cons_zero, List.set_cons_succ]
  refine wpAnyY_one (i := 11) (by kernel_rfl) rfl (fun K hK => ?_)
  go_simp
  refine hK.out _ _ (fun h => h) ?_
  clear hK K
  refine wpAnyY_one (i := 12) (by kernel_rfl) rfl (fun K hK => ?_)
  go_simp
  refine hK.out _ _ (fun h => h) ?_
  clear hK K
  refine wpAnyY_done (by kernel_rfl) ?_ _

  go_wp2_with fail
  go_ret2
  exact ⟨rfl, H4.out⟩
end Go.Proofs.YtldnpebnpbahjaaGreatDoor.Pk.Sn
