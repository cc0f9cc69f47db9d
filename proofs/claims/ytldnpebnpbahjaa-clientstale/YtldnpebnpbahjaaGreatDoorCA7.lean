import Derived.Test.YtldnpebnpbahjaaGreatDoorCA6
/- what a client hears -/
namespace Go.Proofs.YtldnpebnpbahjaaGreatDoor.Pk.Sn
open Go Go.RowKit

theorem nonce_eq {a b : ByteArray} : (a.toList == b.toList) = decide (a = b) := by
  by_cases h : a = b
  · subst h; simp
  · have : ¬ a.toList = b.toList := fun e => h (by
      apply ByteArray.ext
      have := congrArg List.toArray e
      rw [ByteArray.toList_eq, ByteArray.toList_eq] at e
      exact Array.toList_inj.1 e)
    simp [h, this]
theorem gre_1 {C : Cl} {data : ByteArray} {D : Dg} (h : ¬ D.nonce = C.nc) : greS C data D = (nob, 240, C) := by unfold greS; rw [if_neg (fun q => h q.1), if_neg (fun q => h q.1)]
theorem gre_2 {C : Cl} {data : ByteArray} {D : Dg} (h : D.nonce = C.nc) (k : D.kind = 2) : greS C data D = ((sealD (conD C D) C.sc).1, (sealD (conD C D) C.sc).2, C) := by unfold greS; rw [if_pos ⟨h, k⟩]
theorem gre_3 {C : Cl} {data : ByteArray} {D : Dg} (h : D.nonce = C.nc) (k : D.kind = 4) : greS C data D = (nob, (begS C data D).2, (begS C data D).1) := by unfold greS; rw [if_neg (fun q => by have := q.2; omega), if_pos ⟨h, k⟩]
theorem gre_4 {C : Cl} {data : ByteArray} {D : Dg} (k : ¬ D.kind = 2) (k2 : ¬ D.kind = 4) : greS C data D = (nob, 240, C) := by unfold greS; rw [if_neg (fun q => k q.2), if_neg (fun q => k2 q.2)]
set_option maxHeartbeats 8000000 in
set_option maxRecDepth 100000 in
theorem silent_c (cb : Nat) (C : Cl) (data : ByteArray) (D : Dg) (w : World) (hk : Kc w) (hh : Has w cb C.cs 83) (hc : C.ok) (hd : Came D) (hds : data.size ≤ 281474976710656) :
    Calls Tryz.prog 52 #[pa cb 0, .agg (hcs data D).toArray] w fun e w' => e = .returned (.tuple #[.string ((nob, (240 : Int), C)).1, iv ((nob, (240 : Int), C)).2.1]) ∧ Has w' cb ((nob, (240 : Int), C)).2.2.cs 83 ∧ w.grownBy w' (some cb) := by
  obtain ⟨dh, hdh, hdr⟩ := underH
  obtain ⟨w0, hw0⟩ : ∃ q, w.alloc (.cells (hcs data D).toArray 93) = q := ⟨_, rfl⟩
  obtain ⟨h0, g0, s0⟩ := hasN hw0
  have hcb := hh.lt
  have HC : Keep (Has w0 cb C.cs 83) := ⟨hh.kept g0 (by simp)⟩
  have H0 : Keep (Has w0 w.heap.size (hcs data D) 93) := ⟨h0⟩
  have HK := Keep.mk (And.intro (hk.kept g0 (by simp)) (And.intro hc (And.intro hd hds)))
  have HG := Keep.mk (And.intro g0 (show w.heap.size ≠ cb by omega))
  clear h0 g0 s0 hk hc hd hds hcb
  unfold hcs Dg.cells at hw0 ⊢
  go_enter Tryz.func52, Tryz.ntmps52
  go_wp2_with fail
  go_ret2
  exact ⟨rfl, HC.out, gr_weak HG.out.1 _⟩
set_option maxHeartbeats 8000000 in
set_option maxRecDepth 100000 in
theorem greeted_c (cb : Nat) (C : Cl) (data : ByteArray) (D : Dg) (w : World) (hk : Kc w) (hh : Has w cb C.cs 83) (hc : C.ok) (hd : Came D) (hds : data.size ≤ 281474976710656) :
    Calls Tryz.prog 54 #[pa cb 0, .agg (hcs data D).toArray] w fun e w' => e = .returned (.tuple #[.string (greS C data D).1, iv (greS C data D).2.1]) ∧ Has w' cb (greS C data D).2.2.cs 83 ∧ w.grownBy w' (some cb) := by
  obtain ⟨dh, hdh, hdr⟩ := underH
  obtain ⟨w0, hw0⟩ : ∃ q, w.alloc (.cells (hcs data D).toArray 93) = q := ⟨_, rfl⟩
  obtain ⟨h0, g0, s0⟩ := hasN hw0
  have hcb := hh.lt
  have HC : Keep (Has w0 cb C.cs 83) := ⟨hh.kept g0 (by simp)⟩
  have H0 : Keep (Has w0 w.heap.size (hcs data D) 93) := ⟨h0⟩
  have HK := Keep.mk (And.intro (hk.kept g0 (by simp)) (And.intro hc (And.intro hd hds)))
  have HG := Keep.mk (And.intro g0 (show w.heap.size ≠ cb by omega))
  have e2 : w0.cell? ⟨w.heap.size, 2, none⟩ = some (.string D.nonce) := h0.cellv 2 _ rfl
  have e1 : w0.cell? ⟨w.heap.size, 1, none⟩ = some (iv D.kind) := h0.cellv 1 _ rfl
  have c2 : w0.cell? ⟨cb, 2, none⟩ = some (.string C.nc) := HC.out.cellv 2 _ rfl
  obtain ⟨X, hX⟩ : ∃ q, greS C data D = q := ⟨_, rfl⟩
  rw [hX]
  have hbe := nonce_eq (a := D.nonce) (b := C.nc)
  clear h0 g0 s0 hk hh hc hd hds hcb
  unfold hcs Dg.cells at hw0
  unfold hcs Dg.cells
  by_cases ho : D.nonce = C.nc
  rotate_left
  · rw [decide_eq_false ho] at hbe
    rw [gre_1 ho] at hX
    subst hX
    have hbe2 : ¬ D.nonce.toList = C.nc.toList := fun e => by rw [e] at hbe; simp at hbe
    clear ho
    go_enter Tryz.func54, Tryz.ntmps54
    go_wp2_with fail
    go_quiet (fail)
    go_wp2_with fail
    go_ret2
    exact ⟨rfl, HC.out.kept (gr_drewN _ _ none) (by simp), gr_weak (HG.out.1.trans (gr_drewN _ _ none)) _⟩
  have HO := Keep.mk ho
  rw [decide_eq_true ho] at hbe
  have hbe2 : D.nonce.toList = C.nc.toList := by rw [ho]
  clear ho
  by_cases k2 : D.kind = 2
  · rw [gre_2 HO.out k2] at hX
    subst hX
    have q2 : (D.kind == 2) = true := by simp [k2]
    clear k2
    go_enter Tryz.func54, Tryz.ntmps54
    go_wp2_with fail
    go_quiet (fail)
    have HQ : Keep (Has (w0.drewN nq) w.heap.size (hcs data D) 93 ∧ Has (w0.drewN nq) cb C.cs 83 ∧ Kc (w0.drewN nq)) := ⟨H0.out.kept (gr_drewN _ _ none) (by simp), HC.out.kept (gr_drewN _ _ none) (by simp), HK.out.1.kept (gr_drewN _ _ none) (by simp)⟩
    have e1n := (gr_drewN w0 nq none).cell e1 (by simp)
    go_wp2_with (first
      | (with_reducible show wpList _ _ _ ({ dst := _, op := Op.load 93 _, type := _, pos := _, after := _, guard := _ } :: _) _ _
         refine load_g rfl 93 _ rfl w.heap.size 0 rfl (hcs data D) dh HQ.out.1.range hdh hdr infoH ?_
         simp only [Act.put, List.setIfInBounds_toArray, List.set_cons_zero, List.set_cons_succ]))
    refine (connect_c cb C data D (w0.drewN nq) HQ.out.2.2 HQ.out.2.1 HK.out.2.1 HK.out.2.2.1).mono ?_
    rintro e w2 ⟨rfl, g2⟩
    have H2 : Keep (Has w2 cb C.cs 83 ∧ w.grownBy w2 none) := ⟨HQ.out.2.1.kept g2 (by simp), (HG.out.1.trans (gr_drewN _ _ none)).trans g2⟩
    clear g2
    go_wp2_with fail
    go_ret2
    exact ⟨rfl, H2.out.1, gr_weak H2.out.2 _⟩
  by_cases k4 : D.kind = 4
  · rw [gre_3 HO.out k4] at hX
    subst hX
    have q2 : (D.kind == 2) = false := by simp [k4]
    have q4 : (D.kind == 4) = true := by simp [k4]
    clear k2 k4
    go_enter Tryz.func54, Tryz.ntmps54
    go_wp2_with fail
    go_quiet (fail)
    have HQ : Keep (Has (w0.drewN nq) w.heap.size (hcs data D) 93 ∧ Has (w0.drewN nq) cb C.cs 83 ∧ Kc (w0.drewN nq)) := ⟨H0.out.kept (gr_drewN _ _ none) (by simp), HC.out.kept (gr_drewN _ _ none) (by simp), HK.out.1.kept (gr_drewN _ _ none) (by simp)⟩
    have e1n := (gr_drewN w0 nq none).cell e1 (by simp)
    go_wp2_with (first
      | (with_reducible show wpList _ _ _ ({ dst := _, op := Op.load 93 _, type := _, pos := _, after := _, guard := _ } :: _) _ _
         refine load_g rfl 93 _ rfl w.heap.size 0 rfl (hcs data D) dh HQ.out.1.range hdh hdr infoH ?_
         simp only [Act.put, List.setIfInBounds_toArray, List.set_cons_zero, List.set_cons_succ]))
    refine (begin_c cb C data D (w0.drewN nq) HQ.out.2.2 HQ.out.2.1 HK.out.2.1 HK.out.2.2.1 HK.out.2.2.2).mono ?_
    rintro e w2 ⟨rfl, h2, g2⟩
    have H2 := Keep.mk (And.intro h2 (((gr_weak HG.out.1 _).trans (gr_drewN _ _ (some cb))).trans g2))
    clear g2 h2
    go_wp2_with fail
    go_ret2
    exact ⟨rfl, H2.out⟩
  rw [gre_4 k2 k4] at hX
  subst hX
  have q2 : (D.kind == 2) = false := by simp [k2]
  have q4 : (D.kind == 4) = false := by simp [k4]
  clear k2 k4
  go_enter Tryz.func54, Tryz.ntmps54
  go_wp2_with fail
  go_quiet (fail)
  have e1n := (gr_drewN w0 nq none).cell e1 (by simp)
  go_wp2_with fail
  go_ret2
  exact ⟨rfl, HC.out.kept (gr_drewN _ _ none) (by simp), gr_weak (HG.out.1.trans (gr_drewN _ _ none)) _⟩
set_option maxHeartbeats 8000000 in
set_option maxRecDepth 100000 in
theorem playing_c (cb : Nat) (C : Cl) (data : ByteArray) (D : Dg) (w : World) (hk : Kc w) (hh : Has w cb C.cs 83) (hc : C.ok) (hd : Came D) (hds : data.size ≤ 281474976710656) :
    Calls Tryz.prog 168 #[pa cb 0, .agg (hcs data D).toArray] w fun e w' => e = .returned (.tuple #[.string (plaS C data D).1, iv (plaS C data D).2.1]) ∧ Has w' cb (plaS C data D).2.2.cs 83 ∧ w.grownBy w' (some cb) := by
  obtain ⟨dh, hdh, hdr⟩ := underH
  obtain ⟨w0, hw0⟩ : ∃ q, w.alloc (.cells (hcs data D).toArray 93) = q := ⟨_, rfl⟩
  obtain ⟨h0, g0, s0⟩ := hasN hw0
  have hcb := hh.lt
  have HC : Keep (Has w0 cb C.cs 83) := ⟨hh.kept g0 (by simp)⟩
  have H0 : Keep (Has w0 w.heap.size (hcs data D) 93) := ⟨h0⟩
  have HK := Keep.mk (And.intro (hk.kept g0 (by simp)) (And.intro hc (And.intro hd hds)))
  have HG := Keep.mk (And.intro g0 (show w.heap.size ≠ cb by omega))
  have e1 : w0.cell? ⟨w.heap.size, 1, none⟩ = some (iv D.kind) := h0.cellv 1 _ rfl
  obtain ⟨X, hX⟩ : ∃ q, plaS C data D = q := ⟨_, rfl⟩
  rw [hX]
  unfold plaS at hX
  clear h0 g0 s0 hk hh hc hd hds hcb
  unfold hcs Dg.cells at hw0
  unfold hcs Dg.cells
  by_cases k6 : D.kind = 6
  · rw [if_pos k6] at hX
    subst hX
    have q2 : (D.kind == 6) = true := by simp [k6]
    clear k6
    go_enter Tryz.func168, Tryz.ntmps168
    go_wp2_with (first
      | (with_reducible show wpList _ _ _ ({ dst := _, op := Op.load 93 _, type := _, pos := _, after := _, guard := _ } :: _) _ _
         refine load_g rfl 93 _ rfl w.heap.size 0 rfl (hcs data D) dh H0.out.range hdh hdr infoH ?_
         simp only [Act.put, List.setIfInBounds_toArray, List.set_cons_zero, List.set_cons_succ]))
    refine (look_c cb C data D w0 HK.out.1 HC.out HK.out.2.1 HK.out.2.2.1 HK.out.2.2.2).mono ?_
    rintro e w2 ⟨rfl, h2, g2⟩
    have H2 := Keep.mk (And.intro h2 ((gr_weak HG.out.1 _).trans g2))
    clear g2 h2
    go_wp2_with fail
    go_ret2
    exact ⟨rfl, H2.out⟩
  rw [if_neg k6] at hX
  have q6 : (D.kind == 6) = false := by simp [k6]
  clear k6
  by_cases k7 : D.kind = 7
  · rw [if_pos k7] at hX
    subst hX
    have q2 : (D.kind == 7) = true := by simp [k7]
    clear k7
    go_enter Tryz.func168, Tryz.ntmps168
    go_wp2_with (first
      | (with_reducible show wpList _ _ _ ({ dst := _, op := Op.load 93 _, type := _, pos := _, after := _, guard := _ } :: _) _ _
         refine load_g rfl 93 _ rfl w.heap.size 0 rfl (hcs data D) dh H0.out.range hdh hdr infoH ?_
         simp only [Act.put, List.setIfInBounds_toArray, List.set_cons_zero, List.set_cons_succ]))
    refine (dismiss_c cb C data D w0 HK.out.1 HC.out HK.out.2.1 HK.out.2.2.1 HK.out.2.2.2).mono ?_
    rintro e w2 ⟨rfl, h2, g2⟩
    have H2 := Keep.mk (And.intro h2 ((gr_weak HG.out.1 _).trans g2))
    clear g2 h2
    go_wp2_with fail
    go_ret2
    exact ⟨rfl, H2.out⟩
  rw [if_neg k7] at hX
  subst hX
  have q7 : (D.kind == 7) = false := by simp [k7]
  clear k7
  go_enter Tryz.func168, Tryz.ntmps168
  go_wp2_with fail
  go_ret2
  exact ⟨rfl, HC.out, gr_weak HG.out.1 _⟩
end Go.Proofs.YtldnpebnpbahjaaGreatDoor.Pk.Sn
