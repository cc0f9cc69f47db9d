import Derived.Test.YtldnpebnpbahjaaGreatDoorX36
/- what a client does with what it hears -/
namespace Go.Proofs.YtldnpebnpbahjaaGreatDoor.Pk.Sn
open Go Go.RowKit

theorem keyB_size (sc nc salt : ByteArray) (n : Nat) : (keyB sc nc salt n).size = 32 := by
  unfold keyB deriveB
  show (Mac.hmac _ _).toArray.size = 32
  rw [List.size_toArray, Mac.hmac_len]
/-- a datagram that was taken apart -/
structure Came (D : Dg) : Prop where
  f : D.fine
  s : D.nonce.size ≤ 1200 ∧ D.cookie.size ≤ 1200 ∧ D.name.size ≤ 1200 ∧ D.salt.size ≤ 1200 ∧ D.data.size ≤ 1200
set_option maxRecDepth 100000 in
theorem builtCon (e : Int) (n c m : ByteArray) : Tryz.prog.built 34 [(0, .int .i64 3), (1, .string n), (2, .int .u64 e), (3, .string c), (4, .string m)] = some #[.int .i64 3, .string n, .int .u64 e, .string c, .string m, .int .u64 0, .int .i64 0, .string { data := #[] }, .int .u64 0, .int .i64 0, .int .i64 0, .bool false, .bool false, .string { data := #[] }, .string { data := #[] }] := by kernel_rfl
set_option maxRecDepth 100000 in
theorem builtSes (n p : Int) (k : ByteArray) : Tryz.prog.built 81 [(0, .int .u64 n), (1, .int .i64 p), (2, .string k)] = some #[.int .u64 n, .int .i64 p, .string k, .int .u64 0, .int .u64 0] := by kernel_rfl
theorem con_fine {C : Cl} {D : Dg} (h : D.fine) : (conD C D).fine := ⟨by show (-9223372036854775808 : Int) ≤ 3 ∧ (3 : Int) < 9223372036854775808; omega, h.e, by show 0 < 18446744073709551616; omega, by show (-9223372036854775808 : Int) ≤ 0 ∧ (0 : Int) < 9223372036854775808; omega, by show 0 < 18446744073709551616; omega, by show (-9223372036854775808 : Int) ≤ 0 ∧ (0 : Int) < 9223372036854775808; omega, by show (-9223372036854775808 : Int) ≤ 0 ∧ (0 : Int) < 9223372036854775808; omega⟩
theorem con_small {C : Cl} {D : Dg} (hc : C.ok) (h : Came D) : (conD C D).small := ⟨by show C.nc.size ≤ _; have := hc.nc; omega, by show D.cookie.size ≤ _; have := h.s; omega, by show C.nm.size ≤ _; have := hc.nm; omega, by show (0 : Nat) ≤ _; omega, by show (0 : Nat) ≤ _; omega, by show (0 : Nat) ≤ _; omega⟩
theorem one5 {n p a b : Int} {k : ByteArray} : ∀ v ∈ [uv n, iv p, .string k, uv a, uv b], v.oneCell' = true := by
  intro v hv
  simp only [List.mem_cons, List.not_mem_nil, or_false] at hv
  rcases hv with rfl | rfl | rfl | rfl | rfl <;> rfl
set_option maxHeartbeats 8000000 in
set_option maxRecDepth 100000 in
theorem connect_c (cb : Nat) (C : Cl) (data : ByteArray) (D : Dg) (w : World) (hk : Kc w) (hh : Has w cb C.cs 83) (hc : C.ok) (hd : Came D) :
    Calls Tryz.prog 106 #[pa cb 0, .agg (hcs data D).toArray] w fun e w' => e = .returned (.tuple #[.string (sealD (conD C D) C.sc).1, iv (sealD (conD C D) C.sc).2]) ∧ w.grownBy w' none := by
  obtain ⟨w0, hw0⟩ : ∃ q, w.alloc (.cells (hcs data D).toArray 93) = q := ⟨_, rfl⟩
  obtain ⟨h0, g0, s0⟩ := hasN hw0
  have HC : Keep (Has w0 cb C.cs 83) := ⟨hh.kept g0 (by simp)⟩
  have e3 : w0.cell? ⟨w.heap.size, 3, none⟩ = some (uv D.epoch) := h0.cellv 3 _ rfl
  have e4 : w0.cell? ⟨w.heap.size, 4, none⟩ = some (.string D.cookie) := h0.cellv 4 _ rfl
  have c0 : w0.cell? ⟨cb, 0, none⟩ = some (.string C.nm) := HC.out.cellv 0 _ rfl
  have c1 : w0.cell? ⟨cb, 1, none⟩ = some (.string C.sc) := HC.out.cellv 1 _ rfl
  have c2 : w0.cell? ⟨cb, 2, none⟩ = some (.string C.nc) := HC.out.cellv 2 _ rfl
  obtain ⟨X, hX⟩ : ∃ q, sealD (conD C D) C.sc = q := ⟨_, rfl⟩
  have HSL : Keep (∀ w3 : World, w0.grownBy w3 none → Calls Tryz.prog 18 #[.agg (conD C D).cells.toArray, .string C.sc] w3 fun e w' => e = .returned (.tuple #[.string X.1, .int .i64 X.2]) ∧ w3.grownBy w' none) := ⟨fun w3 g => by rw [← hX]; exact seal_c (conD C D) C.sc (con_fine hd.f) (con_small hc hd) w3 (hk.kept (g0.trans g) (by simp)) (by have := hc.sc; omega)⟩
  rw [hX]
  have HB : Keep (Tryz.prog.built 34 [(0, .int .i64 3), (1, .string C.nc), (2, .int .u64 D.epoch), (3, .string D.cookie), (4, .string C.nm)] = some (conD C D).cells.toArray) := ⟨builtCon _ _ _ _⟩
  have HG := Keep.mk g0
  unfold hcs Dg.cells at hw0
  unfold hcs Dg.cells
  clear h0 g0 s0 hk hh hc hd HC hX
  go_enter Tryz.func106, Tryz.ntmps106
  go_wp2_with fail
  refine region_Y (S := fun w' => w0.grownBy w' none) [] (by kernel_rfl) ?_
  have hHeld := gr_drew w0 none
  refine wpAnyY_pure (i := 0) (oi := _) (v := ?_) rfl (by kernel_rfl) (by kernel_rfl) (by kernel_rfl) (by kernel_rfl) (fun _ _ _ h => h) (Or.inl ⟨by rfl, ?_⟩) ?_
  rotate_left
  · (intro w hSw; go_simp; first | done | (with_reducible rfl))
  simp only [Act.put, List.getElem_toArray, List.getElem_cons_zero, List.setIfInBounds_toArray, List.set_cons_zero, List.set_cons_succ]
  refine wpAnyY_pure (i := 1) (oi := _) (v := ?_) rfl (by kernel_rfl) (by kernel_rfl) (by kernel_rfl) (by kernel_rfl) (fun _ _ _ h => h) (Or.inl ⟨by rfl, ?_⟩) ?_
  rotate_left
  · (intro w hSw; go_simp; first | done | (with_reducible rfl))
  simp only [Act.put, List.getElem_toArray, List.getElem_cons_succ, List.getElem_cons_zero, List.setIfInBounds_toArray, List.set_cons_zero, List.set_cons_succ]
  refine wpAnyY_pure (i := 2) (oi := _) (v := ?_) rfl (by kernel_rfl) (by kernel_rfl) (by kernel_rfl) (by kernel_rfl) (fun _ _ _ h => h) (Or.inl ⟨by rfl, ?_⟩) ?_
  rotate_left
  · (intro w hSw; go_simp; first | done | (with_reducible rfl))
  simp only [Act.put, List.getElem_toArray, List.getElem_cons_succ, List.getElem_cons_zero, List.setIfInBounds_toArray, List.set_cons_zero, List.set_cons_succ]
  refine wpAnyY_take (i := 3) (oi := _) (v := ?_) rfl (by kernel_rfl) (by kernel_rfl) (by kernel_rfl) (by kernel_rfl) (by kernel_rfl) (fun _ _ _ h => h) (Or.inl ⟨by rfl, ?_⟩) (by assumption) ?_
  rotate_left
  · (intro w hSw; have k0 := hSw.cell c2 (by simp); go_simp; first | done | (with_reducible rfl))
  simp only [Act.put, List.getElem_toArray, List.getElem_cons_succ, List.getElem_cons_zero, List.setIfInBounds_toArray, List.set_cons_zero, List.set_cons_succ]
  refine wpAnyY_pure (i := 4) (oi := _) (v := ?_) rfl (by kernel_rfl) (by kernel_rfl) (by kernel_rfl) (by kernel_rfl) (fun _ _ _ h => h) (Or.inl ⟨by rfl, ?_⟩) ?_
  rotate_left
  · (intro w hSw; go_simp; first | done | (with_reducible rfl))
  simp only [Act.put, List.getElem_toArray, List.getElem_cons_succ, List.getElem_cons_zero, List.setIfInBounds_toArray, List.set_cons_zero, List.set_cons_succ]
  refine wpAnyY_pure (i := 5) (oi := _) (v := ?_) rfl (by kernel_rfl) (by kernel_rfl) (by kernel_rfl) (by kernel_rfl) (fun _ _ _ h => h) (Or.inl ⟨by rfl, ?_⟩) ?_
  rotate_left
  · (intro w hSw; go_simp; first | done | (with_reducible rfl))
  simp only [Act.put, List.getElem_toArray, List.getElem_cons_succ, List.getElem_cons_zero, List.setIfInBounds_toArray, List.set_cons_zero, List.set_cons_succ]
  refine wpAnyY_take (i := 6) (oi := _) (v := ?_) rfl (by kernel_rfl) (by kernel_rfl) (by kernel_rfl) (by kernel_rfl) (by kernel_rfl) (fun _ _ _ h => h) (Or.inl ⟨by rfl, ?_⟩) (by assumption) ?_
  rotate_left
  · (intro w hSw; have k0 := hSw.cell e3 (by simp); go_simp; first | done | (with_reducible rfl))
  simp only [Act.put, List.getElem_toArray, List.getElem_cons_succ, List.getElem_cons_zero, List.setIfInBounds_toArray, List.set_cons_zero, List.set_cons_succ]
  refine wpAnyY_pure (i := 7) (oi := _) (v := ?_) rfl (by kernel_rfl) (by kernel_rfl) (by kernel_rfl) (by kernel_rfl) (fun _ _ _ h => h) (Or.inl ⟨by rfl, ?_⟩) ?_
  rotate_left
  · (intro w hSw; go_simp; first | done | (with_reducible rfl))
  simp only [Act.put, List.getElem_toArray, List.getElem_cons_succ, List.getElem_cons_zero, List.setIfInBounds_toArray, List.set_cons_zero, List.set_cons_succ]
  refine wpAnyY_pure (i := 8) (oi := _) (v := ?_) rfl (by kernel_rfl) (by kernel_rfl) (by kernel_rfl) (by kernel_rfl) (fun _ _ _ h => h) (Or.inl ⟨by rfl, ?_⟩) ?_
  rotate_left
  · (intro w hSw; go_simp; first | done | (with_reducible rfl))
  simp only [Act.put, List.getElem_toArray, List.getElem_cons_succ, List.getElem_cons_zero, List.setIfInBounds_toArray, List.set_cons_zero, List.set_cons_succ]
  refine wpAnyY_take (i := 9) (oi := _) (v := ?_) rfl (by kernel_rfl) (by kernel_rfl) (by kernel_rfl) (by kernel_rfl) (by kernel_rfl) (fun _ _ _ h => h) (Or.inl ⟨by rfl, ?_⟩) (by assumption) ?_
  rotate_left
  · (intro w hSw; have k0 := hSw.cell e4 (by simp); go_simp; first | done | (with_reducible rfl))
  simp only [Act.put, List.getElem_toArray, List.getElem_cons_succ, List.getElem_cons_zero, List.setIfInBounds_toArray, List.set_cons_zero, List.set_cons_succ]
  refine wpAnyY_pure (i := 10) (oi := _) (v := ?_) rfl (by kernel_rfl) (by kernel_rfl) (by kernel_rfl) (by kernel_rfl) (fun _ _ _ h => h) (Or.inl ⟨by rfl, ?_⟩) ?_
  rotate_left
  · (intro w hSw; go_simp; first | done | (with_reducible rfl))
  simp only [Act.put, List.getElem_toArray, List.getElem_cons_succ, List.getElem_cons_zero, List.setIfInBounds_toArray, List.set_cons_zero, List.set_cons_succ]
  refine wpAnyY_pure (i := 11) (oi := _) (v := ?_) rfl (by kernel_rfl) (by kernel_rfl) (by kernel_rfl) (by kernel_rfl) (fun _ _ _ h => h) (Or.inl ⟨by rfl, ?_⟩) ?_
  rotate_left
  · (intro w hSw; go_simp; first | done | (with_reducible rfl))
  simp only [Act.put, List.getElem_toArray, List.getElem_cons_succ, List.getElem_cons_zero, List.setIfInBounds_toArray, List.set_cons_zero, List.set_cons_succ]
  refine wpAnyY_pure (i := 12) (oi := _) (v := ?_) rfl (by kernel_rfl) (by kernel_rfl) (by kernel_rfl) (by kernel_rfl) (fun _ _ _ h => h) (Or.inl ⟨by rfl, ?_⟩) ?_
  rotate_left
  · (intro w hSw; go_simp; first | done | (with_reducible rfl))
  simp only [Act.put, List.getElem_toArray, List.getElem_cons_succ, List.getElem_cons_zero, List.setIfInBounds_toArray, List.set_cons_zero, List.set_cons_succ]
  refine wpAnyY_take (i := 13) (oi := _) (v := ?_) rfl (by kernel_rfl) (by kernel_rfl) (by kernel_rfl) (by kernel_rfl) (by kernel_rfl) (fun _ _ _ h => h) (Or.inl ⟨by rfl, ?_⟩) (by assumption) ?_
  rotate_left
  · (intro w hSw; have k0 := hSw.cell c0 (by simp); go_simp; first | done | (with_reducible rfl))
  simp only [Act.put, List.getElem_toArray, List.getElem_cons_succ, List.getElem_cons_zero, List.setIfInBounds_toArray, List.set_cons_zero, List.set_cons_succ]
  refine wpAnyY_pure (i := 14) (oi := _) (v := .agg (conD C D).cells.toArray) rfl (by kernel_rfl) (by kernel_rfl) (by kernel_rfl) (by kernel_rfl) (fun _ _ _ h => h) (yieldsIf_build (by rfl) 34 _ rfl _ ((congrArg (Tryz.prog.built 34) (by simp only [List.map_toArray, List.map_cons, List.map_nil]; rfl)).trans HB.out)) ?_
  simp only [Act.put, List.getElem_toArray, List.getElem_cons_succ, List.getElem_cons_zero, List.setIfInBounds_toArray, List.set_cons_zero, List.set_cons_succ]
  refine wpAnyY_pure (i := 15) (oi := _) (v := ?_) rfl (by kernel_rfl) (by kernel_rfl) (by kernel_rfl) (by kernel_rfl) (fun _ _ _ h => h) (Or.inl ⟨by rfl, ?_⟩) ?_
  rotate_left
  · (intro w hSw; go_simp; first | done | (with_reducible rfl))
  simp only [Act.put, List.getElem_toArray, List.getElem_cons_succ, List.getElem_cons_zero, List.setIfInBounds_toArray, List.set_cons_zero, List.set_cons_succ]
  refine wpAnyY_pure (i := 16) (oi := _) (v := ?_) rfl (by kernel_rfl) (by kernel_rfl) (by kernel_rfl) (by kernel_rfl) (fun _ _ _ h => h) (Or.inl ⟨by rfl, ?_⟩) ?_
  rotate_left
  · (intro w hSw; go_simp; first | done | (with_reducible rfl))
  simp only [Act.put, List.getElem_toArray, List.getElem_cons_succ, List.getElem_cons_zero, List.setIfInBounds_toArray, List.set_cons_zero, List.set_cons_succ]
  refine wpAnyY_pure (i := 17) (oi := _) (v := ?_) rfl (by kernel_rfl) (by kernel_rfl) (by kernel_rfl) (by kernel_rfl) (fun _ _ _ h => h) (Or.inl ⟨by rfl, ?_⟩) ?_
  rotate_left
  · (intro w hSw; go_simp; first | done | (with_reducible rfl))
  simp only [Act.put, List.getElem_toArray, List.getElem_cons_succ, List.getElem_cons_zero, List.setIfInBounds_toArray, List.set_cons_zero, List.set_cons_succ]
  refine wpAnyY_take (i := 18) (oi := _) (v := ?_) rfl (by kernel_rfl) (by kernel_rfl) (by kernel_rfl) (by kernel_rfl) (by kernel_rfl) (fun _ _ _ h => h) (Or.inl ⟨by rfl, ?_⟩) (by assumption) ?_
  rotate_left
  · (intro w hSw; have k0 := hSw.cell c1 (by simp); go_simp; first | done | (with_reducible rfl))
  simp only [Act.put, List.getElem_toArray, List.getElem_cons_succ, List.getElem_cons_zero, List.setIfInBounds_toArray, List.set_cons_zero, List.set_cons_succ]
  refine wpAnyY_one (i := 19) (o := _) (by kernel_rfl) rfl (fun K hK => ?_)
  go_simp
  refine (HSL.out _ hHeld).mono ?_
  rintro e w1 ⟨rfl, g10⟩
  have g1 := Keep.mk (hHeld.trans g10)
  refine hK.out _ _ (fun q => q.trans g10) ?_
  clear hK K g10
  refine wpAnyY_pure (i := 20) (oi := _) (v := ?_) rfl (by kernel_rfl) (by kernel_rfl) (by kernel_rfl) (by kernel_rfl) (fun _ _ _ h => h) (Or.inl ⟨by rfl, ?_⟩) ?_
  rotate_left
  · (intro w hSw; go_simp; first | done | (with_reducible rfl))
  simp only [Act.put, List.getElem_toArray, List.getElem_cons_succ, List.getElem_cons_zero, List.setIfInBounds_toArray, List.set_cons_zero, List.set_cons_succ]
  refine wpAnyY_pure (i := 21) (oi := _) (v := ?_) rfl (by kernel_rfl) (by kernel_rfl) (by kernel_rfl) (by kernel_rfl) (fun _ _ _ h => h) (Or.inl ⟨by rfl, ?_⟩) ?_
  rotate_left
  · (intro w hSw; go_simp; first | done | (with_reducible rfl))
  simp only [Act.put, List.getElem_toArray, List.getElem_cons_succ, List.getElem_cons_zero, List.setIfInBounds_toArray, List.set_cons_zero, List.set_cons_succ]
  refine wpAnyY_one (i := 22) (o := _) (by kernel_rfl) rfl (fun K hK => ?_)
  go_simp
  refine hK.out _ _ (fun h => h) ?_
  clear hK K
  refine wpAnyY_one (i := 23) (o := _) (by kernel_rfl) rfl (fun K hK => ?_)
  go_simp
  refine hK.out _ _ (fun h => h) ?_
  clear hK K
  refine wpAnyY_done (by kernel_rfl) ?_ _

  have HE := Keep.mk (HG.out.trans g1.out)
  clear g1 HSL
  go_wp2_with fail
  go_ret2
  exact ⟨rfl, HE.out⟩
set_option maxHeartbeats 8000000 in
set_option maxRecDepth 100000 in
theorem begin_c (cb : Nat) (C : Cl) (data : ByteArray) (D : Dg) (w : World) (hk : Kc w) (hh : Has w cb C.cs 83) (hc : C.ok) (hd : Came D) (hds : data.size ≤ 281474976710656) :
    Calls Tryz.prog 107 #[pa cb 0, .agg (hcs data D).toArray] w fun e w' => e = .returned (iv (begS C data D).2) ∧ Has w' cb (begS C data D).1.cs 83 ∧ w.grownBy w' (some cb) := by
  obtain ⟨w0, hw0⟩ : ∃ q, w.alloc (.cells (hcs data D).toArray 93) = q := ⟨_, rfl⟩
  obtain ⟨h0, g0, s0⟩ := hasN hw0
  have hcb := hh.lt
  have HC : Keep (Has w0 cb C.cs 83) := ⟨hh.kept g0 (by simp)⟩
  have e0 : w0.cell? ⟨w.heap.size, 0, none⟩ = some (.string data) := h0.cellv 0 _ rfl
  have e6 : w0.cell? ⟨w.heap.size, 6, none⟩ = some (uv D.session) := h0.cellv 6 _ rfl
  have e7 : w0.cell? ⟨w.heap.size, 7, none⟩ = some (iv D.player) := h0.cellv 7 _ rfl
  have e8 : w0.cell? ⟨w.heap.size, 8, none⟩ = some (.string D.salt) := h0.cellv 8 _ rfl
  have c1 : w0.cell? ⟨cb, 1, none⟩ = some (.string C.sc) := HC.out.cellv 1 _ rfl
  have c2 : w0.cell? ⟨cb, 2, none⟩ = some (.string C.nc) := HC.out.cellv 2 _ rfl
  have c9 : w0.cell? ⟨cb, 9, none⟩ = some (uv C.mx) := HC.out.cellv 9 _ rfl
  obtain ⟨K1, hK1⟩ : ∃ q, keyB C.sc C.nc D.salt D.session = q := ⟨_, rfl⟩
  have HSK0 : Keep (∀ w3 : World, w0.grownBy w3 none → Calls Tryz.prog 167 #[.string C.sc, .string C.nc, .string D.salt, .int .u64 D.session] w3 fun e w' => e = .returned (.string K1) ∧ w3.grownBy w' none) := ⟨fun w3 g => by rw [← hK1]; exact sessionKey_c C.sc C.nc D.salt D.session w3 (hk.kept (g0.trans g) (by simp)) (by have := hc.sc; omega) (by have := hc.nc; omega) (by have := hd.s; omega)⟩
  have HK32 : Keep (K1.size ≤ 32) := ⟨by rw [← hK1]; exact Nat.le_of_eq (keyB_size _ _ _ _)⟩
  have HSD : Keep (∀ w3 : World, w0.grownBy w3 none → Calls Tryz.prog 11 #[.string data, .string K1] w3 fun e w' => e = .returned (.bool (sealed data K1)) ∧ w3.grownBy w' none) := ⟨fun w3 g => sealed_c data K1 w3 (hk.kept (g0.trans g) (by simp)) hds (by have := HK32.out; omega)⟩
  obtain ⟨B, hB⟩ : ∃ q, begS C data D = q := ⟨_, rfl⟩
  rw [hB]
  unfold begS at hB
  rw [hK1] at hB
  have HG := Keep.mk (And.intro g0 (show w.heap.size ≠ cb by omega))
  unfold hcs Dg.cells at hw0
  unfold hcs Dg.cells
  clear h0 g0 s0 hk hh hc hd hK1 hds hcb
  by_cases h1 : D.session ≤ C.mx
  · rw [if_pos h1] at hB
    subst hB
    have q1 : decide ((D.session : Int) ≤ (C.mx : Int)) = true := decide_eq_true (by omega)
    have q2 : decide (D.session ≤ C.mx) = true := decide_eq_true h1
    clear h1
    go_enter Tryz.func107, Tryz.ntmps107
    go_wp2_with fail
    go_quiet (fail)
    go_wp2_with fail
    go_ret
    exact ⟨rfl, HC.out.kept (gr_drewN _ _ none) (by simp), gr_weak (HG.out.1.trans (gr_drewN _ _ none)) _⟩
  rw [if_neg h1] at hB
  have HB0 := Keep.mk hB
  have q1 : decide ((D.session : Int) ≤ (C.mx : Int)) = false := decide_eq_false (by omega)
  have q2 : decide (D.session ≤ C.mx) = false := decide_eq_false h1
  clear h1 hB
  go_enter Tryz.func107, Tryz.ntmps107
  go_wp2_with fail
  go_quiet (fail)
  go_wp2_with fail
  have k1 := (gr_drewN w0 nq none).cell c1 (by simp)
  have k2 := (gr_drewN w0 nq none).cell c2 (by simp)
  have k6 := (gr_drewN w0 nq none).cell e6 (by simp)
  have k8 := (gr_drewN w0 nq none).cell e8 (by simp)
  have HSK : Keep (∀ w3 : World, (w0.drewN nq).grownBy w3 none → Calls Tryz.prog 167 #[.string C.sc, .string C.nc, .string D.salt, .int .u64 D.session] w3 fun e w' => e = .returned (.string K1) ∧ w3.grownBy w' none) := ⟨fun w3 g => HSK0.out w3 ((gr_drewN w0 nq none).trans g)⟩
  refine region_Y (S := fun w' => (w0.drewN nq).grownBy w' none) [] (by kernel_rfl) ?_
  have hHeld := gr_drew (w0.drewN nq) none
  refine wpAnyY_pure (i := 0) (oi := _) (v := ?_) rfl (by kernel_rfl) (by kernel_rfl) (by kernel_rfl) (by kernel_rfl) (fun _ _ _ h => h) (Or.inl ⟨by rfl, ?_⟩) ?_
  rotate_left
  · (intro w hSw; go_simp; first | done | (with_reducible rfl))
  simp only [Act.put, List.getElem_toArray, List.getElem_cons_zero, List.setIfInBounds_toArray, List.set_cons_zero, List.set_cons_succ]
  refine wpAnyY_pure (i := 1) (oi := _) (v := ?_) rfl (by kernel_rfl) (by kernel_rfl) (by kernel_rfl) (by kernel_rfl) (fun _ _ _ h => h) (Or.inl ⟨by rfl, ?_⟩) ?_
  rotate_left
  · (intro w hSw; go_simp; first | done | (with_reducible rfl))
  simp only [Act.put, List.getElem_toArray, List.getElem_cons_succ, List.getElem_cons_zero, List.setIfInBounds_toArray, List.set_cons_zero, List.set_cons_succ]
  refine wpAnyY_pure (i := 2) (oi := _) (v := ?_) rfl (by kernel_rfl) (by kernel_rfl) (by kernel_rfl) (by kernel_rfl) (fun _ _ _ h => h) (Or.inl ⟨by rfl, ?_⟩) ?_
  rotate_left
  · (intro w hSw; go_simp; first | done | (with_reducible rfl))
  simp only [Act.put, List.getElem_toArray, List.getElem_cons_succ, List.getElem_cons_zero, List.setIfInBounds_toArray, List.set_cons_zero, List.set_cons_succ]
  refine wpAnyY_take (i := 3) (oi := _) (v := ?_) rfl (by kernel_rfl) (by kernel_rfl) (by kernel_rfl) (by kernel_rfl) (by kernel_rfl) (fun _ _ _ h => h) (Or.inl ⟨by rfl, ?_⟩) (by assumption) ?_
  rotate_left
  · (intro w hSw; have k0 := hSw.cell k1 (by simp); go_simp; first | done | (with_reducible rfl))
  simp only [Act.put, List.getElem_toArray, List.getElem_cons_succ, List.getElem_cons_zero, List.setIfInBounds_toArray, List.set_cons_zero, List.set_cons_succ]
  refine wpAnyY_pure (i := 4) (oi := _) (v := ?_) rfl (by kernel_rfl) (by kernel_rfl) (by kernel_rfl) (by kernel_rfl) (fun _ _ _ h => h) (Or.inl ⟨by rfl, ?_⟩) ?_
  rotate_left
  · (intro w hSw; go_simp; first | done | (with_reducible rfl))
  simp only [Act.put, List.getElem_toArray, List.getElem_cons_succ, List.getElem_cons_zero, List.setIfInBounds_toArray, List.set_cons_zero, List.set_cons_succ]
  refine wpAnyY_pure (i := 5) (oi := _) (v := ?_) rfl (by kernel_rfl) (by kernel_rfl) (by kernel_rfl) (by kernel_rfl) (fun _ _ _ h => h) (Or.inl ⟨by rfl, ?_⟩) ?_
  rotate_left
  · (intro w hSw; go_simp; first | done | (with_reducible rfl))
  simp only [Act.put, List.getElem_toArray, List.getElem_cons_succ, List.getElem_cons_zero, List.setIfInBounds_toArray, List.set_cons_zero, List.set_cons_succ]
  refine wpAnyY_pure (i := 6) (oi := _) (v := ?_) rfl (by kernel_rfl) (by kernel_rfl) (by kernel_rfl) (by kernel_rfl) (fun _ _ _ h => h) (Or.inl ⟨by rfl, ?_⟩) ?_
  rotate_left
  · (intro w hSw; go_simp; first | done | (with_reducible rfl))
  simp only [Act.put, List.getElem_toArray, List.getElem_cons_succ, List.getElem_cons_zero, List.setIfInBounds_toArray, List.set_cons_zero, List.set_cons_succ]
  refine wpAnyY_take (i := 7) (oi := _) (v := ?_) rfl (by kernel_rfl) (by kernel_rfl) (by kernel_rfl) (by kernel_rfl) (by kernel_rfl) (fun _ _ _ h => h) (Or.inl ⟨by rfl, ?_⟩) (by assumption) ?_
  rotate_left
  · (intro w hSw; have k0 := hSw.cell k2 (by simp); go_simp; first | done | (with_reducible rfl))
  simp only [Act.put, List.getElem_toArray, List.getElem_cons_succ, List.getElem_cons_zero, List.setIfInBounds_toArray, List.set_cons_zero, List.set_cons_succ]
  refine wpAnyY_pure (i := 8) (oi := _) (v := ?_) rfl (by kernel_rfl) (by kernel_rfl) (by kernel_rfl) (by kernel_rfl) (fun _ _ _ h => h) (Or.inl ⟨by rfl, ?_⟩) ?_
  rotate_left
  · (intro w hSw; go_simp; first | done | (with_reducible rfl))
  simp only [Act.put, List.getElem_toArray, List.getElem_cons_succ, List.getElem_cons_zero, List.setIfInBounds_toArray, List.set_cons_zero, List.set_cons_succ]
  refine wpAnyY_pure (i := 9) (oi := _) (v := ?_) rfl (by kernel_rfl) (by kernel_rfl) (by kernel_rfl) (by kernel_rfl) (fun _ _ _ h => h) (Or.inl ⟨by rfl, ?_⟩) ?_
  rotate_left
  · (intro w hSw; go_simp; first | done | (with_reducible rfl))
  simp only [Act.put, List.getElem_toArray, List.getElem_cons_succ, List.getElem_cons_zero, List.setIfInBounds_toArray, List.set_cons_zero, List.set_cons_succ]
  refine wpAnyY_take (i := 10) (oi := _) (v := ?_) rfl (by kernel_rfl) (by kernel_rfl) (by kernel_rfl) (by kernel_rfl) (by kernel_rfl) (fun _ _ _ h => h) (Or.inl ⟨by rfl, ?_⟩) (by assumption) ?_
  rotate_left
  · (intro w hSw; have k0 := hSw.cell k8 (by simp); go_simp; first | done | (with_reducible rfl))
  simp only [Act.put, List.getElem_toArray, List.getElem_cons_succ, List.getElem_cons_zero, List.setIfInBounds_toArray, List.set_cons_zero, List.set_cons_succ]
  refine wpAnyY_pure (i := 11) (oi := _) (v := ?_) rfl (by kernel_rfl) (by kernel_rfl) (by kernel_rfl) (by kernel_rfl) (fun _ _ _ h => h) (Or.inl ⟨by rfl, ?_⟩) ?_
  rotate_left
  · (intro w hSw; go_simp; first | done | (with_reducible rfl))
  simp only [Act.put, List.getElem_toArray, List.getElem_cons_succ, List.getElem_cons_zero, List.setIfInBounds_toArray, List.set_cons_zero, List.set_cons_succ]
  refine wpAnyY_pure (i := 12) (oi := _) (v := ?_) rfl (by kernel_rfl) (by kernel_rfl) (by kernel_rfl) (by kernel_rfl) (fun _ _ _ h => h) (Or.inl ⟨by rfl, ?_⟩) ?_
  rotate_left
  · (intro w hSw; go_simp; first | done | (with_reducible rfl))
  simp only [Act.put, List.getElem_toArray, List.getElem_cons_succ, List.getElem_cons_zero, List.setIfInBounds_toArray, List.set_cons_zero, List.set_cons_succ]
  refine wpAnyY_take (i := 13) (oi := _) (v := ?_) rfl (by kernel_rfl) (by kernel_rfl) (by kernel_rfl) (by kernel_rfl) (by kernel_rfl) (fun _ _ _ h => h) (Or.inl ⟨by rfl, ?_⟩) (by assumption) ?_
  rotate_left
  · (intro w hSw; have k0 := hSw.cell k6 (by simp); go_simp; first | done | (with_reducible rfl))
  simp only [Act.put, List.getElem_toArray, List.getElem_cons_succ, List.getElem_cons_zero, List.setIfInBounds_toArray, List.set_cons_zero, List.set_cons_succ]
  refine wpAnyY_one (i := 14) (o := _) (by kernel_rfl) rfl (fun K hK => ?_)
  go_simp
  refine (HSK.out _ hHeld).mono ?_
  rintro e w1 ⟨rfl, g10⟩
  have g1 := Keep.mk (hHeld.trans g10)
  refine hK.out _ _ (fun q => q.trans g10) ?_
  clear hK K g10
  refine wpAnyY_one (i := 15) (o := _) (by kernel_rfl) rfl (fun K hK => ?_)
  go_simp
  refine hK.out _ _ (fun h => h) ?_
  clear hK K
  refine wpAnyY_done (by kernel_rfl) ?_ _

  have G1 : Keep (w0.grownBy w1 none) := ⟨(gr_drewN w0 nq none).trans g1.out⟩
  have m0 := G1.out.cell e0 (by simp)
  have m6 := G1.out.cell e6 (by simp)
  have m7 := G1.out.cell e7 (by simp)
  have M := Keep.mk (And.intro m0 (And.intro m6 m7))
  clear k1 k2 k6 k8 e0 e6 e7 e8 c1 c2 c9 HSK HSK0 hHeld q1 q2 hw0 g1 m6 m7
  go_wp2_with fail
  refine (HSD.out w1 G1.out).mono ?_
  rintro e w2 ⟨rfl, g2⟩
  have G2 : Keep (w0.grownBy w2 none ∧ Has w2 cb C.cs 83) := ⟨G1.out.trans g2, (HC.out.kept G1.out (by simp)).kept g2 (by simp)⟩
  have m6 := g2.cell M.out.2.1 (by simp)
  have m7 := g2.cell M.out.2.2 (by simp)
  obtain ⟨S, hS⟩ : ∃ S, sealed data K1 = S := ⟨_, rfl⟩
  have hB := HB0.out
  rw [hS] at hB ⊢
  clear m0 G1 g2 hS HSD HB0 HC
  cases S
  · rw [if_pos rfl] at hB
    subst hB
    go_wp2_with fail
    go_ret
    exact ⟨rfl, G2.out.2, gr_weak (HG.out.1.trans G2.out.1) _⟩
  rw [if_neg (by simp)] at hB
  subst hB
  have HB := Keep.mk (builtSes D.session D.player K1)
  go_wp2_with (first
    | (with_reducible show wpList _ _ _ ({ dst := _, op := Op.build 81 _, type := _, pos := _, after := _, guard := _ } :: _) _ _
       refine build_g rfl 81 _ rfl _ ((congrArg (Tryz.prog.built 81) (by simp only [List.map_toArray, List.map_cons, List.map_nil]; rfl)).trans HB.out) ?_
       simp only [Act.put, List.setIfInBounds_toArray, List.set_cons_zero, List.set_cons_succ])
    | (with_reducible show wpList _ _ _ ({ dst := _, op := Op.store 81 _ _, type := _, pos := _, after := _, guard := _ } :: _) _ _
       refine st_part w2 cb 4 C.cs [uv D.session, iv D.player, .string K1, uv 0, uv 0] 81 83 rfl rfl rfl rfl G2.out.2 (by show 4 + 5 ≤ 11; omega) infoSe one5 ?_
       intro w6 h6 g6
       have H6 : Keep (Has w6 cb { C with num := D.session, pl := D.player, key := K1, sd := 0, bl := 0 : Cl }.cs 83 ∧ w0.grownBy w6 (some cb)) := ⟨h6, (gr_weak G2.out.1 _).trans g6⟩
       have n6 := g6.cell m6 (by simp; exact HG.out.2)
       have n9 := H6.out.1.cellv 9 _ rfl
       have z9 := H6.out.1.frozen 9
       have n3 := H6.out.1.cellv 3 _ rfl
       have z3 := H6.out.1.frozen 3
       clear m6 m7 h6 g6))
  go_ret
  exact ⟨rfl, (H6.out.1.setCell 9 _).setCell 3 _, ((gr_weak HG.out.1 _).trans H6.out.2).trans ((gr_set _ _ _ _).trans (gr_set _ _ _ _))⟩
end Go.Proofs.YtldnpebnpbahjaaGreatDoor.Pk.Sn
