import Derived.Test.YtldnpebnpbahjaaGreatDoorX38
import Derived.Test.YtldnpebnpbahjaaGreatDoorCA4
import Derived.Test.YtldnpebnpbahjaaGreatDoorX35
import Derived.Test.YtldnpebnpbahjaaGreatDoorX16
/- the other calls of a client -/
namespace Go.Proofs.YtldnpebnpbahjaaGreatDoor.Pk.Sn
open Go Go.RowKit

def newS (nm sc nc : ByteArray) : Cl := ⟨nm, sc, nc, 52, 0, 0, nob, 0, 0, 0, nob⟩
set_option maxRecDepth 100000 in
theorem builtCl (a b c : ByteArray) : Tryz.prog.built 83 [(0, .string a), (1, .string b), (2, .string c), (3, fv 52)] = some (newS a b c).cs.toArray := by kernel_rfl
set_option maxRecDepth 100000 in
theorem builtHel (n : ByteArray) : Tryz.prog.built 34 [(0, .int .i64 1), (1, .string n)] = some #[.int .i64 1, .string n, .int .u64 0, .string { data := #[] }, .string { data := #[] }, .int .u64 0, .int .i64 0, .string { data := #[] }, .int .u64 0, .int .i64 0, .int .i64 0, .bool false, .bool false, .string { data := #[] }, .string { data := #[] }] := by kernel_rfl
set_option maxRecDepth 100000 in
theorem builtCmd (t u : Int) (f b : Bool) : Tryz.prog.built 34 [(0, .int .i64 5), (9, .agg #[.int .i64 t, .int .i64 u, .bool f, .bool b])] = some (cmdD t u f b).cells.toArray := by kernel_rfl
set_option maxRecDepth 100000 in
theorem builtBy : Tryz.prog.built 34 [(0, .int .i64 7)] = some (Dg.zero 7).cells.toArray := by kernel_rfl
theorem zero_fine {k : Int} (h : -9223372036854775808 ≤ k ∧ k < 9223372036854775808) : (Dg.zero k).fine := (zero_ok h).f
theorem hel_fine (C : Cl) : (helD C).fine := ⟨by show (-9223372036854775808 : Int) ≤ 1 ∧ (1 : Int) < 9223372036854775808; omega, by show 0 < 18446744073709551616; omega, by show 0 < 18446744073709551616; omega, by show (-9223372036854775808 : Int) ≤ 0 ∧ (0 : Int) < 9223372036854775808; omega, by show 0 < 18446744073709551616; omega, by show (-9223372036854775808 : Int) ≤ 0 ∧ (0 : Int) < 9223372036854775808; omega, by show (-9223372036854775808 : Int) ≤ 0 ∧ (0 : Int) < 9223372036854775808; omega⟩
theorem hel_small {C : Cl} (hc : C.nc.size ≤ 1024) : (helD C).small := ⟨by show C.nc.size ≤ _; omega, by show (0 : Nat) ≤ _; omega, by show (0 : Nat) ≤ _; omega, by show (0 : Nat) ≤ _; omega, by show (0 : Nat) ≤ _; omega, by show (0 : Nat) ≤ _; omega⟩
theorem zero_small (k : Int) : (Dg.zero k).small := ⟨by show (0 : Nat) ≤ _; omega, by show (0 : Nat) ≤ _; omega, by show (0 : Nat) ≤ _; omega, by show (0 : Nat) ≤ _; omega, by show (0 : Nat) ≤ _; omega, by show (0 : Nat) ≤ _; omega⟩
theorem cmd_small (t u : Int) (f b : Bool) : (cmdD t u f b).small := ⟨by show (0 : Nat) ≤ _; omega, by show (0 : Nat) ≤ _; omega, by show (0 : Nat) ≤ _; omega, by show (0 : Nat) ≤ _; omega, by show (0 : Nat) ≤ _; omega, by show (0 : Nat) ≤ _; omega⟩
theorem cmd_fine {t u : Int} (ht : -9223372036854775808 ≤ t ∧ t < 9223372036854775808) (hu : -9223372036854775808 ≤ u ∧ u < 9223372036854775808) (f b : Bool) : (cmdD t u f b).fine := ⟨by show (-9223372036854775808 : Int) ≤ 5 ∧ (5 : Int) < 9223372036854775808; omega, by show 0 < 18446744073709551616; omega, by show 0 < 18446744073709551616; omega, by show (-9223372036854775808 : Int) ≤ 0 ∧ (0 : Int) < 9223372036854775808; omega, by show 0 < 18446744073709551616; omega, ht, hu⟩
theorem slX_nob {C : Cl} {d : Dg} (h : (slX C d).2 ≠ 0) : (slX C d).1 = nob := by
  unfold slX at h ⊢
  split
  · rfl
  · split
    · rename_i h1 h2; rw [if_neg h1, if_pos h2] at h; exact absurd rfl h
    · rfl
theorem underM : ∃ d, Tryz.prog.underlying 29 = some d ∧ d.isRow = true := ⟨_, Tryz.underlying29, rfl⟩
set_option maxRecDepth 100000 in
theorem infoM : (Tryz.prog.info? 29).map (·.size) = some 4 := by kernel_rfl
set_option maxHeartbeats 8000000 in
set_option maxRecDepth 100000 in
theorem hello_c (cb : Nat) (C : Cl) (w : World) (hk : Kc w) (hh : Has w cb C.cs 83) (hc : C.ok) :
    Calls Tryz.prog 22 #[pa cb 0] w fun e w' => e = .returned (.tuple #[.string (helS C).1, iv (helS C).2.1]) ∧ Has w' cb (helS C).2.2.cs 83 ∧ w.grownBy w' (some cb) := by
  obtain ⟨X, hX⟩ : ∃ q, helS C = q := ⟨_, rfl⟩
  rw [hX]
  unfold helS at hX
  have HK := Keep.mk (And.intro hk (And.intro hh hc))
  have HLV := Keep.mk (lives_c cb C.num w (hh.cellv 4 _ rfl))
  clear hk hh hc
  go_enter Tryz.func22, Tryz.ntmps22
  go_wp2_with fail
  refine HLV.out.mono ?_
  rintro e w0 ⟨rfl, hww⟩
  have hww := hww.symm
  subst hww
  by_cases hz : C.num ≠ 0
  · rw [if_pos hz] at hX
    subst hX
    rw [decide_eq_true hz]
    clear hz
    go_wp2_with fail
    go_ret2
    exact ⟨rfl, HK.out.2.1, World.grownBy.refl _ _⟩
  rw [if_neg hz] at hX
  subst hX
  rw [decide_eq_false hz]
  have z3 := HK.out.2.1.frozen 3
  have c3 := HK.out.2.1.cellv 3 _ rfl
  obtain ⟨w1, hw1⟩ : ∃ q, w.setCell ⟨cb, 3, none⟩ (fv 54) = q := ⟨_, rfl⟩
  have H1 : Keep (Has w1 cb { C with st := 54 : Cl }.cs 83 ∧ w.grownBy w1 (some cb)) := ⟨by rw [← hw1]; exact HK.out.2.1.setCell 3 _, by rw [← hw1]; exact gr_set _ _ _ _⟩
  have m2 := H1.out.1.cellv 2 _ rfl
  have HB : Keep (Tryz.prog.built 34 [(0, .int .i64 1), (1, .string C.nc)] = some (helD C).cells.toArray) := ⟨builtHel _⟩
  have HE : Keep (Calls Tryz.prog 31 #[.agg (helD C).cells.toArray] w1 fun e w' => e = .returned (.tuple #[.string (ba (enc (helD C)).1), .int .i64 (enc (helD C)).2]) ∧ w1.grownBy w' none) := ⟨encode_c (helD C) (hel_fine C) (hel_small (by have := HK.out.2.2.nc; omega)) w1⟩
  clear hz
  go_wp2_with (first
    | (with_reducible show wpList _ _ _ ({ dst := _, op := Op.build 34 _, type := _, pos := _, after := _, guard := _ } :: _) _ _
       refine build_g rfl 34 _ rfl _ ((congrArg (Tryz.prog.built 34) (by simp only [List.map_toArray, List.map_cons, List.map_nil]; rfl)).trans HB.out) ?_
       simp only [Act.put, List.setIfInBounds_toArray, List.set_cons_zero, List.set_cons_succ]))
  refine HE.out.mono ?_
  rintro e w2 ⟨rfl, g2⟩
  have H2 : Keep (Has w2 cb { C with st := 54 : Cl }.cs 83 ∧ w.grownBy w2 (some cb)) := ⟨H1.out.1.kept g2 (by simp), H1.out.2.trans (gr_weak g2 _)⟩
  clear g2
  go_wp2_with fail
  go_ret2
  exact ⟨rfl, H2.out⟩
set_option maxHeartbeats 8000000 in
set_option maxRecDepth 100000 in
theorem command_c (cb : Nat) (C : Cl) (w : World) (hk : Kc w) (hh : Has w cb C.cs 83) (hc : C.ok) (hsd : C.sd < 18446744073709551615) (t u : Int) (f b : Bool) (ht : -9223372036854775808 ≤ t ∧ t < 9223372036854775808) (hu : -9223372036854775808 ≤ u ∧ u < 9223372036854775808) :
    Calls Tryz.prog 9 #[pa cb 0, .agg #[.int .i64 t, .int .i64 u, .bool f, .bool b]] w fun e w' => e = .returned (.tuple #[.string (slX C (cmdD t u f b)).1, iv (slX C (cmdD t u f b)).2]) ∧ Has w' cb (slS C (cmdD t u f b)).cs 83 ∧ w.grownBy w' (some cb) := by
  obtain ⟨dm, hdm, hdr⟩ := underM
  obtain ⟨w0, hw0⟩ : ∃ q, w.alloc (.cells #[.int .i64 t, .int .i64 u, .bool f, .bool b] 29) = q := ⟨_, rfl⟩
  obtain ⟨h0, g0, s0⟩ := hasN hw0
  have HR : Keep (w0.drew.rangeAt w.heap.size 0 [.int .i64 t, .int .i64 u, .bool f, .bool b]) := ⟨(h0.kept (gr_drew _ none) (by simp)).range⟩
  have HG : Keep (w.grownBy w0.drew none) := ⟨g0.trans (gr_drew _ none)⟩
  have HSL : Keep (Calls Tryz.prog 34 #[pa cb 4, .agg (cmdD t u f b).cells.toArray] w0.drew fun e w' => e = .returned (.tuple #[.string (slX C (cmdD t u f b)).1, iv (slX C (cmdD t u f b)).2]) ∧ Has w' cb (slS C (cmdD t u f b)).cs 83 ∧ w0.drew.grownBy w' (some cb)) := ⟨slc_c cb C (cmdD t u f b) w0.drew (hk.kept HG.out (by simp)) (hh.kept HG.out (by simp)) (cmd_fine ht hu f b) (cmd_small t u f b) hc.num hsd hc.key⟩
  obtain ⟨X, hX⟩ : ∃ q, slX C (cmdD t u f b) = q := ⟨_, rfl⟩
  rw [hX] at HSL ⊢
  have HB := Keep.mk (builtCmd t u f b)
  clear h0 g0 s0 hk hh hc hX hsd ht hu
  go_enter Tryz.func9, Tryz.ntmps9
  go_wp2_with fail
  refine region_Y (S := fun w' => w0.grownBy w' none) [5] (by kernel_rfl) ?_
  have hHeld := gr_drew w0 none
  refine wpAnyY_pure (i := 0) (oi := _) (v := ?_) rfl (by kernel_rfl) (by kernel_rfl) (by kernel_rfl) (by kernel_rfl) (fun _ _ _ h => h) (Or.inl ⟨by rfl, ?_⟩) ?_
  rotate_left
  · (intro w hSw; go_simp; first | done | (with_reducible rfl))
  simp only [Act.put, List.getElem_toArray, List.getElem_cons_zero, List.setIfInBounds_toArray, List.set_cons_zero, List.set_cons_succ]
  refine wpAnyY_pure (i := 1) (oi := _) (v := ?_) rfl (by kernel_rfl) (by kernel_rfl) (by kernel_rfl) (by kernel_rfl) (fun _ _ _ h => h) (Or.inl ⟨by rfl, ?_⟩) ?_
  rotate_left
  · (intro w hSw; go_simp; first | done | (with_reducible rfl))
  simp only [Act.put, List.getElem_toArray, List.getElem_cons_succ, List.getElem_cons_zero, List.setIfInBounds_toArray, List.set_cons_zero, List.set_cons_succ]
  refine wpAnyY_pure (i := 2) (oi := _) (v := ?_) rfl (by kernel_rfl) (by kernel_rfl) (by kernel_rfl) (by kernel_rfl) (fun _ _ _ h => h) (Or.inl ⟨by rfl, ?_⟩) ?_
  rotate_left
  · (intro w hSw; go_simp; first | done | (with_reducible rfl))
  simp only [Act.put, List.getElem_toArray, List.getElem_cons_succ, List.getElem_cons_zero, List.setIfInBounds_toArray, List.set_cons_zero, List.set_cons_succ]
  refine wpAnyY_one (i := 3) (by kernel_rfl) rfl (fun K hK => ?_)
  rw [if_pos (show Region.wanted _ _ = true from rfl)]
  refine wp_load_mid 29 _ rfl w.heap.size 0 rfl [.int .i64 t, .int .i64 u, .bool f, .bool b] dm HR.out hdm hdr infoM ?_
  refine hK.out _ _ (fun h => h) ?_
  clear hK K
  simp only [Act.put, List.getElem_toArray, List.getElem_cons_succ, List.getElem_cons_zero, List.setIfInBounds_toArray, List.set_cons_zero, List.set_cons_succ]
  refine wpAnyY_pure (i := 4) (oi := _) (v := .agg (cmdD t u f b).cells.toArray) rfl (by kernel_rfl) (by kernel_rfl) (by kernel_rfl) (by kernel_rfl) (fun _ _ _ h => h) (yieldsIf_build (by rfl) 34 _ rfl _ ((congrArg (Tryz.prog.built 34) (by simp only [List.map_toArray, List.map_cons, List.map_nil]; rfl)).trans HB.out)) ?_
  simp only [Act.put, List.getElem_toArray, List.getElem_cons_succ, List.getElem_cons_zero, List.setIfInBounds_toArray, List.set_cons_zero, List.set_cons_succ]
  refine wpAnyY_late (i := 5) (by kernel_rfl) rfl (by kernel_rfl) (fun K hK => ?_)
  go_simp
  refine HSL.out.mono ?_
  rintro e w3 ⟨rfl, h3, g3⟩
  have H4 := Keep.mk (And.intro h3 ((gr_weak HG.out (some cb)).trans g3))
  refine hK.out _ _ ?_
  clear hK K h3 g3
  refine wpAnyY_pure (i := 6) (oi := _) (v := ?_) rfl (by kernel_rfl) (by kernel_rfl) (by kernel_rfl) (by kernel_rfl) (fun _ _ _ h => h) (Or.inl ⟨by rfl, ?_⟩) ?_
  rotate_left
  · (intro w hSw; go_simp; first | done | (with_reducible rfl))
  simp only [Act.put, List.getElem_toArray, List.getElem_cons_succ, List.getElem_cons_zero, List.setIfInBounds_toArray, List.set_cons_zero, List.set_cons_succ]
  refine wpAnyY_pure (i := 7) (oi := _) (v := ?_) rfl (by kernel_rfl) (by kernel_rfl) (by kernel_rfl) (by kernel_rfl) (fun _ _ _ h => h) (Or.inl ⟨by rfl, ?_⟩) ?_
  rotate_left
  · (intro w hSw; go_simp; first | done | (with_reducible rfl))
  simp only [Act.put, List.getElem_toArray, List.getElem_cons_succ, List.getElem_cons_zero, List.setIfInBounds_toArray, List.set_cons_zero, List.set_cons_succ]
  refine wpAnyY_one (i := 8) (by kernel_rfl) rfl (fun K hK => ?_)
  go_simp
  refine hK.out _ _ (fun h => h) ?_
  clear hK K
  refine wpAnyY_one (i := 9) (by kernel_rfl) rfl (fun K hK => ?_)
  go_simp
  refine hK.out _ _ (fun h => h) ?_
  clear hK K
  refine wpAnyY_done (by kernel_rfl) ?_ _

  go_wp2_with fail
  go_ret2
  exact ⟨rfl, H4.out⟩
set_option maxHeartbeats 8000000 in
set_option maxRecDepth 100000 in
theorem bye_c (cb : Nat) (C : Cl) (w : World) (hk : Kc w) (hh : Has w cb C.cs 83) (hc : C.ok) (hsd : C.sd < 18446744073709551615) :
    Calls Tryz.prog 12 #[pa cb 0] w fun e w' => e = .returned (.tuple #[.string (byeS C).1, iv (byeS C).2.1]) ∧ Has w' cb (byeS C).2.2.cs 83 ∧ w.grownBy w' (some cb) := by
  obtain ⟨Y, hY⟩ : ∃ q, byeS C = q := ⟨_, rfl⟩
  rw [hY]
  unfold byeS at hY
  have HSL : Keep (Calls Tryz.prog 34 #[pa cb 4, .agg (Dg.zero 7).cells.toArray] w fun e w' => e = .returned (.tuple #[.string (slX C (Dg.zero 7)).1, iv (slX C (Dg.zero 7)).2]) ∧ Has w' cb (slS C (Dg.zero 7)).cs 83 ∧ w.grownBy w' (some cb)) := ⟨slc_c cb C (Dg.zero 7) w hk hh (zero_fine (by omega)) (zero_small 7) hc.num hsd hc.key⟩
  have HX0 : Keep ((slX C (Dg.zero 7)).2 ≠ 0 → (slX C (Dg.zero 7)).1 = nob ∧ slS C (Dg.zero 7) = C) := ⟨fun h => ⟨slX_nob h, by unfold slS; rw [if_neg h]⟩⟩
  have HX1 : Keep ((slX C (Dg.zero 7)).2 = 0 → endS (slS C (Dg.zero 7)) = endS C) := ⟨fun h => by unfold slS; rw [if_pos h]; rfl⟩
  obtain ⟨X, hX⟩ : ∃ q, slX C (Dg.zero 7) = q := ⟨_, rfl⟩
  obtain ⟨S, hS⟩ : ∃ q, slS C (Dg.zero 7) = q := ⟨_, rfl⟩
  rw [hX, hS] at HX0
  rw [hX, hS] at HX1
  rw [hX, hS] at HSL
  rw [hX] at hY
  have HB := Keep.mk builtBy
  clear hk hh hc hX hS hsd
  obtain ⟨tx, cd⟩ := X
  go_enter Tryz.func12, Tryz.ntmps12
  go_wp2_with (first
    | (with_reducible show wpList _ _ _ ({ dst := _, op := Op.build 34 _, type := _, pos := _, after := _, guard := _ } :: _) _ _
       refine build_g rfl 34 _ rfl _ ((congrArg (Tryz.prog.built 34) (by simp only [List.map_toArray, List.map_cons, List.map_nil]; rfl)).trans HB.out) ?_
       simp only [Act.put, List.setIfInBounds_toArray, List.set_cons_zero, List.set_cons_succ]))
  refine HSL.out.mono ?_
  rintro e w1 ⟨rfl, h1, g1⟩
  have H1 := Keep.mk (And.intro h1 g1)
  clear HSL h1 g1
  by_cases hz : cd = 0
  rotate_left
  · obtain ⟨e1, e2⟩ := HX0.out hz
    have e1 : tx = nob := e1
    subst e1
    subst e2
    have q1 : (cd != 0) = true := by simp [hz]
    rw [if_neg (show ¬ (nob, cd).2 = 0 from hz)] at hY
    subst hY
    clear hz HX0 HX1
    go_wp2_with fail
    go_ret2
    exact ⟨rfl, H1.out⟩
  subst hz
  have he := HX1.out rfl
  rw [if_pos rfl, ← he] at hY
  subst hY
  clear HX0 HX1 he
  go_wp2_with fail
  refine (end_c cb S w1 H1.out.1).mono ?_
  rintro e w2 ⟨rfl, h2, g2⟩
  have H2 := Keep.mk (And.intro h2 (H1.out.2.trans g2))
  clear h2 g2
  go_wp2_with fail
  go_ret2
  exact ⟨rfl, H2.out⟩
set_option maxHeartbeats 8000000 in
set_option maxRecDepth 100000 in
theorem playing_t (cb : Nat) (C : Cl) (w : World) (hh : Has w cb C.cs 83) :
    Calls Tryz.prog 13 #[pa cb 0] w fun e w' => e = .returned (.tuple #[uv C.num, iv C.pl, .bool (decide (C.num ≠ 0))]) ∧ w.grownBy w' none := by
  have c4 : w.cell? ⟨cb, 4, none⟩ = some (uv C.num) := hh.cellv 4 _ rfl
  have c5 : w.cell? ⟨cb, 5, none⟩ = some (iv C.pl) := hh.cellv 5 _ rfl
  obtain ⟨B, hB⟩ : ∃ B, decide (C.num ≠ 0) = B := ⟨_, rfl⟩
  have HLV : Keep (∀ w3 : World, w.grownBy w3 none → Calls Tryz.prog 44 #[pa cb 4] w3 fun e w' => e = .returned (.bool B) ∧ w' = w3) := ⟨fun w3 g => by rw [← hB]; exact lives_c cb C.num w3 (g.cell c4 (by simp))⟩
  rw [hB]
  clear hB
  go_enter Tryz.func13, Tryz.ntmps13
  go_wp2_with fail
  refine region_Y (S := fun w' => w.grownBy w' none) [] (by kernel_rfl) ?_
  have hHeld := gr_drew w none
  refine wpAnyY_pure (i := 0) (oi := _) (v := ?_) rfl (by kernel_rfl) (by kernel_rfl) (by kernel_rfl) (by kernel_rfl) (fun _ _ _ h => h) (Or.inl ⟨by rfl, ?_⟩) ?_
  rotate_left
  · (intro w hSw; go_simp; first | done | (with_reducible rfl))
  simp only [Act.put, List.getElem_toArray, List.getElem_cons_zero, List.setIfInBounds_toArray, List.set_cons_zero, List.set_cons_succ]
  refine wpAnyY_pure (i := 1) (oi := _) (v := ?_) rfl (by kernel_rfl) (by kernel_rfl) (by kernel_rfl) (by kernel_rfl) (fun _ _ _ h => h) (Or.inl ⟨by rfl, ?_⟩) ?_
  rotate_left
  · (intro w hSw; go_simp; first | done | (with_reducible rfl))
  simp only [Act.put, List.getElem_toArray, List.getElem_cons_succ, List.getElem_cons_zero, List.setIfInBounds_toArray, List.set_cons_zero, List.set_cons_succ]
  refine wpAnyY_pure (i := 2) (oi := _) (v := ?_) rfl (by kernel_rfl) (by kernel_rfl) (by kernel_rfl) (by kernel_rfl) (fun _ _ _ h => h) (Or.inl ⟨by rfl, ?_⟩) ?_
  rotate_left
  · (intro w hSw; go_simp; first | done | (with_reducible rfl))
  simp only [Act.put, List.getElem_toArray, List.getElem_cons_succ, List.getElem_cons_zero, List.setIfInBounds_toArray, List.set_cons_zero, List.set_cons_succ]
  refine wpAnyY_pure (i := 3) (oi := _) (v := ?_) rfl (by kernel_rfl) (by kernel_rfl) (by kernel_rfl) (by kernel_rfl) (fun _ _ _ h => h) (Or.inl ⟨by rfl, ?_⟩) ?_
  rotate_left
  · (intro w hSw; go_simp; first | done | (with_reducible rfl))
  simp only [Act.put, List.getElem_toArray, List.getElem_cons_succ, List.getElem_cons_zero, List.setIfInBounds_toArray, List.set_cons_zero, List.set_cons_succ]
  refine wpAnyY_take (i := 4) (oi := _) (v := ?_) rfl (by kernel_rfl) (by kernel_rfl) (by kernel_rfl) (by kernel_rfl) (by kernel_rfl) (fun _ _ _ h => h) (Or.inl ⟨by rfl, ?_⟩) (by assumption) ?_
  rotate_left
  · (intro w hSw; have k0 := hSw.cell c4 (by simp); go_simp; first | done | (with_reducible rfl))
  simp only [Act.put, List.getElem_toArray, List.getElem_cons_succ, List.getElem_cons_zero, List.setIfInBounds_toArray, List.set_cons_zero, List.set_cons_succ]
  refine wpAnyY_pure (i := 5) (oi := _) (v := ?_) rfl (by kernel_rfl) (by kernel_rfl) (by kernel_rfl) (by kernel_rfl) (fun _ _ _ h => h) (Or.inl ⟨by rfl, ?_⟩) ?_
  rotate_left
  · (intro w hSw; go_simp; first | done | (with_reducible rfl))
  simp only [Act.put, List.getElem_toArray, List.getElem_cons_succ, List.getElem_cons_zero, List.setIfInBounds_toArray, List.set_cons_zero, List.set_cons_succ]
  refine wpAnyY_pure (i := 6) (oi := _) (v := ?_) rfl (by kernel_rfl) (by kernel_rfl) (by kernel_rfl) (by kernel_rfl) (fun _ _ _ h => h) (Or.inl ⟨by rfl, ?_⟩) ?_
  rotate_left
  · (intro w hSw; go_simp; first | done | (with_reducible rfl))
  simp only [Act.put, List.getElem_toArray, List.getElem_cons_succ, List.getElem_cons_zero, List.setIfInBounds_toArray, List.set_cons_zero, List.set_cons_succ]
  refine wpAnyY_pure (i := 7) (oi := _) (v := ?_) rfl (by kernel_rfl) (by kernel_rfl) (by kernel_rfl) (by kernel_rfl) (fun _ _ _ h => h) (Or.inl ⟨by rfl, ?_⟩) ?_
  rotate_left
  · (intro w hSw; go_simp; first | done | (with_reducible rfl))
  simp only [Act.put, List.getElem_toArray, List.getElem_cons_succ, List.getElem_cons_zero, List.setIfInBounds_toArray, List.set_cons_zero, List.set_cons_succ]
  refine wpAnyY_pure (i := 8) (oi := _) (v := ?_) rfl (by kernel_rfl) (by kernel_rfl) (by kernel_rfl) (by kernel_rfl) (fun _ _ _ h => h) (Or.inl ⟨by rfl, ?_⟩) ?_
  rotate_left
  · (intro w hSw; go_simp; first | done | (with_reducible rfl))
  simp only [Act.put, List.getElem_toArray, List.getElem_cons_succ, List.getElem_cons_zero, List.setIfInBounds_toArray, List.set_cons_zero, List.set_cons_succ]
  refine wpAnyY_take (i := 9) (oi := _) (v := ?_) rfl (by kernel_rfl) (by kernel_rfl) (by kernel_rfl) (by kernel_rfl) (by kernel_rfl) (fun _ _ _ h => h) (Or.inl ⟨by rfl, ?_⟩) (by assumption) ?_
  rotate_left
  · (intro w hSw; have k0 := hSw.cell c5 (by simp); go_simp; first | done | (with_reducible rfl))
  simp only [Act.put, List.getElem_toArray, List.getElem_cons_succ, List.getElem_cons_zero, List.setIfInBounds_toArray, List.set_cons_zero, List.set_cons_succ]
  refine wpAnyY_pure (i := 10) (oi := _) (v := ?_) rfl (by kernel_rfl) (by kernel_rfl) (by kernel_rfl) (by kernel_rfl) (fun _ _ _ h => h) (Or.inl ⟨by rfl, ?_⟩) ?_
  rotate_left
  · (intro w hSw; go_simp; first | done | (with_reducible rfl))
  simp only [Act.put, List.getElem_toArray, List.getElem_cons_succ, List.getElem_cons_zero, List.setIfInBounds_toArray, List.set_cons_zero, List.set_cons_succ]
  refine wpAnyY_pure (i := 11) (oi := _) (v := ?_) rfl (by kernel_rfl) (by kernel_rfl) (by kernel_rfl) (by kernel_rfl) (fun _ _ _ h => h) (Or.inl ⟨by rfl, ?_⟩) ?_
  rotate_left
  · (intro w hSw; go_simp; first | done | (with_reducible rfl))
  simp only [Act.put, List.getElem_toArray, List.getElem_cons_succ, List.getElem_cons_zero, List.setIfInBounds_toArray, List.set_cons_zero, List.set_cons_succ]
  refine wpAnyY_pure (i := 12) (oi := _) (v := ?_) rfl (by kernel_rfl) (by kernel_rfl) (by kernel_rfl) (by kernel_rfl) (fun _ _ _ h => h) (Or.inl ⟨by rfl, ?_⟩) ?_
  rotate_left
  · (intro w hSw; go_simp; first | done | (with_reducible rfl))
  simp only [Act.put, List.getElem_toArray, List.getElem_cons_succ, List.getElem_cons_zero, List.setIfInBounds_toArray, List.set_cons_zero, List.set_cons_succ]
  refine wpAnyY_one (i := 13) (o := _) (by kernel_rfl) rfl (fun K hK => ?_)
  go_simp
  refine (HLV.out _ hHeld).mono ?_
  rintro e w3 ⟨rfl, hw3⟩
  subst hw3
  refine hK.out _ _ (fun q => q) ?_
  clear hK K
  refine wpAnyY_one (i := 14) (o := _) (by kernel_rfl) rfl (fun K hK => ?_)
  go_simp
  refine hK.out _ _ (fun h => h) ?_
  clear hK K
  refine wpAnyY_one (i := 15) (o := _) (by kernel_rfl) rfl (fun K hK => ?_)
  go_simp
  refine hK.out _ _ (fun h => h) ?_
  clear hK K
  refine wpAnyY_one (i := 16) (o := _) (by kernel_rfl) rfl (fun K hK => ?_)
  go_simp
  refine hK.out _ _ (fun h => h) ?_
  clear hK K
  refine wpAnyY_done (by kernel_rfl) ?_ _

  go_wp2_with fail
  go_ret3
  exact ⟨rfl, hHeld⟩
end Go.Proofs.YtldnpebnpbahjaaGreatDoor.Pk.Sn
