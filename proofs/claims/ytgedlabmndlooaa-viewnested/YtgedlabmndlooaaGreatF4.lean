/- view: ViewNested -/
import Derived.Test.YtgedlabmndlooaaGreatP6
import Derived.Deep.DeepCutAuto
namespace Go.Proofs.YtgedlabmndlooaaGreat
open Go Go.RowKit Go.Maps Go.Shelf Go.Lib Go.Sort

theorem has_t (W : World) (v : Value) (L : List Sn) (x : Sn) (hv : Ls snv 5 W v L) (hn : L.length ≤ 281474976710656) (hx : x ∈ L) :
    Calls Tryz.prog 16 #[v, vlN x] W fun e W' => e = .returned (.bool true) ∧ W.grownBy W' none := by
  refine (has_c W v L x hv hn).mono ?_
  rintro e W' ⟨rfl, g⟩
  exact ⟨by rw [decide_eq_true hx], g⟩
structure FnB (fb : Bool) (L : List Vt) (p : Int) : Prop where
  o : fb = true ↔ ∃ q ∈ L, q.1.pl = p
theorem vw_pl {W : World} {g n c : Nat} {tick : Int} {Vs : List Vt} (h : W.ownsRow 0 29 16 (sl g n c) n (fl (vwE tick) Vs)) (hn : 0 < n) {k : Nat} {q : Vt} (hq : Vs[k]? = some q) : W.cell? ⟨g, k * 16 + 1, none⟩ = some (iv q.1.pl) := by
  have := fl_range (vwE_len tick) h hn k q hq 1 (iv q.1.pl) rfl
  exact this
theorem lkept_e (x m : Int) (hm : 0 ≤ m) (W : World) : Calls Tryz.prog 14 #[iv x, iv m] W fun e W' => ∃ k, e = .returned (iv k) ∧ (0 ≤ k ∧ k ≤ m) ∧ W' = W := by
  refine (lkept_c x m hm W).mono ?_
  rintro e W' ⟨rfl, h⟩
  exact ⟨_, rfl, kpZ_in x m hm, h⟩
set_option maxRecDepth 100000 in
set_option maxHeartbeats 16000000 in
theorem nested_c (W : World) (tick nx : Int) (vc vs : Value) (LC : List Cr) (LS : List Sh) (p rad sho mo : Int) (hS : StO W vc vs LC LS) (hn : LC.length + LS.length ≤ 1048576) :
    Calls Tryz.prog 6 #[.agg #[.int .u64 tick, vc, vs, iv nx], .agg #[iv p, iv rad, iv sho], iv mo] W fun e W' => e = .returned (.bool true) ∧ W.grownBy W' none := by
  have S1 := ((Sep.nil W).newBox #[.int .u64 tick, vc, vs, iv nx] 37).newBox #[iv p, iv rad, iv sho] 39
  simp only [World.size_alloc] at S1
  obtain ⟨b3, hb3⟩ : ∃ b, W.heap.size = b := ⟨_, rfl⟩
  obtain ⟨b4, hb4⟩ : ∃ b, b3 + 1 = b := ⟨_, rfl⟩
  obtain ⟨W1, hW1⟩ : ∃ w, (W.alloc (.cells #[.int .u64 tick, vc, vs, iv nx] 37)).alloc (.cells #[iv p, iv rad, iv sho] 39) = w := ⟨_, rfl⟩
  rw [hW1, hb3, hb4] at S1
  have HB : Keep (Sep W W1 (boxA b4 [iv p, iv rad, iv sho] 39 :: boxA b3 [.int .u64 tick, vc, vs, iv nx] 37 :: [])) := ⟨S1⟩
  have HS := Keep.mk hS
  have HNN := Keep.mk hn
  obtain ⟨dv, hdv⟩ := under29
  obtain ⟨ds, hds⟩ := under37
  obtain ⟨du, hdu⟩ := under33
  clear S1 hS hn
  go_enter Tryz.func6, Tryz.ntmps6
  go_wp2_with fail
  clear hW1 hb3 hb4
  refine (alive_c W1).mono ?_
  rintro e W2 ⟨rfl, g2⟩
  replace HB := Keep.mk (HB.out.grown g2)
  clear g2
  go_wp2_with fail
  refine (lkept_e _ 40 (by decide) W2).mono ?_
  rintro e W2' ⟨m4, rfl, hm4, hw2⟩
  subst hw2
  have HM4 : Keep (0 ≤ m4 ∧ m4 ≤ 40) := ⟨hm4⟩
  obtain ⟨s2, hs2e⟩ : ∃ s, kpZ sho 32 + m4 = s := ⟨_, rfl⟩
  have hs2 : IntKind.i64.wrap (kpZ sho 32 + m4) = s2 := by have := HM4.out; have := kpZ_in sho 32 (by decide); rw [IntKind.wrap_i64]; omega
  obtain ⟨r3, hr3e⟩ : ∃ s, kpZ rad 1024 + m4 = s := ⟨_, rfl⟩
  have hr3 : IntKind.i64.wrap (kpZ rad 1024 + m4) = r3 := by have := HM4.out; have := kpZ_in rad 1024 (by decide); rw [IntKind.wrap_i64]; omega
  have HLE : Keep (kpZ sho 32 ≤ kpZ s2 32 ∧ kpZ rad 1024 ≤ kpZ r3 1024) := ⟨by
    have := HM4.out
    have := kpZ_in sho 32 (by decide)
    have := kpZ_in rad 1024 (by decide)
    rw [← hs2e, ← hr3e]
    unfold kpZ at *
    omega⟩
  clear hm4 hs2e hr3e
  have HR := Keep.mk ((HB.out.boxGet k1m).range)
  have q0 := (HB.out.boxGet k0m).cellv 0 _ rfl
  have q1 := (HB.out.boxGet k0m).cellv 1 _ rfl
  have q2 := (HB.out.boxGet k0m).cellv 2 _ rfl
  go_wp2_with (first
    | (with_reducible show wpList _ _ _ ({ dst := some 24, op := Op.load 37 _, type := _, pos := _, after := _, guard := _ } :: _) _ _
       refine wpList_load_mid rfl 37 _ rfl _ _ rfl ([.int .u64 tick, vc, vs, iv nx]) _ HR.out hds.1 hds.2 info37 ?_))
  refine (of_u W2' tick nx p rad sho vc vs LC LS (HS.out.kept HB.out.g)).mono ?_
  rintro e W3 hOf
  obtain ⟨tk1, ow1, a1, n1, c1, T1, cd1, rfl, hl1, hm1, So, hp1⟩ := hOf.o
  have HP1 := Keep.mk (And.intro hl1 (And.intro hm1 hp1))
  replace HB := Keep.mk (HB.out.join So)
  have HV1 := Keep.mk (vwv_one tk1 ow1 (.slice a1 n1 c1) ⟨_, _, _, rfl⟩)
  clear hOf So hl1 hm1 hp1 q0 q1 q2 HR
  go_wp2_with (first
    | (with_reducible show wpList _ _ _ ({ dst := _, op := Op.store 29 _ _, type := _, pos := _, after := _, guard := _ } :: _) _ _
       refine store_new W3 (vwv tk1 ow1 (.slice a1 n1 c1)) 29 rfl rfl rfl rfl rfl info29 HV1.out ?_))
  intro W4 hS4 g4
  obtain ⟨v1b, hvb⟩ : ∃ b, W3.heap.size = b := ⟨_, rfl⟩
  have S4 := hS4 _ _ HB.out
  rw [hvb] at S4 ⊢
  replace HB : Keep (Sep W W4 (boxA v1b (vwv tk1 ow1 (.slice a1 n1 c1)) 29 :: rowV 33 5 (.slice a1 n1 c1) n1 (fl snv T1) :: boxA b4 [iv p, iv rad, iv sho] 39 :: boxA b3 [.int .u64 tick, vc, vs, iv nx] 37 :: [])) := ⟨S4⟩
  clear S4 hS4 g4 hvb HV1
  go_upto_region 5 with fail
  go_cut [10, 11] (fun s10 s11 wx => ∃ (v2b : Nat) (tk2 : Int) (ow2 : Cr) (a2 : Option Addr) (n2 c2 : Nat) (T2 : List Sn) (cd2 : Int), s10 = pt v2b ∧ s11 = iv cd2 ∧ Keep (T2.length = n2 ∧ n2 ≤ 32 ∧ OfP tick LC LS p rad s2 tk2 ow2 T2 cd2) ∧ Keep (Sep W wx (boxA v2b (vwv tk2 ow2 (.slice a2 n2 c2)) 29 :: rowV 33 5 (.slice a2 n2 c2) n2 (fl snv T2) :: boxA v1b (vwv tk1 ow1 (.slice a1 n1 c1)) 29 :: rowV 33 5 (.slice a1 n1 c1) n1 (fl snv T1) :: boxA b4 [iv p, iv rad, iv sho] 39 :: boxA b3 [.int .u64 tick, vc, vs, iv nx] 37 :: [])))
  case first  =>
    refine region_Y (S := fun w' => Sep W w' (boxA v1b (vwv tk1 ow1 (.slice a1 n1 c1)) 29 :: rowV 33 5 (.slice a1 n1 c1) n1 (fl snv T1) :: boxA b4 [iv p, iv rad, iv sho] 39 :: boxA b3 [.int .u64 tick, vc, vs, iv nx] 37 :: [])) [15] (by kernel_rfl) ?_
    obtain ⟨W0, hW0⟩ : ∃ W_, W4.drew = W_ := ⟨_, rfl⟩
    replace HB := Keep.mk (HB.out.grown (gr_drew _ none))
    rw [hW0] at HB ⊢
    clear hW0
    have hHeld : (fun w' => Sep W w' (boxA v1b (vwv tk1 ow1 (.slice a1 n1 c1)) 29 :: rowV 33 5 (.slice a1 n1 c1) n1 (fl snv T1) :: boxA b4 [iv p, iv rad, iv sho] 39 :: boxA b3 [.int .u64 tick, vc, vs, iv nx] 37 :: [])) W0 := HB.out
    refine wpAnyY_take (i := 0) (oi := _) (v := .agg ([.int .u64 tick, vc, vs, iv nx]).toArray) rfl (by kernel_rfl) (by kernel_rfl) (by kernel_rfl) (by kernel_rfl) (by kernel_rfl) (fun _ _ _ h => h) (yieldsIf_load_mid (by rfl) 37 _ rfl _ _ rfl _ _ (fun w hSw => (hSw.boxGet k3m).range) hds.1 hds.2 info37) (by assumption) ?_
    simp only [Act.put, List.getElem_toArray, List.getElem_cons_zero, List.setIfInBounds_toArray, List.set_cons_zero, List.set_cons_succ]
    refine wpAnyY_pure (i := 1) (oi := _) (v := ?_) rfl (by kernel_rfl) (by kernel_rfl) (by kernel_rfl) (by kernel_rfl) (fun _ _ _ h => h) (Or.inl ⟨by rfl, ?_⟩) ?_
    rotate_left
    · (intro w hSw; go_simp; first | done | (with_reducible rfl))
    simp only [Act.put, List.getElem_toArray, List.getElem_cons_succ, List.getElem_cons_zero, List.setIfInBounds_toArray, List.set_cons_zero, List.set_cons_succ]
    refine wpAnyY_take (i := 2) (oi := _) (v := ?_) rfl (by kernel_rfl) (by kernel_rfl) (by kernel_rfl) (by kernel_rfl) (by kernel_rfl) (fun _ _ _ h => h) (Or.inl ⟨by rfl, ?_⟩) (by assumption) ?_
    rotate_left
    · (intro w hSw; have q := (hSw.boxGet k2m).cellv 0 _ rfl; go_simp; first | done | (with_reducible rfl))
    simp only [Act.put, List.getElem_toArray, List.getElem_cons_succ, List.getElem_cons_zero, List.setIfInBounds_toArray, List.set_cons_zero, List.set_cons_succ]
    refine wpAnyY_pure (i := 3) (oi := _) (v := ?_) rfl (by kernel_rfl) (by kernel_rfl) (by kernel_rfl) (by kernel_rfl) (fun _ _ _ h => h) (Or.inl ⟨by rfl, ?_⟩) ?_
    rotate_left
    · (intro w hSw; go_simp; first | done | (with_reducible rfl))
    simp only [Act.put, List.getElem_toArray, List.getElem_cons_succ, List.getElem_cons_zero, List.setIfInBounds_toArray, List.set_cons_zero, List.set_cons_succ]
    refine wpAnyY_take (i := 4) (oi := _) (v := ?_) rfl (by kernel_rfl) (by kernel_rfl) (by kernel_rfl) (by kernel_rfl) (by kernel_rfl) (fun _ _ _ h => h) (Or.inl ⟨by rfl, ?_⟩) (by assumption) ?_
    rotate_left
    · (intro w hSw; have q := (hSw.boxGet k2m).cellv 1 _ rfl; go_simp; first | done | (with_reducible rfl))
    simp only [Act.put, List.getElem_toArray, List.getElem_cons_succ, List.getElem_cons_zero, List.setIfInBounds_toArray, List.set_cons_zero, List.set_cons_succ]
    refine wpAnyY_pure (i := 5) (oi := _) (v := ?_) rfl (by kernel_rfl) (by kernel_rfl) (by kernel_rfl) (by kernel_rfl) (fun _ _ _ h => h) (Or.inl ⟨by rfl, ?_⟩) ?_
    rotate_left
    · (intro w hSw; go_simp; first | done | (with_reducible rfl))
    simp only [Act.put, List.getElem_toArray, List.getElem_cons_succ, List.getElem_cons_zero, List.setIfInBounds_toArray, List.set_cons_zero, List.set_cons_succ]
    refine wpAnyY_take (i := 6) (oi := _) (v := ?_) rfl (by kernel_rfl) (by kernel_rfl) (by kernel_rfl) (by kernel_rfl) (by kernel_rfl) (fun _ _ _ h => h) (Or.inl ⟨by rfl, ?_⟩) (by assumption) ?_
    rotate_left
    · (intro w hSw; have q := (hSw.boxGet k2m).cellv 2 _ rfl; go_simp; first | done | (with_reducible rfl))
    simp only [Act.put, List.getElem_toArray, List.getElem_cons_succ, List.getElem_cons_zero, List.setIfInBounds_toArray, List.set_cons_zero, List.set_cons_succ]
    refine wpAnyY_pure (i := 8) (oi := _) (v := ?_) rfl (by kernel_rfl) (by kernel_rfl) (by kernel_rfl) (by kernel_rfl) (fun _ _ _ h => h) (Or.inl ⟨by rfl, ?_⟩) ?_
    rotate_left
    · (intro w hSw; go_simp; first | done | (with_reducible rfl))
    simp only [Act.put, List.getElem_toArray, List.getElem_cons_succ, List.getElem_cons_zero, List.setIfInBounds_toArray, List.set_cons_zero, List.set_cons_succ]
    refine wpAnyY_two (i := 7) (j := 14) (by kernel_rfl) rfl rfl (fun K hK => ?_) (fun K hK => ?_)
    · go_simp
      refine (lkept_c sho 32 (by decide) _).mono ?_
      rintro e wk1 ⟨rfl, hwk⟩
      rw [hwk]
      clear hwk wk1
      refine hK.out _ _ (fun h => h) ?_
      clear hK K
      refine wpAnyY_pure (i := 9) (oi := _) (v := ?_) rfl (by kernel_rfl) (by kernel_rfl) (by kernel_rfl) (by kernel_rfl) (fun _ _ _ h => h) (Or.inl ⟨by rfl, ?_⟩) ?_
      rotate_left
      · (intro w hSw; have q := hs2; go_simp; first | done | (with_reducible rfl))
      simp only [Act.put, List.getElem_toArray, List.getElem_cons_succ, List.getElem_cons_zero, List.setIfInBounds_toArray, List.set_cons_zero, List.set_cons_succ]
      refine wpAnyY_two (i := 10) (j := 14) (by kernel_rfl) rfl rfl (fun K hK => ?_) (fun K hK => ?_)
      · go_simp
        refine (of_u W0 tick nx p rad s2 vc vs LC LS (HS.out.kept HB.out.g)).mono ?_
        rintro e wo2 hOf
        obtain ⟨tk2, ow2, a2, n2, c2, T2, cd2, rfl, hl2, hm2, So, hp2⟩ := hOf.o
        have HP2 := Keep.mk (And.intro hl2 (And.intro hm2 hp2))
        have gO := So.g
        replace HB := Keep.mk (HB.out.join So)
        refine hK.out _ _ (fun h => h.grown gO) ?_
        clear hK K hOf So hl2 hm2 hp2 gO
        refine wpAnyY_pure (i := 11) (oi := _) (v := ?_) rfl (by kernel_rfl) (by kernel_rfl) (by kernel_rfl) (by kernel_rfl) (fun _ _ _ h => h) (Or.inl ⟨by rfl, ?_⟩) ?_
        rotate_left
        · (intro w hSw; go_simp; first | done | (with_reducible rfl))
        simp only [Act.put, List.getElem_toArray, List.getElem_cons_succ, List.getElem_cons_zero, List.setIfInBounds_toArray, List.set_cons_zero, List.set_cons_succ]
        refine wpAnyY_pure (i := 12) (oi := _) (v := ?_) rfl (by kernel_rfl) (by kernel_rfl) (by kernel_rfl) (by kernel_rfl) (fun _ _ _ h => h) (Or.inl ⟨by rfl, ?_⟩) ?_
        rotate_left
        · (intro w hSw; go_simp; first | done | (with_reducible rfl))
        simp only [Act.put, List.getElem_toArray, List.getElem_cons_succ, List.getElem_cons_zero, List.setIfInBounds_toArray, List.set_cons_zero, List.set_cons_succ]
        refine wpAnyY_pure (i := 13) (oi := _) (v := ?_) rfl (by kernel_rfl) (by kernel_rfl) (by kernel_rfl) (by kernel_rfl) (fun _ _ _ h => h) (Or.inl ⟨by rfl, ?_⟩) ?_
        rotate_left
        · (intro w hSw; go_simp; first | done | (with_reducible rfl))
        simp only [Act.put, List.getElem_toArray, List.getElem_cons_succ, List.getElem_cons_zero, List.setIfInBounds_toArray, List.set_cons_zero, List.set_cons_succ]
        refine wpAnyY_one (i := 14) (by kernel_rfl) rfl (fun K hK => ?_)
        have S_ := HB.out.newBox #[.int .u64 0, iv 0, .string { data := #[] }, iv 0, iv 0, iv 0, iv 0, iv 0, iv 0, iv 0, iv 0, iv 0, iv 0, iv 0, iv 0, .slice none 0 0] 29
        obtain ⟨wa3, hwa⟩ : ∃ W_, wo2.alloc (.cells #[.int .u64 0, iv 0, .string { data := #[] }, iv 0, iv 0, iv 0, iv 0, iv 0, iv 0, iv 0, iv 0, iv 0, iv 0, iv 0, iv 0, .slice none 0 0] 29) = W_ := ⟨_, rfl⟩
        obtain ⟨v2b, hvb⟩ : ∃ b_, wo2.heap.size = b_ := ⟨_, rfl⟩
        rw [hwa, hvb] at S_
        replace HB := Keep.mk S_
        clear S_
        have ga := World.grownBy_alloc wo2 (.cells #[.int .u64 0, iv 0, .string { data := #[] }, iv 0, iv 0, iv 0, iv 0, iv 0, iv 0, iv 0, iv 0, iv 0, iv 0, iv 0, iv 0, .slice none 0 0] 29) none
        rw [hwa] at ga
        go_simp
        clear hwa hvb
        refine hK.out _ _ (fun h => h.grown ga) ?_
        clear ga
        clear hK K
        refine wpAnyY_late (i := 15) (by kernel_rfl) rfl (by kernel_rfl) (fun K hK => ?_)
        rw [if_pos (show Region.wanted _ _ = true from rfl)]
        replace HB := Keep.mk HB.out
        refine wp_store_mid 29 _ _ rfl v2b 0 (vwv tk2 ow2 (.slice a2 n2 c2)).toArray rfl rfl ((HB.out.boxGet k0m).there 0 16 (Nat.le_refl _)) info29 (all_oneCell_toArray (vwv_one tk2 ow2 (.slice a2 n2 c2) ⟨_, _, _, rfl⟩)) ?_
        have S_ := HB.out.boxTurn ((HB.out.boxGet k0m).setCells (vwv tk2 ow2 (.slice a2 n2 c2)) 0) (gr_sets _ _ _ _)
        replace HB := Keep.mk S_
        clear S_
        refine hK.out _ _ ?_
        clear hK K
        change Keep (Sep W (World.setCells wa3 v2b 0 (vwv tk2 ow2 (.slice a2 n2 c2))) _) at HB
        show wpAnyY _ _ _ _ _ _ _ _ _ (World.setCells wa3 v2b 0 (vwv tk2 ow2 (.slice a2 n2 c2)))
        generalize World.setCells wa3 v2b 0 (vwv tk2 ow2 (.slice a2 n2 c2)) = ws4 at HB ⊢
        simp only [Act.put, List.getElem_toArray, List.getElem_cons_succ, List.getElem_cons_zero]
        refine wpAnyY_one (i := 16) (by kernel_rfl) rfl (fun K hK => ?_)
        go_simp
        refine hK.out _ _ (fun h => h) ?_
        clear hK K
        refine wpAnyY_done (by kernel_rfl) ?_ _
        clear hHeld
        go_wp2_with fail
        go_meet
        exact ⟨v2b, tk2, ow2, a2, n2, c2, T2, cd2, rfl, rfl, HP2, HB⟩
      · have S_ := HB.out.newBox #[.int .u64 0, iv 0, .string { data := #[] }, iv 0, iv 0, iv 0, iv 0, iv 0, iv 0, iv 0, iv 0, iv 0, iv 0, iv 0, iv 0, .slice none 0 0] 29
        obtain ⟨wa6, hwa⟩ : ∃ W_, W0.alloc (.cells #[.int .u64 0, iv 0, .string { data := #[] }, iv 0, iv 0, iv 0, iv 0, iv 0, iv 0, iv 0, iv 0, iv 0, iv 0, iv 0, iv 0, .slice none 0 0] 29) = W_ := ⟨_, rfl⟩
        obtain ⟨v2b, hvb⟩ : ∃ b_, W0.heap.size = b_ := ⟨_, rfl⟩
        rw [hwa, hvb] at S_
        replace HB := Keep.mk S_
        clear S_
        have ga := World.grownBy_alloc W0 (.cells #[.int .u64 0, iv 0, .string { data := #[] }, iv 0, iv 0, iv 0, iv 0, iv 0, iv 0, iv 0, iv 0, iv 0, iv 0, iv 0, iv 0, .slice none 0 0] 29) none
        rw [hwa] at ga
        go_simp
        clear hwa hvb
        refine hK.out _ _ (fun h => h.grown ga) ?_
        clear ga
        clear hK K
        refine wpAnyY_one (i := 10) (by kernel_rfl) rfl (fun K hK => ?_)
        go_simp
        refine (of_u wa6 tick nx p rad s2 vc vs LC LS (HS.out.kept HB.out.g)).mono ?_
        rintro e wo7 hOf
        obtain ⟨tk2, ow2, a2, n2, c2, T2, cd2, rfl, hl2, hm2, So, hp2⟩ := hOf.o
        have HP2 := Keep.mk (And.intro hl2 (And.intro hm2 hp2))
        have gO := So.g
        replace HB := Keep.mk (HB.out.join So)
        refine hK.out _ _ (fun h => h.grown gO) ?_
        clear hK K hOf So hl2 hm2 hp2 gO
        refine wpAnyY_pure (i := 11) (oi := _) (v := ?_) rfl (by kernel_rfl) (by kernel_rfl) (by kernel_rfl) (by kernel_rfl) (fun _ _ _ h => h) (Or.inl ⟨by rfl, ?_⟩) ?_
        rotate_left
        · (intro w hSw; go_simp; first | done | (with_reducible rfl))
        simp only [Act.put, List.getElem_toArray, List.getElem_cons_succ, List.getElem_cons_zero, List.setIfInBounds_toArray, List.set_cons_zero, List.set_cons_succ]
        refine wpAnyY_pure (i := 12) (oi := _) (v := ?_) rfl (by kernel_rfl) (by kernel_rfl) (by kernel_rfl) (by kernel_rfl) (fun _ _ _ h => h) (Or.inl ⟨by rfl, ?_⟩) ?_
        rotate_left
        · (intro w hSw; go_simp; first | done | (with_reducible rfl))
        simp only [Act.put, List.getElem_toArray, List.getElem_cons_succ, List.getElem_cons_zero, List.setIfInBounds_toArray, List.set_cons_zero, List.set_cons_succ]
        refine wpAnyY_pure (i := 13) (oi := _) (v := ?_) rfl (by kernel_rfl) (by kernel_rfl) (by kernel_rfl) (by kernel_rfl) (fun _ _ _ h => h) (Or.inl ⟨by rfl, ?_⟩) ?_
        rotate_left
        · (intro w hSw; go_simp; first | done | (with_reducible rfl))
        simp only [Act.put, List.getElem_toArray, List.getElem_cons_succ, List.getElem_cons_zero, List.setIfInBounds_toArray, List.set_cons_zero, List.set_cons_succ]
        refine wpAnyY_late (i := 15) (by kernel_rfl) rfl (by kernel_rfl) (fun K hK => ?_)
        rw [if_pos (show Region.wanted _ _ = true from rfl)]
        replace HB := Keep.mk HB.out.swap
        refine wp_store_mid 29 _ _ rfl v2b 0 (vwv tk2 ow2 (.slice a2 n2 c2)).toArray rfl rfl ((HB.out.boxGet k0m).there 0 16 (Nat.le_refl _)) info29 (all_oneCell_toArray (vwv_one tk2 ow2 (.slice a2 n2 c2) ⟨_, _, _, rfl⟩)) ?_
        have S_ := HB.out.boxTurn ((HB.out.boxGet k0m).setCells (vwv tk2 ow2 (.slice a2 n2 c2)) 0) (gr_sets _ _ _ _)
        replace HB := Keep.mk S_
        clear S_
        refine hK.out _ _ ?_
        clear hK K
        change Keep (Sep W (World.setCells wo7 v2b 0 (vwv tk2 ow2 (.slice a2 n2 c2))) _) at HB
        show wpAnyY _ _ _ _ _ _ _ _ _ (World.setCells wo7 v2b 0 (vwv tk2 ow2 (.slice a2 n2 c2)))
        generalize World.setCells wo7 v2b 0 (vwv tk2 ow2 (.slice a2 n2 c2)) = ws8 at HB ⊢
        simp only [Act.put, List.getElem_toArray, List.getElem_cons_succ, List.getElem_cons_zero]
        refine wpAnyY_one (i := 16) (by kernel_rfl) rfl (fun K hK => ?_)
        go_simp
        refine hK.out _ _ (fun h => h) ?_
        clear hK K
        refine wpAnyY_done (by kernel_rfl) ?_ _
        clear hHeld
        go_wp2_with fail
        go_meet
        exact ⟨v2b, tk2, ow2, a2, n2, c2, T2, cd2, rfl, rfl, HP2, HB⟩
    · have S_ := HB.out.newBox #[.int .u64 0, iv 0, .string { data := #[] }, iv 0, iv 0, iv 0, iv 0, iv 0, iv 0, iv 0, iv 0, iv 0, iv 0, iv 0, iv 0, .slice none 0 0] 29
      obtain ⟨wa10, hwa⟩ : ∃ W_, W0.alloc (.cells #[.int .u64 0, iv 0, .string { data := #[] }, iv 0, iv 0, iv 0, iv 0, iv 0, iv 0, iv 0, iv 0, iv 0, iv 0, iv 0, iv 0, .slice none 0 0] 29) = W_ := ⟨_, rfl⟩
      obtain ⟨v2b, hvb⟩ : ∃ b_, W0.heap.size = b_ := ⟨_, rfl⟩
      rw [hwa, hvb] at S_
      replace HB := Keep.mk S_
      clear S_
      have ga := World.grownBy_alloc W0 (.cells #[.int .u64 0, iv 0, .string { data := #[] }, iv 0, iv 0, iv 0, iv 0, iv 0, iv 0, iv 0, iv 0, iv 0, iv 0, iv 0, iv 0, .slice none 0 0] 29) none
      rw [hwa] at ga
      go_simp
      clear hwa hvb
      refine hK.out _ _ (fun h => h.grown ga) ?_
      clear ga
      clear hK K
      refine wpAnyY_one (i := 7) (by kernel_rfl) rfl (fun K hK => ?_)
      go_simp
      refine (lkept_c sho 32 (by decide) _).mono ?_
      rintro e wk11 ⟨rfl, hwk⟩
      rw [hwk]
      clear hwk wk11
      refine hK.out _ _ (fun h => h) ?_
      clear hK K
      refine wpAnyY_pure (i := 9) (oi := _) (v := ?_) rfl (by kernel_rfl) (by kernel_rfl) (by kernel_rfl) (by kernel_rfl) (fun _ _ _ h => h) (Or.inl ⟨by rfl, ?_⟩) ?_
      rotate_left
      · (intro w hSw; have q := hs2; go_simp; first | done | (with_reducible rfl))
      simp only [Act.put, List.getElem_toArray, List.getElem_cons_succ, List.getElem_cons_zero, List.setIfInBounds_toArray, List.set_cons_zero, List.set_cons_succ]
      refine wpAnyY_one (i := 10) (by kernel_rfl) rfl (fun K hK => ?_)
      go_simp
      refine (of_u wa10 tick nx p rad s2 vc vs LC LS (HS.out.kept HB.out.g)).mono ?_
      rintro e wo12 hOf
      obtain ⟨tk2, ow2, a2, n2, c2, T2, cd2, rfl, hl2, hm2, So, hp2⟩ := hOf.o
      have HP2 := Keep.mk (And.intro hl2 (And.intro hm2 hp2))
      have gO := So.g
      replace HB := Keep.mk (HB.out.join So)
      refine hK.out _ _ (fun h => h.grown gO) ?_
      clear hK K hOf So hl2 hm2 hp2 gO
      refine wpAnyY_pure (i := 11) (oi := _) (v := ?_) rfl (by kernel_rfl) (by kernel_rfl) (by kernel_rfl) (by kernel_rfl) (fun _ _ _ h => h) (Or.inl ⟨by rfl, ?_⟩) ?_
      rotate_left
      · (intro w hSw; go_simp; first | done | (with_reducible rfl))
      simp only [Act.put, List.getElem_toArray, List.getElem_cons_succ, List.getElem_cons_zero, List.setIfInBounds_toArray, List.set_cons_zero, List.set_cons_succ]
      refine wpAnyY_pure (i := 12) (oi := _) (v := ?_) rfl (by kernel_rfl) (by kernel_rfl) (by kernel_rfl) (by kernel_rfl) (fun _ _ _ h => h) (Or.inl ⟨by rfl, ?_⟩) ?_
      rotate_left
      · (intro w hSw; go_simp; first | done | (with_reducible rfl))
      simp only [Act.put, List.getElem_toArray, List.getElem_cons_succ, List.getElem_cons_zero, List.setIfInBounds_toArray, List.set_cons_zero, List.set_cons_succ]
      refine wpAnyY_pure (i := 13) (oi := _) (v := ?_) rfl (by kernel_rfl) (by kernel_rfl) (by kernel_rfl) (by kernel_rfl) (fun _ _ _ h => h) (Or.inl ⟨by rfl, ?_⟩) ?_
      rotate_left
      · (intro w hSw; go_simp; first | done | (with_reducible rfl))
      simp only [Act.put, List.getElem_toArray, List.getElem_cons_succ, List.getElem_cons_zero, List.setIfInBounds_toArray, List.set_cons_zero, List.set_cons_succ]
      refine wpAnyY_late (i := 15) (by kernel_rfl) rfl (by kernel_rfl) (fun K hK => ?_)
      rw [if_pos (show Region.wanted _ _ = true from rfl)]
      replace HB := Keep.mk HB.out.swap
      refine wp_store_mid 29 _ _ rfl v2b 0 (vwv tk2 ow2 (.slice a2 n2 c2)).toArray rfl rfl ((HB.out.boxGet k0m).there 0 16 (Nat.le_refl _)) info29 (all_oneCell_toArray (vwv_one tk2 ow2 (.slice a2 n2 c2) ⟨_, _, _, rfl⟩)) ?_
      have S_ := HB.out.boxTurn ((HB.out.boxGet k0m).setCells (vwv tk2 ow2 (.slice a2 n2 c2)) 0) (gr_sets _ _ _ _)
      replace HB := Keep.mk S_
      clear S_
      refine hK.out _ _ ?_
      clear hK K
      change Keep (Sep W (World.setCells wo12 v2b 0 (vwv tk2 ow2 (.slice a2 n2 c2))) _) at HB
      show wpAnyY _ _ _ _ _ _ _ _ _ (World.setCells wo12 v2b 0 (vwv tk2 ow2 (.slice a2 n2 c2)))
      generalize World.setCells wo12 v2b 0 (vwv tk2 ow2 (.slice a2 n2 c2)) = ws13 at HB ⊢
      simp only [Act.put, List.getElem_toArray, List.getElem_cons_succ, List.getElem_cons_zero]
      refine wpAnyY_one (i := 16) (by kernel_rfl) rfl (fun K hK => ?_)
      go_simp
      refine hK.out _ _ (fun h => h) ?_
      clear hK K
      refine wpAnyY_done (by kernel_rfl) ?_ _
      clear hHeld
      go_wp2_with fail
      go_meet
      exact ⟨v2b, tk2, ow2, a2, n2, c2, T2, cd2, rfl, rfl, HP2, HB⟩
  case rest =>
  clear HB
  obtain ⟨v2b, tk2, ow2, a2, n2, c2, T2, cd2, rfl, rfl, HP2, HB⟩ := hcut
  rename World => W5
  go_upto_region 6 with fail
  go_cut [12, 13] (fun s12 s13 wx => ∃ (v3b : Nat) (tk3 : Int) (ow3 : Cr) (a3 : Option Addr) (n3 c3 : Nat) (T3 : List Sn) (cd3 : Int), s12 = pt v3b ∧ s13 = iv cd3 ∧ Keep (T3.length = n3 ∧ n3 ≤ 32 ∧ OfP tick LC LS p r3 sho tk3 ow3 T3 cd3) ∧ Keep (Sep W wx (boxA v3b (vwv tk3 ow3 (.slice a3 n3 c3)) 29 :: rowV 33 5 (.slice a3 n3 c3) n3 (fl snv T3) :: boxA v2b (vwv tk2 ow2 (.slice a2 n2 c2)) 29 :: rowV 33 5 (.slice a2 n2 c2) n2 (fl snv T2) :: boxA v1b (vwv tk1 ow1 (.slice a1 n1 c1)) 29 :: rowV 33 5 (.slice a1 n1 c1) n1 (fl snv T1) :: boxA b4 [iv p, iv rad, iv sho] 39 :: boxA b3 [.int .u64 tick, vc, vs, iv nx] 37 :: [])))
  case first  =>
    as_aux_lemma =>
      refine region_Y (S := fun w' => Sep W w' (boxA v2b (vwv tk2 ow2 (.slice a2 n2 c2)) 29 :: rowV 33 5 (.slice a2 n2 c2) n2 (fl snv T2) :: boxA v1b (vwv tk1 ow1 (.slice a1 n1 c1)) 29 :: rowV 33 5 (.slice a1 n1 c1) n1 (fl snv T1) :: boxA b4 [iv p, iv rad, iv sho] 39 :: boxA b3 [.int .u64 tick, vc, vs, iv nx] 37 :: [])) [15] (by kernel_rfl) ?_
      obtain ⟨W0, hW0⟩ : ∃ W_, W5.drew = W_ := ⟨_, rfl⟩
      replace HB := Keep.mk (HB.out.grown (gr_drew _ none))
      rw [hW0] at HB ⊢
      clear hW0
      have hHeld : (fun w' => Sep W w' (boxA v2b (vwv tk2 ow2 (.slice a2 n2 c2)) 29 :: rowV 33 5 (.slice a2 n2 c2) n2 (fl snv T2) :: boxA v1b (vwv tk1 ow1 (.slice a1 n1 c1)) 29 :: rowV 33 5 (.slice a1 n1 c1) n1 (fl snv T1) :: boxA b4 [iv p, iv rad, iv sho] 39 :: boxA b3 [.int .u64 tick, vc, vs, iv nx] 37 :: [])) W0 := HB.out
      refine wpAnyY_take (i := 0) (oi := _) (v := .agg ([.int .u64 tick, vc, vs, iv nx]).toArray) rfl (by kernel_rfl) (by kernel_rfl) (by kernel_rfl) (by kernel_rfl) (by kernel_rfl) (fun _ _ _ h => h) (yieldsIf_load_mid (by rfl) 37 _ rfl _ _ rfl _ _ (fun w hSw => (hSw.boxGet k5m).range) hds.1 hds.2 info37) (by assumption) ?_
      simp only [Act.put, List.getElem_toArray, List.getElem_cons_zero, List.setIfInBounds_toArray, List.set_cons_zero, List.set_cons_succ]
      refine wpAnyY_pure (i := 1) (oi := _) (v := ?_) rfl (by kernel_rfl) (by kernel_rfl) (by kernel_rfl) (by kernel_rfl) (fun _ _ _ h => h) (Or.inl ⟨by rfl, ?_⟩) ?_
      rotate_left
      · (intro w hSw; go_simp; first | done | (with_reducible rfl))
      simp only [Act.put, List.getElem_toArray, List.getElem_cons_succ, List.getElem_cons_zero, List.setIfInBounds_toArray, List.set_cons_zero, List.set_cons_succ]
      refine wpAnyY_take (i := 2) (oi := _) (v := ?_) rfl (by kernel_rfl) (by kernel_rfl) (by kernel_rfl) (by kernel_rfl) (by kernel_rfl) (fun _ _ _ h => h) (Or.inl ⟨by rfl, ?_⟩) (by assumption) ?_
      rotate_left
      · (intro w hSw; have q := (hSw.boxGet k4m).cellv 0 _ rfl; go_simp; first | done | (with_reducible rfl))
      simp only [Act.put, List.getElem_toArray, List.getElem_cons_succ, List.getElem_cons_zero, List.setIfInBounds_toArray, List.set_cons_zero, List.set_cons_succ]
      refine wpAnyY_pure (i := 3) (oi := _) (v := ?_) rfl (by kernel_rfl) (by kernel_rfl) (by kernel_rfl) (by kernel_rfl) (fun _ _ _ h => h) (Or.inl ⟨by rfl, ?_⟩) ?_
      rotate_left
      · (intro w hSw; go_simp; first | done | (with_reducible rfl))
      simp only [Act.put, List.getElem_toArray, List.getElem_cons_succ, List.getElem_cons_zero, List.setIfInBounds_toArray, List.set_cons_zero, List.set_cons_succ]
      refine wpAnyY_take (i := 4) (oi := _) (v := ?_) rfl (by kernel_rfl) (by kernel_rfl) (by kernel_rfl) (by kernel_rfl) (by kernel_rfl) (fun _ _ _ h => h) (Or.inl ⟨by rfl, ?_⟩) (by assumption) ?_
      rotate_left
      · (intro w hSw; have q := (hSw.boxGet k4m).cellv 1 _ rfl; go_simp; first | done | (with_reducible rfl))
      simp only [Act.put, List.getElem_toArray, List.getElem_cons_succ, List.getElem_cons_zero, List.setIfInBounds_toArray, List.set_cons_zero, List.set_cons_succ]
      refine wpAnyY_pure (i := 6) (oi := _) (v := ?_) rfl (by kernel_rfl) (by kernel_rfl) (by kernel_rfl) (by kernel_rfl) (fun _ _ _ h => h) (Or.inl ⟨by rfl, ?_⟩) ?_
      rotate_left
      · (intro w hSw; go_simp; first | done | (with_reducible rfl))
      simp only [Act.put, List.getElem_toArray, List.getElem_cons_succ, List.getElem_cons_zero, List.setIfInBounds_toArray, List.set_cons_zero, List.set_cons_succ]
      refine wpAnyY_pure (i := 8) (oi := _) (v := ?_) rfl (by kernel_rfl) (by kernel_rfl) (by kernel_rfl) (by kernel_rfl) (fun _ _ _ h => h) (Or.inl ⟨by rfl, ?_⟩) ?_
      rotate_left
      · (intro w hSw; go_simp; first | done | (with_reducible rfl))
      simp only [Act.put, List.getElem_toArray, List.getElem_cons_succ, List.getElem_cons_zero, List.setIfInBounds_toArray, List.set_cons_zero, List.set_cons_succ]
      refine wpAnyY_take (i := 9) (oi := _) (v := ?_) rfl (by kernel_rfl) (by kernel_rfl) (by kernel_rfl) (by kernel_rfl) (by kernel_rfl) (fun _ _ _ h => h) (Or.inl ⟨by rfl, ?_⟩) (by assumption) ?_
      rotate_left
      · (intro w hSw; have q := (hSw.boxGet k4m).cellv 2 _ rfl; go_simp; first | done | (with_reducible rfl))
      simp only [Act.put, List.getElem_toArray, List.getElem_cons_succ, List.getElem_cons_zero, List.setIfInBounds_toArray, List.set_cons_zero, List.set_cons_succ]
      refine wpAnyY_two (i := 5) (j := 14) (by kernel_rfl) rfl rfl (fun K hK => ?_) (fun K hK => ?_)
      · go_simp
        refine (lkept_c rad 1024 (by decide) _).mono ?_
        rintro e wk1 ⟨rfl, hwk⟩
        rw [hwk]
        clear hwk wk1
        refine hK.out _ _ (fun h => h) ?_
        clear hK K
        refine wpAnyY_pure (i := 7) (oi := _) (v := ?_) rfl (by kernel_rfl) (by kernel_rfl) (by kernel_rfl) (by kernel_rfl) (fun _ _ _ h => h) (Or.inl ⟨by rfl, ?_⟩) ?_
        rotate_left
        · (intro w hSw; have q := hr3; go_simp; first | done | (with_reducible rfl))
        simp only [Act.put, List.getElem_toArray, List.getElem_cons_succ, List.getElem_cons_zero, List.setIfInBounds_toArray, List.set_cons_zero, List.set_cons_succ]
        refine wpAnyY_two (i := 10) (j := 14) (by kernel_rfl) rfl rfl (fun K hK => ?_) (fun K hK => ?_)
        · go_simp
          refine (of_u W0 tick nx p r3 sho vc vs LC LS (HS.out.kept HB.out.g)).mono ?_
          rintro e wo2 hOf
          obtain ⟨tk3, ow3, a3, n3, c3, T3, cd3, rfl, hl3, hm3, So, hp3⟩ := hOf.o
          have HP3 := Keep.mk (And.intro hl3 (And.intro hm3 hp3))
          have gO := So.g
          replace HB := Keep.mk (HB.out.join So)
          refine hK.out _ _ (fun h => h.grown gO) ?_
          clear hK K hOf So hl3 hm3 hp3 gO
          refine wpAnyY_pure (i := 11) (oi := _) (v := ?_) rfl (by kernel_rfl) (by kernel_rfl) (by kernel_rfl) (by kernel_rfl) (fun _ _ _ h => h) (Or.inl ⟨by rfl, ?_⟩) ?_
          rotate_left
          · (intro w hSw; go_simp; first | done | (with_reducible rfl))
          simp only [Act.put, List.getElem_toArray, List.getElem_cons_succ, List.getElem_cons_zero, List.setIfInBounds_toArray, List.set_cons_zero, List.set_cons_succ]
          refine wpAnyY_pure (i := 12) (oi := _) (v := ?_) rfl (by kernel_rfl) (by kernel_rfl) (by kernel_rfl) (by kernel_rfl) (fun _ _ _ h => h) (Or.inl ⟨by rfl, ?_⟩) ?_
          rotate_left
          · (intro w hSw; go_simp; first | done | (with_reducible rfl))
          simp only [Act.put, List.getElem_toArray, List.getElem_cons_succ, List.getElem_cons_zero, List.setIfInBounds_toArray, List.set_cons_zero, List.set_cons_succ]
          refine wpAnyY_pure (i := 13) (oi := _) (v := ?_) rfl (by kernel_rfl) (by kernel_rfl) (by kernel_rfl) (by kernel_rfl) (fun _ _ _ h => h) (Or.inl ⟨by rfl, ?_⟩) ?_
          rotate_left
          · (intro w hSw; go_simp; first | done | (with_reducible rfl))
          simp only [Act.put, List.getElem_toArray, List.getElem_cons_succ, List.getElem_cons_zero, List.setIfInBounds_toArray, List.set_cons_zero, List.set_cons_succ]
          refine wpAnyY_one (i := 14) (by kernel_rfl) rfl (fun K hK => ?_)
          have S_ := HB.out.newBox #[.int .u64 0, iv 0, .string { data := #[] }, iv 0, iv 0, iv 0, iv 0, iv 0, iv 0, iv 0, iv 0, iv 0, iv 0, iv 0, iv 0, .slice none 0 0] 29
          obtain ⟨wa3, hwa⟩ : ∃ W_, wo2.alloc (.cells #[.int .u64 0, iv 0, .string { data := #[] }, iv 0, iv 0, iv 0, iv 0, iv 0, iv 0, iv 0, iv 0, iv 0, iv 0, iv 0, iv 0, .slice none 0 0] 29) = W_ := ⟨_, rfl⟩
          obtain ⟨v3b, hvb⟩ : ∃ b_, wo2.heap.size = b_ := ⟨_, rfl⟩
          rw [hwa, hvb] at S_
          replace HB := Keep.mk S_
          clear S_
          have ga := World.grownBy_alloc wo2 (.cells #[.int .u64 0, iv 0, .string { data := #[] }, iv 0, iv 0, iv 0, iv 0, iv 0, iv 0, iv 0, iv 0, iv 0, iv 0, iv 0, iv 0, .slice none 0 0] 29) none
          rw [hwa] at ga
          go_simp
          clear hwa hvb
          refine hK.out _ _ (fun h => h.grown ga) ?_
          clear ga
          clear hK K
          refine wpAnyY_late (i := 15) (by kernel_rfl) rfl (by kernel_rfl) (fun K hK => ?_)
          rw [if_pos (show Region.wanted _ _ = true from rfl)]
          replace HB := Keep.mk HB.out
          refine wp_store_mid 29 _ _ rfl v3b 0 (vwv tk3 ow3 (.slice a3 n3 c3)).toArray rfl rfl ((HB.out.boxGet k0m).there 0 16 (Nat.le_refl _)) info29 (all_oneCell_toArray (vwv_one tk3 ow3 (.slice a3 n3 c3) ⟨_, _, _, rfl⟩)) ?_
          have S_ := HB.out.boxTurn ((HB.out.boxGet k0m).setCells (vwv tk3 ow3 (.slice a3 n3 c3)) 0) (gr_sets _ _ _ _)
          replace HB := Keep.mk S_
          clear S_
          refine hK.out _ _ ?_
          clear hK K
          change Keep (Sep W (World.setCells wa3 v3b 0 (vwv tk3 ow3 (.slice a3 n3 c3))) _) at HB
          show wpAnyY _ _ _ _ _ _ _ _ _ (World.setCells wa3 v3b 0 (vwv tk3 ow3 (.slice a3 n3 c3)))
          generalize World.setCells wa3 v3b 0 (vwv tk3 ow3 (.slice a3 n3 c3)) = ws4 at HB ⊢
          simp only [Act.put, List.getElem_toArray, List.getElem_cons_succ, List.getElem_cons_zero]
          refine wpAnyY_one (i := 16) (by kernel_rfl) rfl (fun K hK => ?_)
          go_simp
          refine hK.out _ _ (fun h => h) ?_
          clear hK K
          refine wpAnyY_done (by kernel_rfl) ?_ _
          clear hHeld
          go_wp2_with fail
          go_meet
          exact ⟨v3b, tk3, ow3, a3, n3, c3, T3, cd3, rfl, rfl, HP3, HB⟩
        · have S_ := HB.out.newBox #[.int .u64 0, iv 0, .string { data := #[] }, iv 0, iv 0, iv 0, iv 0, iv 0, iv 0, iv 0, iv 0, iv 0, iv 0, iv 0, iv 0, .slice none 0 0] 29
          obtain ⟨wa6, hwa⟩ : ∃ W_, W0.alloc (.cells #[.int .u64 0, iv 0, .string { data := #[] }, iv 0, iv 0, iv 0, iv 0, iv 0, iv 0, iv 0, iv 0, iv 0, iv 0, iv 0, iv 0, .slice none 0 0] 29) = W_ := ⟨_, rfl⟩
          obtain ⟨v3b, hvb⟩ : ∃ b_, W0.heap.size = b_ := ⟨_, rfl⟩
          rw [hwa, hvb] at S_
          replace HB := Keep.mk S_
          clear S_
          have ga := World.grownBy_alloc W0 (.cells #[.int .u64 0, iv 0, .string { data := #[] }, iv 0, iv 0, iv 0, iv 0, iv 0, iv 0, iv 0, iv 0, iv 0, iv 0, iv 0, iv 0, .slice none 0 0] 29) none
          rw [hwa] at ga
          go_simp
          clear hwa hvb
          refine hK.out _ _ (fun h => h.grown ga) ?_
          clear ga
          clear hK K
          refine wpAnyY_one (i := 10) (by kernel_rfl) rfl (fun K hK => ?_)
          go_simp
          refine (of_u wa6 tick nx p r3 sho vc vs LC LS (HS.out.kept HB.out.g)).mono ?_
          rintro e wo7 hOf
          obtain ⟨tk3, ow3, a3, n3, c3, T3, cd3, rfl, hl3, hm3, So, hp3⟩ := hOf.o
          have HP3 := Keep.mk (And.intro hl3 (And.intro hm3 hp3))
          have gO := So.g
          replace HB := Keep.mk (HB.out.join So)
          refine hK.out _ _ (fun h => h.grown gO) ?_
          clear hK K hOf So hl3 hm3 hp3 gO
          refine wpAnyY_pure (i := 11) (oi := _) (v := ?_) rfl (by kernel_rfl) (by kernel_rfl) (by kernel_rfl) (by kernel_rfl) (fun _ _ _ h => h) (Or.inl ⟨by rfl, ?_⟩) ?_
          rotate_left
          · (intro w hSw; go_simp; first | done | (with_reducible rfl))
          simp only [Act.put, List.getElem_toArray, List.getElem_cons_succ, List.getElem_cons_zero, List.setIfInBounds_toArray, List.set_cons_zero, List.set_cons_succ]
          refine wpAnyY_pure (i := 12) (oi := _) (v := ?_) rfl (by kernel_rfl) (by kernel_rfl) (by kernel_rfl) (by kernel_rfl) (fun _ _ _ h => h) (Or.inl ⟨by rfl, ?_⟩) ?_
          rotate_left
          · (intro w hSw; go_simp; first | done | (with_reducible rfl))
          simp only [Act.put, List.getElem_toArray, List.getElem_cons_succ, List.getElem_cons_zero, List.setIfInBounds_toArray, List.set_cons_zero, List.set_cons_succ]
          refine wpAnyY_pure (i := 13) (oi := _) (v := ?_) rfl (by kernel_rfl) (by kernel_rfl) (by kernel_rfl) (by kernel_rfl) (fun _ _ _ h => h) (Or.inl ⟨by rfl, ?_⟩) ?_
          rotate_left
          · (intro w hSw; go_simp; first | done | (with_reducible rfl))
          simp only [Act.put, List.getElem_toArray, List.getElem_cons_succ, List.getElem_cons_zero, List.setIfInBounds_toArray, List.set_cons_zero, List.set_cons_succ]
          refine wpAnyY_late (i := 15) (by kernel_rfl) rfl (by kernel_rfl) (fun K hK => ?_)
          rw [if_pos (show Region.wanted _ _ = true from rfl)]
          replace HB := Keep.mk HB.out.swap
          refine wp_store_mid 29 _ _ rfl v3b 0 (vwv tk3 ow3 (.slice a3 n3 c3)).toArray rfl rfl ((HB.out.boxGet k0m).there 0 16 (Nat.le_refl _)) info29 (all_oneCell_toArray (vwv_one tk3 ow3 (.slice a3 n3 c3) ⟨_, _, _, rfl⟩)) ?_
          have S_ := HB.out.boxTurn ((HB.out.boxGet k0m).setCells (vwv tk3 ow3 (.slice a3 n3 c3)) 0) (gr_sets _ _ _ _)
          replace HB := Keep.mk S_
          clear S_
          refine hK.out _ _ ?_
          clear hK K
          change Keep (Sep W (World.setCells wo7 v3b 0 (vwv tk3 ow3 (.slice a3 n3 c3))) _) at HB
          show wpAnyY _ _ _ _ _ _ _ _ _ (World.setCells wo7 v3b 0 (vwv tk3 ow3 (.slice a3 n3 c3)))
          generalize World.setCells wo7 v3b 0 (vwv tk3 ow3 (.slice a3 n3 c3)) = ws8 at HB ⊢
          simp only [Act.put, List.getElem_toArray, List.getElem_cons_succ, List.getElem_cons_zero]
          refine wpAnyY_one (i := 16) (by kernel_rfl) rfl (fun K hK => ?_)
          go_simp
          refine hK.out _ _ (fun h => h) ?_
          clear hK K
          refine wpAnyY_done (by kernel_rfl) ?_ _
          clear hHeld
          go_wp2_with fail
          go_meet
          exact ⟨v3b, tk3, ow3, a3, n3, c3, T3, cd3, rfl, rfl, HP3, HB⟩
      · have S_ := HB.out.newBox #[.int .u64 0, iv 0, .string { data := #[] }, iv 0, iv 0, iv 0, iv 0, iv 0, iv 0, iv 0, iv 0, iv 0, iv 0, iv 0, iv 0, .slice none 0 0] 29
        obtain ⟨wa10, hwa⟩ : ∃ W_, W0.alloc (.cells #[.int .u64 0, iv 0, .string { data := #[] }, iv 0, iv 0, iv 0, iv 0, iv 0, iv 0, iv 0, iv 0, iv 0, iv 0, iv 0, iv 0, .slice none 0 0] 29) = W_ := ⟨_, rfl⟩
        obtain ⟨v3b, hvb⟩ : ∃ b_, W0.heap.size = b_ := ⟨_, rfl⟩
        rw [hwa, hvb] at S_
        replace HB := Keep.mk S_
        clear S_
        have ga := World.grownBy_alloc W0 (.cells #[.int .u64 0, iv 0, .string { data := #[] }, iv 0, iv 0, iv 0, iv 0, iv 0, iv 0, iv 0, iv 0, iv 0, iv 0, iv 0, iv 0, .slice none 0 0] 29) none
        rw [hwa] at ga
        go_simp
        clear hwa hvb
        refine hK.out _ _ (fun h => h.grown ga) ?_
        clear ga
        clear hK K
        refine wpAnyY_one (i := 5) (by kernel_rfl) rfl (fun K hK => ?_)
        go_simp
        refine (lkept_c rad 1024 (by decide) _).mono ?_
        rintro e wk11 ⟨rfl, hwk⟩
        rw [hwk]
        clear hwk wk11
        refine hK.out _ _ (fun h => h) ?_
        clear hK K
        refine wpAnyY_pure (i := 7) (oi := _) (v := ?_) rfl (by kernel_rfl) (by kernel_rfl) (by kernel_rfl) (by kernel_rfl) (fun _ _ _ h => h) (Or.inl ⟨by rfl, ?_⟩) ?_
        rotate_left
        · (intro w hSw; have q := hr3; go_simp; first | done | (with_reducible rfl))
        simp only [Act.put, List.getElem_toArray, List.getElem_cons_succ, List.getElem_cons_zero, List.setIfInBounds_toArray, List.set_cons_zero, List.set_cons_succ]
        refine wpAnyY_one (i := 10) (by kernel_rfl) rfl (fun K hK => ?_)
        go_simp
        refine (of_u wa10 tick nx p r3 sho vc vs LC LS (HS.out.kept HB.out.g)).mono ?_
        rintro e wo12 hOf
        obtain ⟨tk3, ow3, a3, n3, c3, T3, cd3, rfl, hl3, hm3, So, hp3⟩ := hOf.o
        have HP3 := Keep.mk (And.intro hl3 (And.intro hm3 hp3))
        have gO := So.g
        replace HB := Keep.mk (HB.out.join So)
        refine hK.out _ _ (fun h => h.grown gO) ?_
        clear hK K hOf So hl3 hm3 hp3 gO
        refine wpAnyY_pure (i := 11) (oi := _) (v := ?_) rfl (by kernel_rfl) (by kernel_rfl) (by kernel_rfl) (by kernel_rfl) (fun _ _ _ h => h) (Or.inl ⟨by rfl, ?_⟩) ?_
        rotate_left
        · (intro w hSw; go_simp; first | done | (with_reducible rfl))
        simp only [Act.put, List.getElem_toArray, List.getElem_cons_succ, List.getElem_cons_zero, List.setIfInBounds_toArray, List.set_cons_zero, List.set_cons_succ]
        refine wpAnyY_pure (i := 12) (oi := _) (v := ?_) rfl (by kernel_rfl) (by kernel_rfl) (by kernel_rfl) (by kernel_rfl) (fun _ _ _ h => h) (Or.inl ⟨by rfl, ?_⟩) ?_
        rotate_left
        · (intro w hSw; go_simp; first | done | (with_reducible rfl))
        simp only [Act.put, List.getElem_toArray, List.getElem_cons_succ, List.getElem_cons_zero, List.setIfInBounds_toArray, List.set_cons_zero, List.set_cons_succ]
        refine wpAnyY_pure (i := 13) (oi := _) (v := ?_) rfl (by kernel_rfl) (by kernel_rfl) (by kernel_rfl) (by kernel_rfl) (fun _ _ _ h => h) (Or.inl ⟨by rfl, ?_⟩) ?_
        rotate_left
        · (intro w hSw; go_simp; first | done | (with_reducible rfl))
        simp only [Act.put, List.getElem_toArray, List.getElem_cons_succ, List.getElem_cons_zero, List.setIfInBounds_toArray, List.set_cons_zero, List.set_cons_succ]
        refine wpAnyY_late (i := 15) (by kernel_rfl) rfl (by kernel_rfl) (fun K hK => ?_)
        rw [if_pos (show Region.wanted _ _ = true from rfl)]
        replace HB := Keep.mk HB.out.swap
        refine wp_store_mid 29 _ _ rfl v3b 0 (vwv tk3 ow3 (.slice a3 n3 c3)).toArray rfl rfl ((HB.out.boxGet k0m).there 0 16 (Nat.le_refl _)) info29 (all_oneCell_toArray (vwv_one tk3 ow3 (.slice a3 n3 c3) ⟨_, _, _, rfl⟩)) ?_
        have S_ := HB.out.boxTurn ((HB.out.boxGet k0m).setCells (vwv tk3 ow3 (.slice a3 n3 c3)) 0) (gr_sets _ _ _ _)
        replace HB := Keep.mk S_
        clear S_
        refine hK.out _ _ ?_
        clear hK K
        change Keep (Sep W (World.setCells wo12 v3b 0 (vwv tk3 ow3 (.slice a3 n3 c3))) _) at HB
        show wpAnyY _ _ _ _ _ _ _ _ _ (World.setCells wo12 v3b 0 (vwv tk3 ow3 (.slice a3 n3 c3)))
        generalize World.setCells wo12 v3b 0 (vwv tk3 ow3 (.slice a3 n3 c3)) = ws13 at HB ⊢
        simp only [Act.put, List.getElem_toArray, List.getElem_cons_succ, List.getElem_cons_zero]
        refine wpAnyY_one (i := 16) (by kernel_rfl) rfl (fun K hK => ?_)
        go_simp
        refine hK.out _ _ (fun h => h) ?_
        clear hK K
        refine wpAnyY_done (by kernel_rfl) ?_ _
        clear hHeld
        go_wp2_with fail
        go_meet
        exact ⟨v3b, tk3, ow3, a3, n3, c3, T3, cd3, rfl, rfl, HP3, HB⟩
  case rest =>
  clear HB
  obtain ⟨v3b, tk3, ow3, a3, n3, c3, T3, cd3, rfl, rfl, HP3, HB⟩ := hcut
  rename World => W6
  obtain rfl : cd2 = cd1 := HP2.out.2.2.cd HP1.out.2.2
  obtain rfl : cd3 = cd2 := HP3.out.2.2.cd HP1.out.2.2
  have HN1 : Keep (n1 ≤ 32) := ⟨HP1.out.2.1⟩
  clear hs2 hr3
  as_aux_lemma =>
    go_wp2_with fail
    go_loopw [14] (fun u14 wr => ∃ i : Nat, i ≤ n1 ∧ u14 = iv i ∧ Keep (Sep W wr (boxA v3b (vwv tk3 ow3 (.slice a3 n3 c3)) 29 :: rowV 33 5 (.slice a3 n3 c3) n3 (fl snv T3) :: boxA v2b (vwv tk2 ow2 (.slice a2 n2 c2)) 29 :: rowV 33 5 (.slice a2 n2 c2) n2 (fl snv T2) :: boxA v1b (vwv tk1 ow1 (.slice a1 n1 c1)) 29 :: rowV 33 5 (.slice a1 n1 c1) n1 (fl snv T1) :: boxA b4 [iv p, iv rad, iv sho] 39 :: boxA b3 [.int .u64 tick, vc, vs, iv nx] 37 :: []))) (fun u14 _ => (n1 - intOf u14).toNat)
    case atStart => exact ⟨0, by omega, rfl, HB⟩
    case round =>
      clear HB
      obtain ⟨i, hi, rfl, HB⟩ := hrel
      have d15 := (HB.out.boxGet k4m).cellv 15 _ rfl
      by_cases hlt : i < n1
      · have hlt1 : (i : Int) < (n1 : Int) := by omega
        have hi0 : (0 : Int) ≤ (i : Int) := by omega
        have hit : ((i : Nat) : Int).toNat = i := by omega
        have hiw : IntKind.i64.wrap ((i : Int) + 1) = ((i + 1 : Nat) : Int) := by have := HN1.out; rw [IntKind.wrap_i64]; omega
        obtain ⟨x, hx⟩ : ∃ x, T1[i]? = some x := ⟨_, List.getElem?_eq_getElem (by rw [HP1.out.1]; exact hlt)⟩
        obtain ⟨g1, rfl⟩ : ∃ g, a1 = some ⟨g, 0, none⟩ := by
          obtain ⟨g, c', e, _⟩ := own_any (HB.out.rowGet k5m) (by omega)
          injection e with e1 _ _
          exact ⟨g, e1⟩
        have HX := Keep.mk hx
        have HX2 : Keep (x ∈ T2) := ⟨HP1.out.2.2.show HP2.out.2.2 HLE.out.1 x (List.mem_of_getElem? hx)⟩
        have HIN : Keep (i < n1) := ⟨hlt⟩
        clear hx hi
        by_cases hlt2 : (n3 : Int) < kpZ sho 32
        · have hlt3 : decide ((n3 : Int) < kpZ sho 32) = true := decide_eq_true hlt2
          have hlt4 := hlt2
          have HX3 : Keep (x ∈ T3) := ⟨HP1.out.2.2.rad HP3.out.2.2 HLE.out.2 (by rw [HP3.out.1]; exact hlt2) x (List.mem_of_getElem? HX.out)⟩
          go_wp2_with fail
          clear d15
          as_aux_lemma =>
            refine region_Y (S := fun w' => Sep W w' (boxA v3b (vwv tk3 ow3 (.slice a3 n3 c3)) 29 :: rowV 33 5 (.slice a3 n3 c3) n3 (fl snv T3) :: boxA v2b (vwv tk2 ow2 (.slice a2 n2 c2)) 29 :: rowV 33 5 (.slice a2 n2 c2) n2 (fl snv T2) :: boxA v1b (vwv tk1 ow1 (.slice (some ⟨g1, 0, none⟩) n1 c1)) 29 :: rowV 33 5 (.slice (some ⟨g1, 0, none⟩) n1 c1) n1 (fl snv T1) :: boxA b4 [iv p, iv rad, iv sho] 39 :: boxA b3 [.int .u64 tick, vc, vs, iv nx] 37 :: [])) [] (by kernel_rfl) ?_
            obtain ⟨W0, hW0⟩ : ∃ W_, wr.drew = W_ := ⟨_, rfl⟩
            replace HB := Keep.mk (HB.out.grown (gr_drew _ none))
            rw [hW0] at HB ⊢
            clear hW0
            have hHeld : (fun w' => Sep W w' (boxA v3b (vwv tk3 ow3 (.slice a3 n3 c3)) 29 :: rowV 33 5 (.slice a3 n3 c3) n3 (fl snv T3) :: boxA v2b (vwv tk2 ow2 (.slice a2 n2 c2)) 29 :: rowV 33 5 (.slice a2 n2 c2) n2 (fl snv T2) :: boxA v1b (vwv tk1 ow1 (.slice (some ⟨g1, 0, none⟩) n1 c1)) 29 :: rowV 33 5 (.slice (some ⟨g1, 0, none⟩) n1 c1) n1 (fl snv T1) :: boxA b4 [iv p, iv rad, iv sho] 39 :: boxA b3 [.int .u64 tick, vc, vs, iv nx] 37 :: [])) W0 := HB.out
            refine wpAnyY_pure (i := 0) (oi := _) (v := ?_) rfl (by kernel_rfl) (by kernel_rfl) (by kernel_rfl) (by kernel_rfl) (fun _ _ _ h => h) (Or.inl ⟨by rfl, ?_⟩) ?_
            rotate_left
            · (intro w hSw; go_simp; first | done | (with_reducible rfl))
            simp only [Act.put, List.getElem_toArray, List.getElem_cons_zero, List.setIfInBounds_toArray, List.set_cons_zero, List.set_cons_succ]
            refine wpAnyY_take (i := 1) (oi := _) (v := ?_) rfl (by kernel_rfl) (by kernel_rfl) (by kernel_rfl) (by kernel_rfl) (by kernel_rfl) (fun _ _ _ h => h) (Or.inl ⟨by rfl, ?_⟩) (by assumption) ?_
            rotate_left
            · (intro w hSw; have q := (hSw.boxGet k2m).cellv 15 _ rfl; go_simp; first | done | (with_reducible rfl))
            simp only [Act.put, List.getElem_toArray, List.getElem_cons_succ, List.getElem_cons_zero, List.setIfInBounds_toArray, List.set_cons_zero, List.set_cons_succ]
            refine wpAnyY_pure (i := 2) (oi := _) (v := ?_) rfl (by kernel_rfl) (by kernel_rfl) (by kernel_rfl) (by kernel_rfl) (fun _ _ _ h => h) (Or.inl ⟨by rfl, ?_⟩) ?_
            rotate_left
            · (intro w hSw; go_simp; first | done | (with_reducible rfl))
            simp only [Act.put, List.getElem_toArray, List.getElem_cons_succ, List.getElem_cons_zero, List.setIfInBounds_toArray, List.set_cons_zero, List.set_cons_succ]
            refine wpAnyY_take (i := 3) (oi := _) (v := ?_) rfl (by kernel_rfl) (by kernel_rfl) (by kernel_rfl) (by kernel_rfl) (by kernel_rfl) (fun _ _ _ h => h) (Or.inl ⟨by rfl, ?_⟩) (by assumption) ?_
            rotate_left
            · (intro w hSw; have q := (hSw.boxGet k4m).cellv 15 _ rfl; go_simp; first | done | (with_reducible rfl))
            simp only [Act.put, List.getElem_toArray, List.getElem_cons_succ, List.getElem_cons_zero, List.setIfInBounds_toArray, List.set_cons_zero, List.set_cons_succ]
            refine wpAnyY_pure (i := 4) (oi := _) (v := ?_) rfl (by kernel_rfl) (by kernel_rfl) (by kernel_rfl) (by kernel_rfl) (fun _ _ _ h => h) (Or.inl ⟨by rfl, ?_⟩) ?_
            rotate_left
            · (intro w hSw; go_simp; first | done | (with_reducible rfl))
            simp only [Act.put, List.getElem_toArray, List.getElem_cons_succ, List.getElem_cons_zero, List.setIfInBounds_toArray, List.set_cons_zero, List.set_cons_succ]
            refine wpAnyY_pure (i := 5) (oi := _) (v := ?_) rfl (by kernel_rfl) (by kernel_rfl) (by kernel_rfl) (by kernel_rfl) (fun _ _ _ h => h) (Or.inl ⟨by rfl, ?_⟩) ?_
            rotate_left
            · (intro w hSw; go_simp; first | done | (with_reducible rfl))
            simp only [Act.put, List.getElem_toArray, List.getElem_cons_succ, List.getElem_cons_zero, List.setIfInBounds_toArray, List.set_cons_zero, List.set_cons_succ]
            refine wpAnyY_take (i := 6) (oi := _) (v := .agg (snv x).toArray) rfl (by kernel_rfl) (by kernel_rfl) (by kernel_rfl) (by kernel_rfl) (by kernel_rfl) (fun _ _ _ h => h) (yieldsIf_load_mid (by rfl) 33 _ rfl _ _ rfl _ _ (fun w hSw => fl_range snv_len (hSw.rowGet k5m) (by omega) i x HX.out) hdu.1 hdu.2 info33) (by assumption) ?_
            simp only [Act.put, List.getElem_toArray, List.getElem_cons_succ, List.getElem_cons_zero, List.setIfInBounds_toArray, List.set_cons_zero, List.set_cons_succ]
            refine wpAnyY_one (i := 7) (by kernel_rfl) rfl (fun K hK => ?_)
            go_simp
            refine (has_t _ (.slice a2 n2 c2) T2 x (Ls.own snv_len HB.out (by rw [HP2.out.1]; exact k3m)) (by have := HP2.out; omega) HX2.out).mono ?_
            rintro e wh1 ⟨rfl, g_⟩
            replace HB := Keep.mk (HB.out.grown g_)
            refine hK.out _ _ (fun h => h.grown g_) ?_
            clear hK K g_
            have hHeld : (fun w' => Sep W w' (boxA v3b (vwv tk3 ow3 (.slice a3 n3 c3)) 29 :: rowV 33 5 (.slice a3 n3 c3) n3 (fl snv T3) :: boxA v2b (vwv tk2 ow2 (.slice a2 n2 c2)) 29 :: rowV 33 5 (.slice a2 n2 c2) n2 (fl snv T2) :: boxA v1b (vwv tk1 ow1 (.slice (some ⟨g1, 0, none⟩) n1 c1)) 29 :: rowV 33 5 (.slice (some ⟨g1, 0, none⟩) n1 c1) n1 (fl snv T1) :: boxA b4 [iv p, iv rad, iv sho] 39 :: boxA b3 [.int .u64 tick, vc, vs, iv nx] 37 :: [])) wh1 := HB.out
            refine wpAnyY_pure (i := 8) (oi := _) (v := ?_) rfl (by kernel_rfl) (by kernel_rfl) (by kernel_rfl) (by kernel_rfl) (fun _ _ _ h => h) (Or.inl ⟨by rfl, ?_⟩) ?_
            rotate_left
            · (intro w hSw; go_simp; first | done | (with_reducible rfl))
            simp only [Act.put, List.getElem_toArray, List.getElem_cons_succ, List.getElem_cons_zero, List.setIfInBounds_toArray, List.set_cons_zero, List.set_cons_succ]
            refine wpAnyY_pure (i := 9) (oi := _) (v := ?_) rfl (by kernel_rfl) (by kernel_rfl) (by kernel_rfl) (by kernel_rfl) (fun _ _ _ h => h) (Or.inl ⟨by rfl, ?_⟩) ?_
            rotate_left
            · (intro w hSw; go_simp; first | done | (with_reducible rfl))
            simp only [Act.put, List.getElem_toArray, List.getElem_cons_succ, List.getElem_cons_zero, List.setIfInBounds_toArray, List.set_cons_zero, List.set_cons_succ]
            refine wpAnyY_pure (i := 10) (oi := _) (v := ?_) rfl (by kernel_rfl) (by kernel_rfl) (by kernel_rfl) (by kernel_rfl) (fun _ _ _ h => h) (Or.inl ⟨by rfl, ?_⟩) ?_
            rotate_left
            · (intro w hSw; go_simp; first | done | (with_reducible rfl))
            simp only [Act.put, List.getElem_toArray, List.getElem_cons_succ, List.getElem_cons_zero, List.setIfInBounds_toArray, List.set_cons_zero, List.set_cons_succ]
            refine wpAnyY_take (i := 11) (oi := _) (v := ?_) rfl (by kernel_rfl) (by kernel_rfl) (by kernel_rfl) (by kernel_rfl) (by kernel_rfl) (fun _ _ _ h => h) (Or.inl ⟨by rfl, ?_⟩) (by assumption) ?_
            rotate_left
            · (intro w hSw; have q := (hSw.boxGet k0m).cellv 15 _ rfl; go_simp; first | done | (with_reducible rfl))
            simp only [Act.put, List.getElem_toArray, List.getElem_cons_succ, List.getElem_cons_zero, List.setIfInBounds_toArray, List.set_cons_zero, List.set_cons_succ]
            refine wpAnyY_pure (i := 12) (oi := _) (v := ?_) rfl (by kernel_rfl) (by kernel_rfl) (by kernel_rfl) (by kernel_rfl) (fun _ _ _ h => h) (Or.inl ⟨by rfl, ?_⟩) ?_
            rotate_left
            · (intro w hSw; go_simp; first | done | (with_reducible rfl))
            simp only [Act.put, List.getElem_toArray, List.getElem_cons_succ, List.getElem_cons_zero, List.setIfInBounds_toArray, List.set_cons_zero, List.set_cons_succ]
            refine wpAnyY_pure (i := 13) (oi := _) (v := ?_) rfl (by kernel_rfl) (by kernel_rfl) (by kernel_rfl) (by kernel_rfl) (fun _ _ _ h => h) (Or.inl ⟨by rfl, ?_⟩) ?_
            rotate_left
            · (intro w hSw; go_simp; first | done | (with_reducible rfl))
            simp only [Act.put, List.getElem_toArray, List.getElem_cons_succ, List.getElem_cons_zero, List.setIfInBounds_toArray, List.set_cons_zero, List.set_cons_succ]
            refine wpAnyY_take (i := 14) (oi := _) (v := ?_) rfl (by kernel_rfl) (by kernel_rfl) (by kernel_rfl) (by kernel_rfl) (by kernel_rfl) (fun _ _ _ h => h) (Or.inl ⟨by rfl, ?_⟩) (by assumption) ?_
            rotate_left
            · (intro w hSw; have q := (hSw.boxGet (List.mem_cons_of_mem _ k5m)).cellv 2 _ rfl; go_simp; first | done | (with_reducible rfl))
            simp only [Act.put, List.getElem_toArray, List.getElem_cons_succ, List.getElem_cons_zero, List.setIfInBounds_toArray, List.set_cons_zero, List.set_cons_succ]
            refine wpAnyY_one (i := 15) (by kernel_rfl) rfl (fun K hK => ?_)
            go_simp
            refine (lkept_c sho 32 (by decide) _).mono ?_
            rintro e wk ⟨rfl, hwk⟩
            rw [hwk]
            clear hwk wk
            refine hK.out _ _ (fun h => h) ?_
            clear hK K
            refine wpAnyY_pure (i := 16) (oi := _) (v := .bool true) rfl (by kernel_rfl) (by kernel_rfl) (by kernel_rfl) (by kernel_rfl) (fun _ _ _ h => h) (Or.inl ⟨by rfl, ?_⟩) ?_
            · (intro w hSw; have q := hlt3; have q2 := hlt4; go_simp; first | done | rfl | (simp; done) | trace_state)
            simp only [Act.put, List.getElem_toArray, List.getElem_cons_succ, List.getElem_cons_zero, List.setIfInBounds_toArray, List.set_cons_zero, List.set_cons_succ]
            refine wpAnyY_pure (i := 17) (oi := _) (v := ?_) rfl (by kernel_rfl) (by kernel_rfl) (by kernel_rfl) (by kernel_rfl) (fun _ _ _ h => h) (Or.inl ⟨by rfl, ?_⟩) ?_
            rotate_left
            · (intro w hSw; go_simp; first | done | (with_reducible rfl))
            simp only [Act.put, List.getElem_toArray, List.getElem_cons_succ, List.getElem_cons_zero, List.setIfInBounds_toArray, List.set_cons_zero, List.set_cons_succ]
            refine wpAnyY_pure (i := 18) (oi := _) (v := ?_) rfl (by kernel_rfl) (by kernel_rfl) (by kernel_rfl) (by kernel_rfl) (fun _ _ _ h => h) (Or.inl ⟨by rfl, ?_⟩) ?_
            rotate_left
            · (intro w hSw; go_simp; first | done | (with_reducible rfl))
            simp only [Act.put, List.getElem_toArray, List.getElem_cons_succ, List.getElem_cons_zero, List.setIfInBounds_toArray, List.set_cons_zero, List.set_cons_succ]
            refine wpAnyY_take (i := 19) (oi := _) (v := ?_) rfl (by kernel_rfl) (by kernel_rfl) (by kernel_rfl) (by kernel_rfl) (by kernel_rfl) (fun _ _ _ h => h) (Or.inl ⟨by rfl, ?_⟩) (by assumption) ?_
            rotate_left
            · (intro w hSw; have q := (hSw.boxGet k0m).cellv 15 _ rfl; go_simp; first | done | (with_reducible rfl))
            simp only [Act.put, List.getElem_toArray, List.getElem_cons_succ, List.getElem_cons_zero, List.setIfInBounds_toArray, List.set_cons_zero, List.set_cons_succ]
            refine wpAnyY_pure (i := 20) (oi := _) (v := ?_) rfl (by kernel_rfl) (by kernel_rfl) (by kernel_rfl) (by kernel_rfl) (fun _ _ _ h => h) (Or.inl ⟨by rfl, ?_⟩) ?_
            rotate_left
            · (intro w hSw; go_simp; first | done | (with_reducible rfl))
            simp only [Act.put, List.getElem_toArray, List.getElem_cons_succ, List.getElem_cons_zero, List.setIfInBounds_toArray, List.set_cons_zero, List.set_cons_succ]
            refine wpAnyY_take (i := 21) (oi := _) (v := ?_) rfl (by kernel_rfl) (by kernel_rfl) (by kernel_rfl) (by kernel_rfl) (by kernel_rfl) (fun _ _ _ h => h) (Or.inl ⟨by rfl, ?_⟩) (by assumption) ?_
            rotate_left
            · (intro w hSw; have q := (hSw.boxGet k4m).cellv 15 _ rfl; go_simp; first | done | (with_reducible rfl))
            simp only [Act.put, List.getElem_toArray, List.getElem_cons_succ, List.getElem_cons_zero, List.setIfInBounds_toArray, List.set_cons_zero, List.set_cons_succ]
            refine wpAnyY_pure (i := 22) (oi := _) (v := ?_) rfl (by kernel_rfl) (by kernel_rfl) (by kernel_rfl) (by kernel_rfl) (fun _ _ _ h => h) (Or.inl ⟨by rfl, ?_⟩) ?_
            rotate_left
            · (intro w hSw; go_simp; first | done | (with_reducible rfl))
            simp only [Act.put, List.getElem_toArray, List.getElem_cons_succ, List.getElem_cons_zero, List.setIfInBounds_toArray, List.set_cons_zero, List.set_cons_succ]
            refine wpAnyY_pure (i := 23) (oi := _) (v := ?_) rfl (by kernel_rfl) (by kernel_rfl) (by kernel_rfl) (by kernel_rfl) (fun _ _ _ h => h) (Or.inl ⟨by rfl, ?_⟩) ?_
            rotate_left
            · (intro w hSw; go_simp; first | done | (with_reducible rfl))
            simp only [Act.put, List.getElem_toArray, List.getElem_cons_succ, List.getElem_cons_zero, List.setIfInBounds_toArray, List.set_cons_zero, List.set_cons_succ]
            refine wpAnyY_take (i := 24) (oi := _) (v := .agg (snv x).toArray) rfl (by kernel_rfl) (by kernel_rfl) (by kernel_rfl) (by kernel_rfl) (by kernel_rfl) (fun _ _ _ h => h) (yieldsIf_load_mid (by rfl) 33 _ rfl _ _ rfl _ _ (fun w hSw => fl_range snv_len (hSw.rowGet k5m) (by omega) i x HX.out) hdu.1 hdu.2 info33) (by assumption) ?_
            simp only [Act.put, List.getElem_toArray, List.getElem_cons_succ, List.getElem_cons_zero, List.setIfInBounds_toArray, List.set_cons_zero, List.set_cons_succ]
            refine wpAnyY_one (i := 25) (by kernel_rfl) rfl (fun K hK => ?_)
            go_simp
            refine (has_t _ (.slice a3 n3 c3) T3 x (Ls.own snv_len HB.out (by rw [HP3.out.1]; exact k1m)) (by have := HP3.out; omega) HX3.out).mono ?_
            rintro e wh2 ⟨rfl, g_⟩
            replace HB := Keep.mk (HB.out.grown g_)
            refine hK.out _ _ (fun h => h.grown g_) ?_
            clear hK K g_
            have hHeld : (fun w' => Sep W w' (boxA v3b (vwv tk3 ow3 (.slice a3 n3 c3)) 29 :: rowV 33 5 (.slice a3 n3 c3) n3 (fl snv T3) :: boxA v2b (vwv tk2 ow2 (.slice a2 n2 c2)) 29 :: rowV 33 5 (.slice a2 n2 c2) n2 (fl snv T2) :: boxA v1b (vwv tk1 ow1 (.slice (some ⟨g1, 0, none⟩) n1 c1)) 29 :: rowV 33 5 (.slice (some ⟨g1, 0, none⟩) n1 c1) n1 (fl snv T1) :: boxA b4 [iv p, iv rad, iv sho] 39 :: boxA b3 [.int .u64 tick, vc, vs, iv nx] 37 :: [])) wh2 := HB.out
            refine wpAnyY_pure (i := 26) (oi := _) (v := ?_) rfl (by kernel_rfl) (by kernel_rfl) (by kernel_rfl) (by kernel_rfl) (fun _ _ _ h => h) (Or.inl ⟨by rfl, ?_⟩) ?_
            rotate_left
            · (intro w hSw; go_simp; first | done | (with_reducible rfl))
            simp only [Act.put, List.getElem_toArray, List.getElem_cons_succ, List.getElem_cons_zero, List.setIfInBounds_toArray, List.set_cons_zero, List.set_cons_succ]
            refine wpAnyY_pure (i := 27) (oi := _) (v := ?_) rfl (by kernel_rfl) (by kernel_rfl) (by kernel_rfl) (by kernel_rfl) (fun _ _ _ h => h) (Or.inl ⟨by rfl, ?_⟩) ?_
            rotate_left
            · (intro w hSw; go_simp; first | done | (with_reducible rfl))
            simp only [Act.put, List.getElem_toArray, List.getElem_cons_succ, List.getElem_cons_zero, List.setIfInBounds_toArray, List.set_cons_zero, List.set_cons_succ]
            refine wpAnyY_pure (i := 28) (oi := _) (v := ?_) rfl (by kernel_rfl) (by kernel_rfl) (by kernel_rfl) (by kernel_rfl) (fun _ _ _ h => h) (Or.inl ⟨by rfl, ?_⟩) ?_
            rotate_left
            · (intro w hSw; go_simp; first | done | (with_reducible rfl))
            simp only [Act.put, List.getElem_toArray, List.getElem_cons_succ, List.getElem_cons_zero, List.setIfInBounds_toArray, List.set_cons_zero, List.set_cons_succ]
            refine wpAnyY_done (by kernel_rfl) ?_ _
            clear hHeld
            go_wp2_with fail
            go_roundw
            case rel => exact ⟨i + 1, HIN.out, rfl, HB⟩
            case measure => simp [intOf]; have := HIN.out; omega
        · have hlt3 : decide ((n3 : Int) < kpZ sho 32) = false := decide_eq_false hlt2
          have hlt4 : kpZ sho 32 ≤ (n3 : Int) := by omega
          go_wp2_with fail
          clear d15
          as_aux_lemma =>
            refine region_Y (S := fun w' => Sep W w' (boxA v3b (vwv tk3 ow3 (.slice a3 n3 c3)) 29 :: rowV 33 5 (.slice a3 n3 c3) n3 (fl snv T3) :: boxA v2b (vwv tk2 ow2 (.slice a2 n2 c2)) 29 :: rowV 33 5 (.slice a2 n2 c2) n2 (fl snv T2) :: boxA v1b (vwv tk1 ow1 (.slice (some ⟨g1, 0, none⟩) n1 c1)) 29 :: rowV 33 5 (.slice (some ⟨g1, 0, none⟩) n1 c1) n1 (fl snv T1) :: boxA b4 [iv p, iv rad, iv sho] 39 :: boxA b3 [.int .u64 tick, vc, vs, iv nx] 37 :: [])) [] (by kernel_rfl) ?_
            obtain ⟨W0, hW0⟩ : ∃ W_, wr.drew = W_ := ⟨_, rfl⟩
            replace HB := Keep.mk (HB.out.grown (gr_drew _ none))
            rw [hW0] at HB ⊢
            clear hW0
            have hHeld : (fun w' => Sep W w' (boxA v3b (vwv tk3 ow3 (.slice a3 n3 c3)) 29 :: rowV 33 5 (.slice a3 n3 c3) n3 (fl snv T3) :: boxA v2b (vwv tk2 ow2 (.slice a2 n2 c2)) 29 :: rowV 33 5 (.slice a2 n2 c2) n2 (fl snv T2) :: boxA v1b (vwv tk1 ow1 (.slice (some ⟨g1, 0, none⟩) n1 c1)) 29 :: rowV 33 5 (.slice (some ⟨g1, 0, none⟩) n1 c1) n1 (fl snv T1) :: boxA b4 [iv p, iv rad, iv sho] 39 :: boxA b3 [.int .u64 tick, vc, vs, iv nx] 37 :: [])) W0 := HB.out
            refine wpAnyY_pure (i := 0) (oi := _) (v := ?_) rfl (by kernel_rfl) (by kernel_rfl) (by kernel_rfl) (by kernel_rfl) (fun _ _ _ h => h) (Or.inl ⟨by rfl, ?_⟩) ?_
            rotate_left
            · (intro w hSw; go_simp; first | done | (with_reducible rfl))
            simp only [Act.put, List.getElem_toArray, List.getElem_cons_zero, List.setIfInBounds_toArray, List.set_cons_zero, List.set_cons_succ]
            refine wpAnyY_take (i := 1) (oi := _) (v := ?_) rfl (by kernel_rfl) (by kernel_rfl) (by kernel_rfl) (by kernel_rfl) (by kernel_rfl) (fun _ _ _ h => h) (Or.inl ⟨by rfl, ?_⟩) (by assumption) ?_
            rotate_left
            · (intro w hSw; have q := (hSw.boxGet k2m).cellv 15 _ rfl; go_simp; first | done | (with_reducible rfl))
            simp only [Act.put, List.getElem_toArray, List.getElem_cons_succ, List.getElem_cons_zero, List.setIfInBounds_toArray, List.set_cons_zero, List.set_cons_succ]
            refine wpAnyY_pure (i := 2) (oi := _) (v := ?_) rfl (by kernel_rfl) (by kernel_rfl) (by kernel_rfl) (by kernel_rfl) (fun _ _ _ h => h) (Or.inl ⟨by rfl, ?_⟩) ?_
            rotate_left
            · (intro w hSw; go_simp; first | done | (with_reducible rfl))
            simp only [Act.put, List.getElem_toArray, List.getElem_cons_succ, List.getElem_cons_zero, List.setIfInBounds_toArray, List.set_cons_zero, List.set_cons_succ]
            refine wpAnyY_take (i := 3) (oi := _) (v := ?_) rfl (by kernel_rfl) (by kernel_rfl) (by kernel_rfl) (by kernel_rfl) (by kernel_rfl) (fun _ _ _ h => h) (Or.inl ⟨by rfl, ?_⟩) (by assumption) ?_
            rotate_left
            · (intro w hSw; have q := (hSw.boxGet k4m).cellv 15 _ rfl; go_simp; first | done | (with_reducible rfl))
            simp only [Act.put, List.getElem_toArray, List.getElem_cons_succ, List.getElem_cons_zero, List.setIfInBounds_toArray, List.set_cons_zero, List.set_cons_succ]
            refine wpAnyY_pure (i := 4) (oi := _) (v := ?_) rfl (by kernel_rfl) (by kernel_rfl) (by kernel_rfl) (by kernel_rfl) (fun _ _ _ h => h) (Or.inl ⟨by rfl, ?_⟩) ?_
            rotate_left
            · (intro w hSw; go_simp; first | done | (with_reducible rfl))
            simp only [Act.put, List.getElem_toArray, List.getElem_cons_succ, List.getElem_cons_zero, List.setIfInBounds_toArray, List.set_cons_zero, List.set_cons_succ]
            refine wpAnyY_pure (i := 5) (oi := _) (v := ?_) rfl (by kernel_rfl) (by kernel_rfl) (by kernel_rfl) (by kernel_rfl) (fun _ _ _ h => h) (Or.inl ⟨by rfl, ?_⟩) ?_
            rotate_left
            · (intro w hSw; go_simp; first | done | (with_reducible rfl))
            simp only [Act.put, List.getElem_toArray, List.getElem_cons_succ, List.getElem_cons_zero, List.setIfInBounds_toArray, List.set_cons_zero, List.set_cons_succ]
            refine wpAnyY_take (i := 6) (oi := _) (v := .agg (snv x).toArray) rfl (by kernel_rfl) (by kernel_rfl) (by kernel_rfl) (by kernel_rfl) (by kernel_rfl) (fun _ _ _ h => h) (yieldsIf_load_mid (by rfl) 33 _ rfl _ _ rfl _ _ (fun w hSw => fl_range snv_len (hSw.rowGet k5m) (by omega) i x HX.out) hdu.1 hdu.2 info33) (by assumption) ?_
            simp only [Act.put, List.getElem_toArray, List.getElem_cons_succ, List.getElem_cons_zero, List.setIfInBounds_toArray, List.set_cons_zero, List.set_cons_succ]
            refine wpAnyY_one (i := 7) (by kernel_rfl) rfl (fun K hK => ?_)
            go_simp
            refine (has_t _ (.slice a2 n2 c2) T2 x (Ls.own snv_len HB.out (by rw [HP2.out.1]; exact k3m)) (by have := HP2.out; omega) HX2.out).mono ?_
            rintro e wh1 ⟨rfl, g_⟩
            replace HB := Keep.mk (HB.out.grown g_)
            refine hK.out _ _ (fun h => h.grown g_) ?_
            clear hK K g_
            have hHeld : (fun w' => Sep W w' (boxA v3b (vwv tk3 ow3 (.slice a3 n3 c3)) 29 :: rowV 33 5 (.slice a3 n3 c3) n3 (fl snv T3) :: boxA v2b (vwv tk2 ow2 (.slice a2 n2 c2)) 29 :: rowV 33 5 (.slice a2 n2 c2) n2 (fl snv T2) :: boxA v1b (vwv tk1 ow1 (.slice (some ⟨g1, 0, none⟩) n1 c1)) 29 :: rowV 33 5 (.slice (some ⟨g1, 0, none⟩) n1 c1) n1 (fl snv T1) :: boxA b4 [iv p, iv rad, iv sho] 39 :: boxA b3 [.int .u64 tick, vc, vs, iv nx] 37 :: [])) wh1 := HB.out
            refine wpAnyY_pure (i := 8) (oi := _) (v := ?_) rfl (by kernel_rfl) (by kernel_rfl) (by kernel_rfl) (by kernel_rfl) (fun _ _ _ h => h) (Or.inl ⟨by rfl, ?_⟩) ?_
            rotate_left
            · (intro w hSw; go_simp; first | done | (with_reducible rfl))
            simp only [Act.put, List.getElem_toArray, List.getElem_cons_succ, List.getElem_cons_zero, List.setIfInBounds_toArray, List.set_cons_zero, List.set_cons_succ]
            refine wpAnyY_pure (i := 9) (oi := _) (v := ?_) rfl (by kernel_rfl) (by kernel_rfl) (by kernel_rfl) (by kernel_rfl) (fun _ _ _ h => h) (Or.inl ⟨by rfl, ?_⟩) ?_
            rotate_left
            · (intro w hSw; go_simp; first | done | (with_reducible rfl))
            simp only [Act.put, List.getElem_toArray, List.getElem_cons_succ, List.getElem_cons_zero, List.setIfInBounds_toArray, List.set_cons_zero, List.set_cons_succ]
            refine wpAnyY_pure (i := 10) (oi := _) (v := ?_) rfl (by kernel_rfl) (by kernel_rfl) (by kernel_rfl) (by kernel_rfl) (fun _ _ _ h => h) (Or.inl ⟨by rfl, ?_⟩) ?_
            rotate_left
            · (intro w hSw; go_simp; first | done | (with_reducible rfl))
            simp only [Act.put, List.getElem_toArray, List.getElem_cons_succ, List.getElem_cons_zero, List.setIfInBounds_toArray, List.set_cons_zero, List.set_cons_succ]
            refine wpAnyY_take (i := 11) (oi := _) (v := ?_) rfl (by kernel_rfl) (by kernel_rfl) (by kernel_rfl) (by kernel_rfl) (by kernel_rfl) (fun _ _ _ h => h) (Or.inl ⟨by rfl, ?_⟩) (by assumption) ?_
            rotate_left
            · (intro w hSw; have q := (hSw.boxGet k0m).cellv 15 _ rfl; go_simp; first | done | (with_reducible rfl))
            simp only [Act.put, List.getElem_toArray, List.getElem_cons_succ, List.getElem_cons_zero, List.setIfInBounds_toArray, List.set_cons_zero, List.set_cons_succ]
            refine wpAnyY_pure (i := 12) (oi := _) (v := ?_) rfl (by kernel_rfl) (by kernel_rfl) (by kernel_rfl) (by kernel_rfl) (fun _ _ _ h => h) (Or.inl ⟨by rfl, ?_⟩) ?_
            rotate_left
            · (intro w hSw; go_simp; first | done | (with_reducible rfl))
            simp only [Act.put, List.getElem_toArray, List.getElem_cons_succ, List.getElem_cons_zero, List.setIfInBounds_toArray, List.set_cons_zero, List.set_cons_succ]
            refine wpAnyY_pure (i := 13) (oi := _) (v := ?_) rfl (by kernel_rfl) (by kernel_rfl) (by kernel_rfl) (by kernel_rfl) (fun _ _ _ h => h) (Or.inl ⟨by rfl, ?_⟩) ?_
            rotate_left
            · (intro w hSw; go_simp; first | done | (with_reducible rfl))
            simp only [Act.put, List.getElem_toArray, List.getElem_cons_succ, List.getElem_cons_zero, List.setIfInBounds_toArray, List.set_cons_zero, List.set_cons_succ]
            refine wpAnyY_take (i := 14) (oi := _) (v := ?_) rfl (by kernel_rfl) (by kernel_rfl) (by kernel_rfl) (by kernel_rfl) (by kernel_rfl) (fun _ _ _ h => h) (Or.inl ⟨by rfl, ?_⟩) (by assumption) ?_
            rotate_left
            · (intro w hSw; have q := (hSw.boxGet (List.mem_cons_of_mem _ k5m)).cellv 2 _ rfl; go_simp; first | done | (with_reducible rfl))
            simp only [Act.put, List.getElem_toArray, List.getElem_cons_succ, List.getElem_cons_zero, List.setIfInBounds_toArray, List.set_cons_zero, List.set_cons_succ]
            refine wpAnyY_one (i := 15) (by kernel_rfl) rfl (fun K hK => ?_)
            go_simp
            refine (lkept_c sho 32 (by decide) _).mono ?_
            rintro e wk ⟨rfl, hwk⟩
            rw [hwk]
            clear hwk wk
            refine hK.out _ _ (fun h => h) ?_
            clear hK K
            refine wpAnyY_pure (i := 16) (oi := _) (v := .bool false) rfl (by kernel_rfl) (by kernel_rfl) (by kernel_rfl) (by kernel_rfl) (fun _ _ _ h => h) (Or.inl ⟨by rfl, ?_⟩) ?_
            · (intro w hSw; have q := hlt3; have q2 := hlt4; go_simp; first | done | rfl | (simp; done) | trace_state)
            simp only [Act.put, List.getElem_toArray, List.getElem_cons_succ, List.getElem_cons_zero, List.setIfInBounds_toArray, List.set_cons_zero, List.set_cons_succ]
            refine wpAnyY_pure (i := 17) (oi := _) (v := ?_) rfl (by kernel_rfl) (by kernel_rfl) (by kernel_rfl) (by kernel_rfl) (fun _ _ _ h => h) (Or.inl ⟨by rfl, ?_⟩) ?_
            rotate_left
            · (intro w hSw; go_simp; first | done | (with_reducible rfl))
            simp only [Act.put, List.getElem_toArray, List.getElem_cons_succ, List.getElem_cons_zero, List.setIfInBounds_toArray, List.set_cons_zero, List.set_cons_succ]
            refine wpAnyY_pure (i := 18) (oi := _) (v := undef) rfl (by kernel_rfl) (by kernel_rfl) (by kernel_rfl) (by kernel_rfl) (fun _ _ _ h => h) (Or.inr ⟨by rfl, rfl⟩) ?_
            simp only [Act.put, List.getElem_toArray, List.getElem_cons_succ, List.getElem_cons_zero, List.setIfInBounds_toArray, List.set_cons_zero, List.set_cons_succ]
            refine wpAnyY_pure (i := 19) (oi := _) (v := undef) rfl (by kernel_rfl) (by kernel_rfl) (by kernel_rfl) (by kernel_rfl) (fun _ _ _ h => h) (Or.inr ⟨by rfl, rfl⟩) ?_
            simp only [Act.put, List.getElem_toArray, List.getElem_cons_succ, List.getElem_cons_zero, List.setIfInBounds_toArray, List.set_cons_zero, List.set_cons_succ]
            refine wpAnyY_pure (i := 20) (oi := _) (v := undef) rfl (by kernel_rfl) (by kernel_rfl) (by kernel_rfl) (by kernel_rfl) (fun _ _ _ h => h) (Or.inr ⟨by rfl, rfl⟩) ?_
            simp only [Act.put, List.getElem_toArray, List.getElem_cons_succ, List.getElem_cons_zero, List.setIfInBounds_toArray, List.set_cons_zero, List.set_cons_succ]
            refine wpAnyY_pure (i := 21) (oi := _) (v := undef) rfl (by kernel_rfl) (by kernel_rfl) (by kernel_rfl) (by kernel_rfl) (fun _ _ _ h => h) (Or.inr ⟨by rfl, rfl⟩) ?_
            simp only [Act.put, List.getElem_toArray, List.getElem_cons_succ, List.getElem_cons_zero, List.setIfInBounds_toArray, List.set_cons_zero, List.set_cons_succ]
            refine wpAnyY_pure (i := 22) (oi := _) (v := undef) rfl (by kernel_rfl) (by kernel_rfl) (by kernel_rfl) (by kernel_rfl) (fun _ _ _ h => h) (Or.inr ⟨by rfl, rfl⟩) ?_
            simp only [Act.put, List.getElem_toArray, List.getElem_cons_succ, List.getElem_cons_zero, List.setIfInBounds_toArray, List.set_cons_zero, List.set_cons_succ]
            refine wpAnyY_pure (i := 23) (oi := _) (v := undef) rfl (by kernel_rfl) (by kernel_rfl) (by kernel_rfl) (by kernel_rfl) (fun _ _ _ h => h) (Or.inr ⟨by rfl, rfl⟩) ?_
            simp only [Act.put, List.getElem_toArray, List.getElem_cons_succ, List.getElem_cons_zero, List.setIfInBounds_toArray, List.set_cons_zero, List.set_cons_succ]
            refine wpAnyY_pure (i := 24) (oi := _) (v := undef) rfl (by kernel_rfl) (by kernel_rfl) (by kernel_rfl) (by kernel_rfl) (fun _ _ _ h => h) (Or.inr ⟨by rfl, rfl⟩) ?_
            simp only [Act.put, List.getElem_toArray, List.getElem_cons_succ, List.getElem_cons_zero, List.setIfInBounds_toArray, List.set_cons_zero, List.set_cons_succ]
            refine wpAnyY_pure (i := 25) (oi := _) (v := undef) rfl (by kernel_rfl) (by kernel_rfl) (by kernel_rfl) (by kernel_rfl) (fun _ _ _ h => h) (Or.inr ⟨by rfl, rfl⟩) ?_
            simp only [Act.put, List.getElem_toArray, List.getElem_cons_succ, List.getElem_cons_zero, List.setIfInBounds_toArray, List.set_cons_zero, List.set_cons_succ]
            refine wpAnyY_pure (i := 26) (oi := _) (v := undef) rfl (by kernel_rfl) (by kernel_rfl) (by kernel_rfl) (by kernel_rfl) (fun _ _ _ h => h) (Or.inr ⟨by rfl, rfl⟩) ?_
            simp only [Act.put, List.getElem_toArray, List.getElem_cons_succ, List.getElem_cons_zero, List.setIfInBounds_toArray, List.set_cons_zero, List.set_cons_succ]
            refine wpAnyY_pure (i := 27) (oi := _) (v := ?_) rfl (by kernel_rfl) (by kernel_rfl) (by kernel_rfl) (by kernel_rfl) (fun _ _ _ h => h) (Or.inl ⟨by rfl, ?_⟩) ?_
            rotate_left
            · (intro w hSw; go_simp; first | done | (with_reducible rfl))
            simp only [Act.put, List.getElem_toArray, List.getElem_cons_succ, List.getElem_cons_zero, List.setIfInBounds_toArray, List.set_cons_zero, List.set_cons_succ]
            refine wpAnyY_pure (i := 28) (oi := _) (v := ?_) rfl (by kernel_rfl) (by kernel_rfl) (by kernel_rfl) (by kernel_rfl) (fun _ _ _ h => h) (Or.inl ⟨by rfl, ?_⟩) ?_
            rotate_left
            · (intro w hSw; go_simp; first | done | (with_reducible rfl))
            simp only [Act.put, List.getElem_toArray, List.getElem_cons_succ, List.getElem_cons_zero, List.setIfInBounds_toArray, List.set_cons_zero, List.set_cons_succ]
            refine wpAnyY_done (by kernel_rfl) ?_ _
            clear hHeld
            go_wp2_with fail
            go_roundw
            case rel => exact ⟨i + 1, HIN.out, rfl, HB⟩
            case measure => simp [intOf]; have := HIN.out; omega
      · have hlt1 : ¬ (i : Int) < (n1 : Int) := by omega
        have HR := Keep.mk ((HB.out.boxGet (List.mem_cons_of_mem _ (List.mem_cons_of_mem _ k5m))).range)
        have q1 := (HB.out.boxGet (List.mem_cons_of_mem _ k5m)).cellv 1 _ rfl
        have q2 := (HB.out.boxGet (List.mem_cons_of_mem _ k5m)).cellv 2 _ rfl
        clear hlt hi
        as_aux_lemma =>
          go_wp2_with (first
            | (with_reducible show wpList _ _ _ ({ dst := some 106, op := Op.load 37 _, type := _, pos := _, after := _, guard := _ } :: _) _ _
               refine wpList_load_mid rfl 37 _ rfl _ _ rfl ([.int .u64 tick, vc, vs, iv nx]) _ HR.out hds.1 hds.2 info37 ?_))
          refine (all_c wr tick nx rad sho vc vs LC LS (HS.out.kept HB.out.g) (by have := HNN.out; omega)).mono ?_
          rintro e W8 ⟨vA, rfl, q8⟩
          obtain ⟨C, Vs, f1, f2, fm, fq, S8⟩ := q8.o
          obtain ⟨aA, cA, rfl⟩ := own_slice (S8.rowGet k0m)
          obtain ⟨m, hm⟩ : ∃ m, Vs.length = m := ⟨_, rfl⟩
          rw [hm] at S8 ⊢
          replace HB : Keep (Sep W W8 (rowV 29 16 (.slice aA m cA) m (fl (vwE tick) Vs) :: (Vs.map rwE ++ (boxA v3b (vwv tk3 ow3 (.slice a3 n3 c3)) 29 :: rowV 33 5 (.slice a3 n3 c3) n3 (fl snv T3) :: boxA v2b (vwv tk2 ow2 (.slice a2 n2 c2)) 29 :: rowV 33 5 (.slice a2 n2 c2) n2 (fl snv T2) :: boxA v1b (vwv tk1 ow1 (.slice a1 n1 c1)) 29 :: rowV 33 5 (.slice a1 n1 c1) n1 (fl snv T1) :: boxA b4 [iv p, iv rad, iv sho] 39 :: boxA b3 [.int .u64 tick, vc, vs, iv nx] 37 :: [])))) := ⟨HB.out.join S8⟩
          have HF := Keep.mk (And.intro f1 (And.intro fm fq))
          have HVL := Keep.mk hm
          have HMB : Keep (m ≤ 1048576) := ⟨by have q := congrArg List.length fm; rw [List.length_map, hm] at q; have := HNN.out; omega⟩
          clear q8 S8 f1 f2 fm fq hm HR q1 q2 d15 hlt1
          go_wp2_with fail
          go_loopw [16, 17] (fun u16 u17 wr => ∃ (i : Nat) (fb : Bool), i ≤ m ∧ u17 = iv i ∧ u16 = .bool fb ∧ Keep (FnB fb (Vs.take i) p) ∧ Keep (Sep W wr (rowV 29 16 (.slice aA m cA) m (fl (vwE tick) Vs) :: (Vs.map rwE ++ (boxA v3b (vwv tk3 ow3 (.slice a3 n3 c3)) 29 :: rowV 33 5 (.slice a3 n3 c3) n3 (fl snv T3) :: boxA v2b (vwv tk2 ow2 (.slice a2 n2 c2)) 29 :: rowV 33 5 (.slice a2 n2 c2) n2 (fl snv T2) :: boxA v1b (vwv tk1 ow1 (.slice a1 n1 c1)) 29 :: rowV 33 5 (.slice a1 n1 c1) n1 (fl snv T1) :: boxA b4 [iv p, iv rad, iv sho] 39 :: boxA b3 [.int .u64 tick, vc, vs, iv nx] 37 :: []))))) (fun _ u17 _ => (m - intOf u17).toNat)
          case atStart => exact ⟨0, false, by omega, rfl, rfl, ⟨⟨by simp⟩⟩, HB⟩
          case round =>
            clear HB
            obtain ⟨i, fb, hi, rfl, rfl, HFB, HB⟩ := hrel
            by_cases hlt : i < m
            · have hlt1 : (i : Int) < (m : Int) := by omega
              have hi0 : (0 : Int) ≤ (i : Int) := by omega
              have hit : ((i : Nat) : Int).toNat = i := by omega
              have hiw : IntKind.i64.wrap ((i : Int) + 1) = ((i + 1 : Nat) : Int) := by have := HMB.out; rw [IntKind.wrap_i64]; omega
              obtain ⟨c, hc⟩ : ∃ x, Vs[i]? = some x := ⟨_, List.getElem?_eq_getElem (by rw [HVL.out]; exact hlt)⟩
              obtain ⟨gA, rfl⟩ : ∃ g, aA = some ⟨g, 0, none⟩ := by
                obtain ⟨g, c', e, _⟩ := own_any (HB.out.rowGet k0m) (by omega)
                injection e with e1 _ _
                exact ⟨g, e1⟩
              have HQ1 := Keep.mk hc
              have HTK : Keep (Vs.take (i + 1) = Vs.take i ++ [c]) := ⟨by rw [List.take_add_one, hc]; rfl⟩
              have HIN : Keep (i < m) := ⟨hlt⟩
              have HCM : Keep (c ∈ Vs) := ⟨List.mem_of_getElem? hc⟩
              clear hc hi
              go_upto_region 19 with fail
              go_cut [135] (fun s135 wx => s135 = .bool false ∧ Keep (Sep W wx (rowV 29 16 (.slice (some ⟨gA, 0, none⟩) m cA) m (fl (vwE tick) Vs) :: (Vs.map rwE ++ (boxA v3b (vwv tk3 ow3 (.slice a3 n3 c3)) 29 :: rowV 33 5 (.slice a3 n3 c3) n3 (fl snv T3) :: boxA v2b (vwv tk2 ow2 (.slice a2 n2 c2)) 29 :: rowV 33 5 (.slice a2 n2 c2) n2 (fl snv T2) :: boxA v1b (vwv tk1 ow1 (.slice a1 n1 c1)) 29 :: rowV 33 5 (.slice a1 n1 c1) n1 (fl snv T1) :: boxA b4 [iv p, iv rad, iv sho] 39 :: boxA b3 [.int .u64 tick, vc, vs, iv nx] 37 :: [])))))
              case first =>
                as_aux_lemma =>
                  cases i with
                  | zero =>
                    as_aux_lemma =>
                      refine region_Y (S := fun w' => Sep W w' (rowV 29 16 (.slice (some ⟨gA, 0, none⟩) m cA) m (fl (vwE tick) Vs) :: (Vs.map rwE ++ (boxA v3b (vwv tk3 ow3 (.slice a3 n3 c3)) 29 :: rowV 33 5 (.slice a3 n3 c3) n3 (fl snv T3) :: boxA v2b (vwv tk2 ow2 (.slice a2 n2 c2)) 29 :: rowV 33 5 (.slice a2 n2 c2) n2 (fl snv T2) :: boxA v1b (vwv tk1 ow1 (.slice a1 n1 c1)) 29 :: rowV 33 5 (.slice a1 n1 c1) n1 (fl snv T1) :: boxA b4 [iv p, iv rad, iv sho] 39 :: boxA b3 [.int .u64 tick, vc, vs, iv nx] 37 :: [])))) [] (by kernel_rfl) ?_
                      obtain ⟨W0, hW0⟩ : ∃ W_, wr.drew = W_ := ⟨_, rfl⟩
                      replace HB := Keep.mk (HB.out.grown (gr_drew _ none))
                      rw [hW0] at HB ⊢
                      clear hW0
                      have hHeld : (fun w' => Sep W w' (rowV 29 16 (.slice (some ⟨gA, 0, none⟩) m cA) m (fl (vwE tick) Vs) :: (Vs.map rwE ++ (boxA v3b (vwv tk3 ow3 (.slice a3 n3 c3)) 29 :: rowV 33 5 (.slice a3 n3 c3) n3 (fl snv T3) :: boxA v2b (vwv tk2 ow2 (.slice a2 n2 c2)) 29 :: rowV 33 5 (.slice a2 n2 c2) n2 (fl snv T2) :: boxA v1b (vwv tk1 ow1 (.slice a1 n1 c1)) 29 :: rowV 33 5 (.slice a1 n1 c1) n1 (fl snv T1) :: boxA b4 [iv p, iv rad, iv sho] 39 :: boxA b3 [.int .u64 tick, vc, vs, iv nx] 37 :: [])))) W0 := HB.out
                      refine wpAnyY_pure (i := 0) (oi := _) (v := ?_) rfl (by kernel_rfl) (by kernel_rfl) (by kernel_rfl) (by kernel_rfl) (fun _ _ _ h => h) (Or.inl ⟨by rfl, ?_⟩) ?_
                      rotate_left
                      · (intro w hSw; go_simp; first | done | (with_reducible rfl))
                      simp only [Act.put, List.getElem_toArray, List.getElem_cons_zero, List.setIfInBounds_toArray, List.set_cons_zero, List.set_cons_succ]
                      refine wpAnyY_pure (i := 1) (oi := _) (v := ?_) rfl (by kernel_rfl) (by kernel_rfl) (by kernel_rfl) (by kernel_rfl) (fun _ _ _ h => h) (Or.inl ⟨by rfl, ?_⟩) ?_
                      rotate_left
                      · (intro w hSw; go_simp; first | done | (with_reducible rfl))
                      simp only [Act.put, List.getElem_toArray, List.getElem_cons_succ, List.getElem_cons_zero, List.setIfInBounds_toArray, List.set_cons_zero, List.set_cons_succ]
                      refine wpAnyY_pure (i := 2) (oi := _) (v := ?_) rfl (by kernel_rfl) (by kernel_rfl) (by kernel_rfl) (by kernel_rfl) (fun _ _ _ h => h) (Or.inl ⟨by rfl, ?_⟩) ?_
                      rotate_left
                      · (intro w hSw; go_simp; first | done | (with_reducible rfl))
                      simp only [Act.put, List.getElem_toArray, List.getElem_cons_succ, List.getElem_cons_zero, List.setIfInBounds_toArray, List.set_cons_zero, List.set_cons_succ]
                      refine wpAnyY_pure (i := 3) (oi := _) (v := undef) rfl (by kernel_rfl) (by kernel_rfl) (by kernel_rfl) (by kernel_rfl) (fun _ _ _ h => h) (Or.inr ⟨by rfl, rfl⟩) ?_
                      simp only [Act.put, List.getElem_toArray, List.getElem_cons_succ, List.getElem_cons_zero, List.setIfInBounds_toArray, List.set_cons_zero, List.set_cons_succ]
                      refine wpAnyY_pure (i := 4) (oi := _) (v := undef) rfl (by kernel_rfl) (by kernel_rfl) (by kernel_rfl) (by kernel_rfl) (fun _ _ _ h => h) (Or.inr ⟨by rfl, rfl⟩) ?_
                      simp only [Act.put, List.getElem_toArray, List.getElem_cons_succ, List.getElem_cons_zero, List.setIfInBounds_toArray, List.set_cons_zero, List.set_cons_succ]
                      refine wpAnyY_pure (i := 5) (oi := _) (v := undef) rfl (by kernel_rfl) (by kernel_rfl) (by kernel_rfl) (by kernel_rfl) (fun _ _ _ h => h) (Or.inr ⟨by rfl, rfl⟩) ?_
                      simp only [Act.put, List.getElem_toArray, List.getElem_cons_succ, List.getElem_cons_zero, List.setIfInBounds_toArray, List.set_cons_zero, List.set_cons_succ]
                      refine wpAnyY_pure (i := 6) (oi := _) (v := undef) rfl (by kernel_rfl) (by kernel_rfl) (by kernel_rfl) (by kernel_rfl) (fun _ _ _ h => h) (Or.inr ⟨by rfl, rfl⟩) ?_
                      simp only [Act.put, List.getElem_toArray, List.getElem_cons_succ, List.getElem_cons_zero, List.setIfInBounds_toArray, List.set_cons_zero, List.set_cons_succ]
                      refine wpAnyY_pure (i := 7) (oi := _) (v := undef) rfl (by kernel_rfl) (by kernel_rfl) (by kernel_rfl) (by kernel_rfl) (fun _ _ _ h => h) (Or.inr ⟨by rfl, rfl⟩) ?_
                      simp only [Act.put, List.getElem_toArray, List.getElem_cons_succ, List.getElem_cons_zero, List.setIfInBounds_toArray, List.set_cons_zero, List.set_cons_succ]
                      refine wpAnyY_pure (i := 8) (oi := _) (v := undef) rfl (by kernel_rfl) (by kernel_rfl) (by kernel_rfl) (by kernel_rfl) (fun _ _ _ h => h) (Or.inr ⟨by rfl, rfl⟩) ?_
                      simp only [Act.put, List.getElem_toArray, List.getElem_cons_succ, List.getElem_cons_zero, List.setIfInBounds_toArray, List.set_cons_zero, List.set_cons_succ]
                      refine wpAnyY_pure (i := 9) (oi := _) (v := undef) rfl (by kernel_rfl) (by kernel_rfl) (by kernel_rfl) (by kernel_rfl) (fun _ _ _ h => h) (Or.inr ⟨by rfl, rfl⟩) ?_
                      simp only [Act.put, List.getElem_toArray, List.getElem_cons_succ, List.getElem_cons_zero, List.setIfInBounds_toArray, List.set_cons_zero, List.set_cons_succ]
                      refine wpAnyY_pure (i := 10) (oi := _) (v := undef) rfl (by kernel_rfl) (by kernel_rfl) (by kernel_rfl) (by kernel_rfl) (fun _ _ _ h => h) (Or.inr ⟨by rfl, rfl⟩) ?_
                      simp only [Act.put, List.getElem_toArray, List.getElem_cons_succ, List.getElem_cons_zero, List.setIfInBounds_toArray, List.set_cons_zero, List.set_cons_succ]
                      refine wpAnyY_pure (i := 11) (oi := _) (v := undef) rfl (by kernel_rfl) (by kernel_rfl) (by kernel_rfl) (by kernel_rfl) (fun _ _ _ h => h) (Or.inr ⟨by rfl, rfl⟩) ?_
                      simp only [Act.put, List.getElem_toArray, List.getElem_cons_succ, List.getElem_cons_zero, List.setIfInBounds_toArray, List.set_cons_zero, List.set_cons_succ]
                      refine wpAnyY_pure (i := 12) (oi := _) (v := undef) rfl (by kernel_rfl) (by kernel_rfl) (by kernel_rfl) (by kernel_rfl) (fun _ _ _ h => h) (Or.inr ⟨by rfl, rfl⟩) ?_
                      simp only [Act.put, List.getElem_toArray, List.getElem_cons_succ, List.getElem_cons_zero, List.setIfInBounds_toArray, List.set_cons_zero, List.set_cons_succ]
                      refine wpAnyY_pure (i := 13) (oi := _) (v := undef) rfl (by kernel_rfl) (by kernel_rfl) (by kernel_rfl) (by kernel_rfl) (fun _ _ _ h => h) (Or.inr ⟨by rfl, rfl⟩) ?_
                      simp only [Act.put, List.getElem_toArray, List.getElem_cons_succ, List.getElem_cons_zero, List.setIfInBounds_toArray, List.set_cons_zero, List.set_cons_succ]
                      refine wpAnyY_pure (i := 14) (oi := _) (v := undef) rfl (by kernel_rfl) (by kernel_rfl) (by kernel_rfl) (by kernel_rfl) (fun _ _ _ h => h) (Or.inr ⟨by rfl, rfl⟩) ?_
                      simp only [Act.put, List.getElem_toArray, List.getElem_cons_succ, List.getElem_cons_zero, List.setIfInBounds_toArray, List.set_cons_zero, List.set_cons_succ]
                      refine wpAnyY_pure (i := 15) (oi := _) (v := undef) rfl (by kernel_rfl) (by kernel_rfl) (by kernel_rfl) (by kernel_rfl) (fun _ _ _ h => h) (Or.inr ⟨by rfl, rfl⟩) ?_
                      simp only [Act.put, List.getElem_toArray, List.getElem_cons_succ, List.getElem_cons_zero, List.setIfInBounds_toArray, List.set_cons_zero, List.set_cons_succ]
                      refine wpAnyY_pure (i := 16) (oi := _) (v := undef) rfl (by kernel_rfl) (by kernel_rfl) (by kernel_rfl) (by kernel_rfl) (fun _ _ _ h => h) (Or.inr ⟨by rfl, rfl⟩) ?_
                      simp only [Act.put, List.getElem_toArray, List.getElem_cons_succ, List.getElem_cons_zero, List.setIfInBounds_toArray, List.set_cons_zero, List.set_cons_succ]
                      refine wpAnyY_pure (i := 17) (oi := _) (v := ?_) rfl (by kernel_rfl) (by kernel_rfl) (by kernel_rfl) (by kernel_rfl) (fun _ _ _ h => h) (Or.inl ⟨by rfl, ?_⟩) ?_
                      rotate_left
                      · (intro w hSw; go_simp; first | done | (with_reducible rfl))
                      simp only [Act.put, List.getElem_toArray, List.getElem_cons_succ, List.getElem_cons_zero, List.setIfInBounds_toArray, List.set_cons_zero, List.set_cons_succ]
                      refine wpAnyY_done (by kernel_rfl) ?_ _
                      clear hHeld
                      go_wp2_with fail
                      go_meet
                      exact ⟨rfl, HB⟩
                  | succ k =>
                    obtain ⟨c0, hc0⟩ : ∃ x, Vs[k]? = some x := ⟨_, List.getElem?_eq_getElem (by rw [HVL.out]; omega)⟩
                    have HQ0 := Keep.mk hc0
                    have HRS : Keep (c0.1.pl < c.1.pl) := ⟨by
                      have q := HF.out.1.1
                      rw [← HF.out.2.1] at q
                      have q2 := List.pairwise_iff_getElem.1 (List.pairwise_map.1 q)
                      obtain ⟨l1, e1⟩ := List.getElem?_eq_some_iff.1 hc0
                      obtain ⟨l2, e2⟩ := List.getElem?_eq_some_iff.1 HQ1.out
                      have q3 := q2 k (k + 1) l1 l2 (by omega)
                      rw [e1, e2] at q3
                      exact q3⟩
                    have hge : decide (c0.1.pl ≥ c.1.pl) = false := decide_eq_false (by have := HRS.out; omega)
                    have hge2 : ¬ c.1.pl ≤ c0.1.pl := by have := HRS.out; omega
                    have hkw : IntKind.i64.wrap (((k + 1 : Nat) : Int) - 1) = (k : Int) := by have := HMB.out; rw [IntKind.wrap_i64]; omega
                    have hkw2 : IntKind.i64.wrap ((k : Int) + 1 - 1) = (k : Int) := by have := HMB.out; rw [IntKind.wrap_i64]; omega
                    have hkw3 : IntKind.i64.wrap (k : Int) = (k : Int) := by have := HMB.out; rw [IntKind.wrap_i64]; omega
                    have hk1a : (0 : Int) ≤ (k : Int) + 1 := by omega
                    have hk1b : (k : Int) + 1 < (m : Int) := by omega
                    have hk1c : ((k : Int) + 1).toNat = k + 1 := by omega
                    have hkl : (k : Int) < (m : Int) := by omega
                    have hk0 : (0 : Int) ≤ (k : Int) := by omega
                    have hkt : ((k : Nat) : Int).toNat = k := by omega
                    have hgt : decide (0 < ((k + 1 : Nat) : Int)) = true := decide_eq_true (by omega)
                    clear hc0
                    as_aux_lemma =>
                      refine region_Y (S := fun w' => Sep W w' (rowV 29 16 (.slice (some ⟨gA, 0, none⟩) m cA) m (fl (vwE tick) Vs) :: (Vs.map rwE ++ (boxA v3b (vwv tk3 ow3 (.slice a3 n3 c3)) 29 :: rowV 33 5 (.slice a3 n3 c3) n3 (fl snv T3) :: boxA v2b (vwv tk2 ow2 (.slice a2 n2 c2)) 29 :: rowV 33 5 (.slice a2 n2 c2) n2 (fl snv T2) :: boxA v1b (vwv tk1 ow1 (.slice a1 n1 c1)) 29 :: rowV 33 5 (.slice a1 n1 c1) n1 (fl snv T1) :: boxA b4 [iv p, iv rad, iv sho] 39 :: boxA b3 [.int .u64 tick, vc, vs, iv nx] 37 :: [])))) [] (by kernel_rfl) ?_
                      obtain ⟨W0, hW0⟩ : ∃ W_, wr.drew = W_ := ⟨_, rfl⟩
                      replace HB := Keep.mk (HB.out.grown (gr_drew _ none))
                      rw [hW0] at HB ⊢
                      clear hW0
                      have hHeld : (fun w' => Sep W w' (rowV 29 16 (.slice (some ⟨gA, 0, none⟩) m cA) m (fl (vwE tick) Vs) :: (Vs.map rwE ++ (boxA v3b (vwv tk3 ow3 (.slice a3 n3 c3)) 29 :: rowV 33 5 (.slice a3 n3 c3) n3 (fl snv T3) :: boxA v2b (vwv tk2 ow2 (.slice a2 n2 c2)) 29 :: rowV 33 5 (.slice a2 n2 c2) n2 (fl snv T2) :: boxA v1b (vwv tk1 ow1 (.slice a1 n1 c1)) 29 :: rowV 33 5 (.slice a1 n1 c1) n1 (fl snv T1) :: boxA b4 [iv p, iv rad, iv sho] 39 :: boxA b3 [.int .u64 tick, vc, vs, iv nx] 37 :: [])))) W0 := HB.out
                      refine wpAnyY_pure (i := 0) (oi := _) (v := ?_) rfl (by kernel_rfl) (by kernel_rfl) (by kernel_rfl) (by kernel_rfl) (fun _ _ _ h => h) (Or.inl ⟨by rfl, ?_⟩) ?_
                      rotate_left
                      · (intro w hSw; go_simp; first | done | (with_reducible rfl))
                      simp only [Act.put, List.getElem_toArray, List.getElem_cons_zero, List.setIfInBounds_toArray, List.set_cons_zero, List.set_cons_succ]
                      refine wpAnyY_pure (i := 1) (oi := _) (v := ?_) rfl (by kernel_rfl) (by kernel_rfl) (by kernel_rfl) (by kernel_rfl) (fun _ _ _ h => h) (Or.inl ⟨by rfl, ?_⟩) ?_
                      rotate_left
                      · (intro w hSw; go_simp; first | done | (with_reducible rfl))
                      simp only [Act.put, List.getElem_toArray, List.getElem_cons_succ, List.getElem_cons_zero, List.setIfInBounds_toArray, List.set_cons_zero, List.set_cons_succ]
                      refine wpAnyY_pure (i := 2) (oi := _) (v := ?_) rfl (by kernel_rfl) (by kernel_rfl) (by kernel_rfl) (by kernel_rfl) (fun _ _ _ h => h) (Or.inl ⟨by rfl, ?_⟩) ?_
                      rotate_left
                      · (intro w hSw; go_simp; first | done | (with_reducible rfl))
                      simp only [Act.put, List.getElem_toArray, List.getElem_cons_succ, List.getElem_cons_zero, List.setIfInBounds_toArray, List.set_cons_zero, List.set_cons_succ]
                      refine wpAnyY_pure (i := 3) (oi := _) (v := ?_) rfl (by kernel_rfl) (by kernel_rfl) (by kernel_rfl) (by kernel_rfl) (fun _ _ _ h => h) (Or.inl ⟨by rfl, ?_⟩) ?_
                      rotate_left
                      · (intro w hSw; go_simp; first | done | (with_reducible rfl))
                      simp only [Act.put, List.getElem_toArray, List.getElem_cons_succ, List.getElem_cons_zero, List.setIfInBounds_toArray, List.set_cons_zero, List.set_cons_succ]
                      refine wpAnyY_pure (i := 4) (oi := _) (v := ?_) rfl (by kernel_rfl) (by kernel_rfl) (by kernel_rfl) (by kernel_rfl) (fun _ _ _ h => h) (Or.inl ⟨by rfl, ?_⟩) ?_
                      rotate_left
                      · (intro w hSw; go_simp; first | done | (with_reducible rfl))
                      simp only [Act.put, List.getElem_toArray, List.getElem_cons_succ, List.getElem_cons_zero, List.setIfInBounds_toArray, List.set_cons_zero, List.set_cons_succ]
                      refine wpAnyY_pure (i := 5) (oi := _) (v := ?_) rfl (by kernel_rfl) (by kernel_rfl) (by kernel_rfl) (by kernel_rfl) (fun _ _ _ h => h) (Or.inl ⟨by rfl, ?_⟩) ?_
                      rotate_left
                      · (intro w hSw; go_simp; first | done | (with_reducible rfl))
                      simp only [Act.put, List.getElem_toArray, List.getElem_cons_succ, List.getElem_cons_zero, List.setIfInBounds_toArray, List.set_cons_zero, List.set_cons_succ]
                      refine wpAnyY_pure (i := 6) (oi := _) (v := ?_) rfl (by kernel_rfl) (by kernel_rfl) (by kernel_rfl) (by kernel_rfl) (fun _ _ _ h => h) (Or.inl ⟨by rfl, ?_⟩) ?_
                      rotate_left
                      · (intro w hSw; go_simp; first | done | (with_reducible rfl))
                      simp only [Act.put, List.getElem_toArray, List.getElem_cons_succ, List.getElem_cons_zero, List.setIfInBounds_toArray, List.set_cons_zero, List.set_cons_succ]
                      refine wpAnyY_pure (i := 7) (oi := _) (v := ?_) rfl (by kernel_rfl) (by kernel_rfl) (by kernel_rfl) (by kernel_rfl) (fun _ _ _ h => h) (Or.inl ⟨by rfl, ?_⟩) ?_
                      rotate_left
                      · (intro w hSw; go_simp; first | done | (with_reducible rfl))
                      simp only [Act.put, List.getElem_toArray, List.getElem_cons_succ, List.getElem_cons_zero, List.setIfInBounds_toArray, List.set_cons_zero, List.set_cons_succ]
                      refine wpAnyY_pure (i := 8) (oi := _) (v := ?_) rfl (by kernel_rfl) (by kernel_rfl) (by kernel_rfl) (by kernel_rfl) (fun _ _ _ h => h) (Or.inl ⟨by rfl, ?_⟩) ?_
                      rotate_left
                      · (intro w hSw; go_simp; first | done | (with_reducible rfl))
                      simp only [Act.put, List.getElem_toArray, List.getElem_cons_succ, List.getElem_cons_zero, List.setIfInBounds_toArray, List.set_cons_zero, List.set_cons_succ]
                      refine wpAnyY_take (i := 9) (oi := _) (v := ?_) rfl (by kernel_rfl) (by kernel_rfl) (by kernel_rfl) (by kernel_rfl) (by kernel_rfl) (fun _ _ _ h => h) (Or.inl ⟨by rfl, ?_⟩) (by assumption) ?_
                      rotate_left
                      · (intro w hSw; have q := vw_pl (hSw.rowGet k0m) (by omega) HQ0.out; go_simp; first | done | (with_reducible rfl))
                      simp only [Act.put, List.getElem_toArray, List.getElem_cons_succ, List.getElem_cons_zero, List.setIfInBounds_toArray, List.set_cons_zero, List.set_cons_succ]
                      refine wpAnyY_pure (i := 10) (oi := _) (v := ?_) rfl (by kernel_rfl) (by kernel_rfl) (by kernel_rfl) (by kernel_rfl) (fun _ _ _ h => h) (Or.inl ⟨by rfl, ?_⟩) ?_
                      rotate_left
                      · (intro w hSw; go_simp; first | done | (with_reducible rfl))
                      simp only [Act.put, List.getElem_toArray, List.getElem_cons_succ, List.getElem_cons_zero, List.setIfInBounds_toArray, List.set_cons_zero, List.set_cons_succ]
                      refine wpAnyY_pure (i := 11) (oi := _) (v := ?_) rfl (by kernel_rfl) (by kernel_rfl) (by kernel_rfl) (by kernel_rfl) (fun _ _ _ h => h) (Or.inl ⟨by rfl, ?_⟩) ?_
                      rotate_left
                      · (intro w hSw; go_simp; first | done | (with_reducible rfl))
                      simp only [Act.put, List.getElem_toArray, List.getElem_cons_succ, List.getElem_cons_zero, List.setIfInBounds_toArray, List.set_cons_zero, List.set_cons_succ]
                      refine wpAnyY_pure (i := 12) (oi := _) (v := ?_) rfl (by kernel_rfl) (by kernel_rfl) (by kernel_rfl) (by kernel_rfl) (fun _ _ _ h => h) (Or.inl ⟨by rfl, ?_⟩) ?_
                      rotate_left
                      · (intro w hSw; go_simp; first | done | (with_reducible rfl))
                      simp only [Act.put, List.getElem_toArray, List.getElem_cons_succ, List.getElem_cons_zero, List.setIfInBounds_toArray, List.set_cons_zero, List.set_cons_succ]
                      refine wpAnyY_pure (i := 13) (oi := _) (v := ?_) rfl (by kernel_rfl) (by kernel_rfl) (by kernel_rfl) (by kernel_rfl) (fun _ _ _ h => h) (Or.inl ⟨by rfl, ?_⟩) ?_
                      rotate_left
                      · (intro w hSw; go_simp; first | done | (with_reducible rfl))
                      simp only [Act.put, List.getElem_toArray, List.getElem_cons_succ, List.getElem_cons_zero, List.setIfInBounds_toArray, List.set_cons_zero, List.set_cons_succ]
                      refine wpAnyY_pure (i := 14) (oi := _) (v := ?_) rfl (by kernel_rfl) (by kernel_rfl) (by kernel_rfl) (by kernel_rfl) (fun _ _ _ h => h) (Or.inl ⟨by rfl, ?_⟩) ?_
                      rotate_left
                      · (intro w hSw; go_simp; first | done | (with_reducible rfl))
                      simp only [Act.put, List.getElem_toArray, List.getElem_cons_succ, List.getElem_cons_zero, List.setIfInBounds_toArray, List.set_cons_zero, List.set_cons_succ]
                      refine wpAnyY_take (i := 15) (oi := _) (v := ?_) rfl (by kernel_rfl) (by kernel_rfl) (by kernel_rfl) (by kernel_rfl) (by kernel_rfl) (fun _ _ _ h => h) (Or.inl ⟨by rfl, ?_⟩) (by assumption) ?_
                      rotate_left
                      · (intro w hSw; have q := vw_pl (hSw.rowGet k0m) (by omega) HQ1.out; go_simp; first | done | (with_reducible rfl))
                      simp only [Act.put, List.getElem_toArray, List.getElem_cons_succ, List.getElem_cons_zero, List.setIfInBounds_toArray, List.set_cons_zero, List.set_cons_succ]
                      refine wpAnyY_pure (i := 16) (oi := _) (v := .bool false) rfl (by kernel_rfl) (by kernel_rfl) (by kernel_rfl) (by kernel_rfl) (fun _ _ _ h => h) (Or.inl ⟨by rfl, ?_⟩) ?_
                      · (intro w hSw; have q := hge; have q2 := hge2; go_simp; first | done | rfl | (simp; done) | trace_state)
                      simp only [Act.put, List.getElem_toArray, List.getElem_cons_succ, List.getElem_cons_zero, List.setIfInBounds_toArray, List.set_cons_zero, List.set_cons_succ]
                      refine wpAnyY_pure (i := 17) (oi := _) (v := ?_) rfl (by kernel_rfl) (by kernel_rfl) (by kernel_rfl) (by kernel_rfl) (fun _ _ _ h => h) (Or.inl ⟨by rfl, ?_⟩) ?_
                      rotate_left
                      · (intro w hSw; go_simp; first | done | (with_reducible rfl))
                      simp only [Act.put, List.getElem_toArray, List.getElem_cons_succ, List.getElem_cons_zero, List.setIfInBounds_toArray, List.set_cons_zero, List.set_cons_succ]
                      refine wpAnyY_done (by kernel_rfl) ?_ _
                      clear hHeld
                      go_wp2_with fail
                      go_meet
                      exact ⟨rfl, HB⟩
              case rest =>
              clear HB
              obtain ⟨rfl, HB⟩ := hcut
              rename World => W19
              by_cases hpp : c.1.pl = p
              · have hpe : (c.1.pl == p) = true := by simp [hpp]
                have hpe2 : decide (c.1.pl = p) = true := by simp [hpp]
                have HT1 := HF.out.2.2 c HCM.out
                have HRM : Keep (rwE c ∈ Vs.map rwE) := ⟨List.mem_map_of_mem HCM.out⟩
                have HFC : Keep (LC.find? (fun d => d.pl == p) = some c.1) := ⟨by
                  rw [← hpp]
                  exact (HF.out.1.2 c.1).1 (by rw [← HF.out.2.1]; exact List.mem_map_of_mem HCM.out)⟩
                have HEQ : Keep (tick = tk1 ∧ c.1 = ow1 ∧ c.2.2 = T1) := ⟨by
                  rcases HP1.out.2.2 with ⟨q, _⟩ | ⟨own, q1, q2, q3, q4, q5⟩
                  · rw [HFC.out] at q; cases q
                  · rw [HFC.out] at q1
                    injection q1 with q1
                    subst q1
                    exact ⟨q4.symm, q3.symm, HT1.1.uniq q5⟩⟩
                have HCL : Keep (c.2.2.length ≤ 281474976710656) := ⟨by have := HT1.1.le; omega⟩
                have HFB2 : Keep (FnB true (Vs.take (i + 1)) p) := ⟨⟨⟨fun _ => ⟨c, by rw [HTK.out]; simp, hpp⟩, fun _ => rfl⟩⟩⟩
                obtain ⟨va2, vn2, vc2, hv2⟩ := HT1.2
                have HVC := Keep.mk hv2
                clear HT1 hv2 hpp
                go_wp2_with fail
                as_aux_lemma =>
                  refine region_Y (S := fun w' => Sep W w' (rowV 29 16 (.slice (some ⟨gA, 0, none⟩) m cA) m (fl (vwE tick) Vs) :: (Vs.map rwE ++ (boxA v3b (vwv tk3 ow3 (.slice a3 n3 c3)) 29 :: rowV 33 5 (.slice a3 n3 c3) n3 (fl snv T3) :: boxA v2b (vwv tk2 ow2 (.slice a2 n2 c2)) 29 :: rowV 33 5 (.slice a2 n2 c2) n2 (fl snv T2) :: boxA v1b (vwv tk1 ow1 (.slice a1 n1 c1)) 29 :: rowV 33 5 (.slice a1 n1 c1) n1 (fl snv T1) :: boxA b4 [iv p, iv rad, iv sho] 39 :: boxA b3 [.int .u64 tick, vc, vs, iv nx] 37 :: [])))) [] (by kernel_rfl) ?_
                  obtain ⟨W21, hW21⟩ : ∃ W_, W19.drew = W_ := ⟨_, rfl⟩
                  replace HB := Keep.mk (HB.out.grown (gr_drew _ none))
                  rw [hW21] at HB ⊢
                  clear hW21
                  have hHeld : (fun w' => Sep W w' (rowV 29 16 (.slice (some ⟨gA, 0, none⟩) m cA) m (fl (vwE tick) Vs) :: (Vs.map rwE ++ (boxA v3b (vwv tk3 ow3 (.slice a3 n3 c3)) 29 :: rowV 33 5 (.slice a3 n3 c3) n3 (fl snv T3) :: boxA v2b (vwv tk2 ow2 (.slice a2 n2 c2)) 29 :: rowV 33 5 (.slice a2 n2 c2) n2 (fl snv T2) :: boxA v1b (vwv tk1 ow1 (.slice a1 n1 c1)) 29 :: rowV 33 5 (.slice a1 n1 c1) n1 (fl snv T1) :: boxA b4 [iv p, iv rad, iv sho] 39 :: boxA b3 [.int .u64 tick, vc, vs, iv nx] 37 :: [])))) W21 := HB.out
                  refine wpAnyY_pure (i := 0) (oi := _) (v := ?_) rfl (by kernel_rfl) (by kernel_rfl) (by kernel_rfl) (by kernel_rfl) (fun _ _ _ h => h) (Or.inl ⟨by rfl, ?_⟩) ?_
                  rotate_left
                  · (intro w hSw; go_simp; first | done | (with_reducible rfl))
                  simp only [Act.put, List.getElem_toArray, List.getElem_cons_zero, List.setIfInBounds_toArray, List.set_cons_zero, List.set_cons_succ]
                  refine wpAnyY_pure (i := 1) (oi := _) (v := ?_) rfl (by kernel_rfl) (by kernel_rfl) (by kernel_rfl) (by kernel_rfl) (fun _ _ _ h => h) (Or.inl ⟨by rfl, ?_⟩) ?_
                  rotate_left
                  · (intro w hSw; go_simp; first | done | (with_reducible rfl))
                  simp only [Act.put, List.getElem_toArray, List.getElem_cons_succ, List.getElem_cons_zero, List.setIfInBounds_toArray, List.set_cons_zero, List.set_cons_succ]
                  refine wpAnyY_pure (i := 2) (oi := _) (v := ?_) rfl (by kernel_rfl) (by kernel_rfl) (by kernel_rfl) (by kernel_rfl) (fun _ _ _ h => h) (Or.inl ⟨by rfl, ?_⟩) ?_
                  rotate_left
                  · (intro w hSw; go_simp; first | done | (with_reducible rfl))
                  simp only [Act.put, List.getElem_toArray, List.getElem_cons_succ, List.getElem_cons_zero, List.setIfInBounds_toArray, List.set_cons_zero, List.set_cons_succ]
                  refine wpAnyY_pure (i := 3) (oi := _) (v := ?_) rfl (by kernel_rfl) (by kernel_rfl) (by kernel_rfl) (by kernel_rfl) (fun _ _ _ h => h) (Or.inl ⟨by rfl, ?_⟩) ?_
                  rotate_left
                  · (intro w hSw; go_simp; first | done | (with_reducible rfl))
                  simp only [Act.put, List.getElem_toArray, List.getElem_cons_succ, List.getElem_cons_zero, List.setIfInBounds_toArray, List.set_cons_zero, List.set_cons_succ]
                  refine wpAnyY_pure (i := 4) (oi := _) (v := ?_) rfl (by kernel_rfl) (by kernel_rfl) (by kernel_rfl) (by kernel_rfl) (fun _ _ _ h => h) (Or.inl ⟨by rfl, ?_⟩) ?_
                  rotate_left
                  · (intro w hSw; go_simp; first | done | (with_reducible rfl))
                  simp only [Act.put, List.getElem_toArray, List.getElem_cons_succ, List.getElem_cons_zero, List.setIfInBounds_toArray, List.set_cons_zero, List.set_cons_succ]
                  refine wpAnyY_take (i := 5) (oi := _) (v := ?_) rfl (by kernel_rfl) (by kernel_rfl) (by kernel_rfl) (by kernel_rfl) (by kernel_rfl) (fun _ _ _ h => h) (Or.inl ⟨by rfl, ?_⟩) (by assumption) ?_
                  rotate_left
                  · (intro w hSw; have q := vw_pl (hSw.rowGet k0m) (by omega) HQ1.out; go_simp; first | done | (with_reducible rfl))
                  simp only [Act.put, List.getElem_toArray, List.getElem_cons_succ, List.getElem_cons_zero, List.setIfInBounds_toArray, List.set_cons_zero, List.set_cons_succ]
                  refine wpAnyY_pure (i := 6) (oi := _) (v := ?_) rfl (by kernel_rfl) (by kernel_rfl) (by kernel_rfl) (by kernel_rfl) (fun _ _ _ h => h) (Or.inl ⟨by rfl, ?_⟩) ?_
                  rotate_left
                  · (intro w hSw; go_simp; first | done | (with_reducible rfl))
                  simp only [Act.put, List.getElem_toArray, List.getElem_cons_succ, List.getElem_cons_zero, List.setIfInBounds_toArray, List.set_cons_zero, List.set_cons_succ]
                  refine wpAnyY_take (i := 7) (oi := _) (v := ?_) rfl (by kernel_rfl) (by kernel_rfl) (by kernel_rfl) (by kernel_rfl) (by kernel_rfl) (fun _ _ _ h => h) (Or.inl ⟨by rfl, ?_⟩) (by assumption) ?_
                  rotate_left
                  · (intro w hSw; have q := (hSw.boxGet (List.mem_cons_of_mem _ (List.mem_append_right _ (List.mem_cons_of_mem _ k5m)))).cellv 0 _ rfl; go_simp; first | done | (with_reducible rfl))
                  simp only [Act.put, List.getElem_toArray, List.getElem_cons_succ, List.getElem_cons_zero, List.setIfInBounds_toArray, List.set_cons_zero, List.set_cons_succ]
                  refine wpAnyY_pure (i := 8) (oi := _) (v := .bool true) rfl (by kernel_rfl) (by kernel_rfl) (by kernel_rfl) (by kernel_rfl) (fun _ _ _ h => h) (Or.inl ⟨by rfl, ?_⟩) ?_
                  · (intro w hSw; have q := hpe; have q2 := hpe2; go_simp; first | done | rfl | (simp; done) | trace_state)
                  simp only [Act.put, List.getElem_toArray, List.getElem_cons_succ, List.getElem_cons_zero, List.setIfInBounds_toArray, List.set_cons_zero, List.set_cons_succ]
                  refine wpAnyY_done (by kernel_rfl) ?_ _
                  clear hHeld
                  go_wp2_with fail
                  refine region_Y (S := fun w' => Sep W w' (rowV 29 16 (.slice (some ⟨gA, 0, none⟩) m cA) m (fl (vwE tick) Vs) :: (Vs.map rwE ++ (boxA v3b (vwv tk3 ow3 (.slice a3 n3 c3)) 29 :: rowV 33 5 (.slice a3 n3 c3) n3 (fl snv T3) :: boxA v2b (vwv tk2 ow2 (.slice a2 n2 c2)) 29 :: rowV 33 5 (.slice a2 n2 c2) n2 (fl snv T2) :: boxA v1b (vwv tk1 ow1 (.slice a1 n1 c1)) 29 :: rowV 33 5 (.slice a1 n1 c1) n1 (fl snv T1) :: boxA b4 [iv p, iv rad, iv sho] 39 :: boxA b3 [.int .u64 tick, vc, vs, iv nx] 37 :: [])))) [] (by kernel_rfl) ?_
                  obtain ⟨W23, hW23⟩ : ∃ W_, W21.drew = W_ := ⟨_, rfl⟩
                  replace HB := Keep.mk (HB.out.grown (gr_drew _ none))
                  rw [hW23] at HB ⊢
                  clear hW23
                  have hHeld : (fun w' => Sep W w' (rowV 29 16 (.slice (some ⟨gA, 0, none⟩) m cA) m (fl (vwE tick) Vs) :: (Vs.map rwE ++ (boxA v3b (vwv tk3 ow3 (.slice a3 n3 c3)) 29 :: rowV 33 5 (.slice a3 n3 c3) n3 (fl snv T3) :: boxA v2b (vwv tk2 ow2 (.slice a2 n2 c2)) 29 :: rowV 33 5 (.slice a2 n2 c2) n2 (fl snv T2) :: boxA v1b (vwv tk1 ow1 (.slice a1 n1 c1)) 29 :: rowV 33 5 (.slice a1 n1 c1) n1 (fl snv T1) :: boxA b4 [iv p, iv rad, iv sho] 39 :: boxA b3 [.int .u64 tick, vc, vs, iv nx] 37 :: [])))) W23 := HB.out
                  refine wpAnyY_pure (i := 0) (oi := _) (v := ?_) rfl (by kernel_rfl) (by kernel_rfl) (by kernel_rfl) (by kernel_rfl) (fun _ _ _ h => h) (Or.inl ⟨by rfl, ?_⟩) ?_
                  rotate_left
                  · (intro w hSw; go_simp; first | done | (with_reducible rfl))
                  simp only [Act.put, List.getElem_toArray, List.getElem_cons_zero, List.setIfInBounds_toArray, List.set_cons_zero, List.set_cons_succ]
                  refine wpAnyY_pure (i := 1) (oi := _) (v := ?_) rfl (by kernel_rfl) (by kernel_rfl) (by kernel_rfl) (by kernel_rfl) (fun _ _ _ h => h) (Or.inl ⟨by rfl, ?_⟩) ?_
                  rotate_left
                  · (intro w hSw; go_simp; first | done | (with_reducible rfl))
                  simp only [Act.put, List.getElem_toArray, List.getElem_cons_succ, List.getElem_cons_zero, List.setIfInBounds_toArray, List.set_cons_zero, List.set_cons_succ]
                  refine wpAnyY_pure (i := 2) (oi := _) (v := ?_) rfl (by kernel_rfl) (by kernel_rfl) (by kernel_rfl) (by kernel_rfl) (fun _ _ _ h => h) (Or.inl ⟨by rfl, ?_⟩) ?_
                  rotate_left
                  · (intro w hSw; go_simp; first | done | (with_reducible rfl))
                  simp only [Act.put, List.getElem_toArray, List.getElem_cons_succ, List.getElem_cons_zero, List.setIfInBounds_toArray, List.set_cons_zero, List.set_cons_succ]
                  refine wpAnyY_take (i := 3) (oi := _) (v := .agg (vwv tick c.1 c.2.1).toArray) rfl (by kernel_rfl) (by kernel_rfl) (by kernel_rfl) (by kernel_rfl) (by kernel_rfl) (fun _ _ _ h => h) (yieldsIf_load_mid (by rfl) 29 _ rfl _ _ rfl _ _ (fun w hSw => fl_range (vwE_len tick) (hSw.rowGet k0m) (by omega) i c HQ1.out) hdv.1 hdv.2 info29) (by assumption) ?_
                  simp only [Act.put, List.getElem_toArray, List.getElem_cons_succ, List.getElem_cons_zero, List.setIfInBounds_toArray, List.set_cons_zero, List.set_cons_succ]
                  refine wpAnyY_take (i := 4) (oi := _) (v := .agg (vwv tk1 ow1 (.slice a1 n1 c1)).toArray) rfl (by kernel_rfl) (by kernel_rfl) (by kernel_rfl) (by kernel_rfl) (by kernel_rfl) (fun _ _ _ h => h) (yieldsIf_load_mid (by rfl) 29 _ rfl _ _ rfl _ _ (fun w hSw => (hSw.boxGet (List.mem_cons_of_mem _ (List.mem_append_right _ k4m))).range) hdv.1 hdv.2 info29) (by assumption) ?_
                  simp only [Act.put, List.getElem_toArray, List.getElem_cons_succ, List.getElem_cons_zero, List.setIfInBounds_toArray, List.set_cons_zero, List.set_cons_succ]
                  refine wpAnyY_one (i := 5) (by kernel_rfl) rfl (fun K hK => ?_)
                  go_simp
                  refine (eq_t _ tick tk1 c.1 ow1 c.2.1 (.slice a1 n1 c1) c.2.2 T1 (Ls.own snv_len HB.out (List.mem_cons_of_mem _ (List.mem_append_left _ HRM.out))) (Ls.own snv_len HB.out (by rw [HP1.out.1]; exact (List.mem_cons_of_mem _ (List.mem_append_right _ k5m)))) HCL.out HEQ.out).mono ?_
                  rintro e wq1 ⟨rfl, g_⟩
                  replace HB := Keep.mk (HB.out.grown g_)
                  refine hK.out _ _ (fun h => h.grown g_) ?_
                  clear hK K g_
                  have hHeld : (fun w' => Sep W w' (rowV 29 16 (.slice (some ⟨gA, 0, none⟩) m cA) m (fl (vwE tick) Vs) :: (Vs.map rwE ++ (boxA v3b (vwv tk3 ow3 (.slice a3 n3 c3)) 29 :: rowV 33 5 (.slice a3 n3 c3) n3 (fl snv T3) :: boxA v2b (vwv tk2 ow2 (.slice a2 n2 c2)) 29 :: rowV 33 5 (.slice a2 n2 c2) n2 (fl snv T2) :: boxA v1b (vwv tk1 ow1 (.slice a1 n1 c1)) 29 :: rowV 33 5 (.slice a1 n1 c1) n1 (fl snv T1) :: boxA b4 [iv p, iv rad, iv sho] 39 :: boxA b3 [.int .u64 tick, vc, vs, iv nx] 37 :: [])))) wq1 := HB.out
                  refine wpAnyY_pure (i := 6) (oi := _) (v := ?_) rfl (by kernel_rfl) (by kernel_rfl) (by kernel_rfl) (by kernel_rfl) (fun _ _ _ h => h) (Or.inl ⟨by rfl, ?_⟩) ?_
                  rotate_left
                  · (intro w hSw; go_simp; first | done | (with_reducible rfl))
                  simp only [Act.put, List.getElem_toArray, List.getElem_cons_succ, List.getElem_cons_zero, List.setIfInBounds_toArray, List.set_cons_zero, List.set_cons_succ]
                  refine wpAnyY_done (by kernel_rfl) ?_ _
                  clear hHeld
                  go_wp2_with fail
                  go_roundw
                  case rel => exact ⟨i + 1, true, HIN.out, rfl, rfl, HFB2, HB⟩
                  case measure => simp [intOf]; have := HIN.out; omega
              · have hpe : (c.1.pl == p) = false := by simp [hpp]
                have hpe2 : decide (c.1.pl = p) = false := by simp [hpp]
                have HFB2 : Keep (FnB fb (Vs.take (i + 1)) p) := ⟨⟨by
                  rw [HTK.out]
                  refine HFB.out.o.trans ⟨fun ⟨q, h1, h2⟩ => ⟨q, List.mem_append_left _ h1, h2⟩, fun ⟨q, h1, h2⟩ => ?_⟩
                  rcases List.mem_append.1 h1 with k | k
                  · exact ⟨q, k, h2⟩
                  · rw [List.mem_singleton] at k; subst k; exact absurd h2 hpp⟩⟩
                clear hpp
                go_wp2_with fail
                as_aux_lemma =>
                  refine region_Y (S := fun w' => Sep W w' (rowV 29 16 (.slice (some ⟨gA, 0, none⟩) m cA) m (fl (vwE tick) Vs) :: (Vs.map rwE ++ (boxA v3b (vwv tk3 ow3 (.slice a3 n3 c3)) 29 :: rowV 33 5 (.slice a3 n3 c3) n3 (fl snv T3) :: boxA v2b (vwv tk2 ow2 (.slice a2 n2 c2)) 29 :: rowV 33 5 (.slice a2 n2 c2) n2 (fl snv T2) :: boxA v1b (vwv tk1 ow1 (.slice a1 n1 c1)) 29 :: rowV 33 5 (.slice a1 n1 c1) n1 (fl snv T1) :: boxA b4 [iv p, iv rad, iv sho] 39 :: boxA b3 [.int .u64 tick, vc, vs, iv nx] 37 :: [])))) [] (by kernel_rfl) ?_
                  obtain ⟨W21, hW21⟩ : ∃ W_, W19.drew = W_ := ⟨_, rfl⟩
                  replace HB := Keep.mk (HB.out.grown (gr_drew _ none))
                  rw [hW21] at HB ⊢
                  clear hW21
                  have hHeld : (fun w' => Sep W w' (rowV 29 16 (.slice (some ⟨gA, 0, none⟩) m cA) m (fl (vwE tick) Vs) :: (Vs.map rwE ++ (boxA v3b (vwv tk3 ow3 (.slice a3 n3 c3)) 29 :: rowV 33 5 (.slice a3 n3 c3) n3 (fl snv T3) :: boxA v2b (vwv tk2 ow2 (.slice a2 n2 c2)) 29 :: rowV 33 5 (.slice a2 n2 c2) n2 (fl snv T2) :: boxA v1b (vwv tk1 ow1 (.slice a1 n1 c1)) 29 :: rowV 33 5 (.slice a1 n1 c1) n1 (fl snv T1) :: boxA b4 [iv p, iv rad, iv sho] 39 :: boxA b3 [.int .u64 tick, vc, vs, iv nx] 37 :: [])))) W21 := HB.out
                  refine wpAnyY_pure (i := 0) (oi := _) (v := ?_) rfl (by kernel_rfl) (by kernel_rfl) (by kernel_rfl) (by kernel_rfl) (fun _ _ _ h => h) (Or.inl ⟨by rfl, ?_⟩) ?_
                  rotate_left
                  · (intro w hSw; go_simp; first | done | (with_reducible rfl))
                  simp only [Act.put, List.getElem_toArray, List.getElem_cons_zero, List.setIfInBounds_toArray, List.set_cons_zero, List.set_cons_succ]
                  refine wpAnyY_pure (i := 1) (oi := _) (v := ?_) rfl (by kernel_rfl) (by kernel_rfl) (by kernel_rfl) (by kernel_rfl) (fun _ _ _ h => h) (Or.inl ⟨by rfl, ?_⟩) ?_
                  rotate_left
                  · (intro w hSw; go_simp; first | done | (with_reducible rfl))
                  simp only [Act.put, List.getElem_toArray, List.getElem_cons_succ, List.getElem_cons_zero, List.setIfInBounds_toArray, List.set_cons_zero, List.set_cons_succ]
                  refine wpAnyY_pure (i := 2) (oi := _) (v := ?_) rfl (by kernel_rfl) (by kernel_rfl) (by kernel_rfl) (by kernel_rfl) (fun _ _ _ h => h) (Or.inl ⟨by rfl, ?_⟩) ?_
                  rotate_left
                  · (intro w hSw; go_simp; first | done | (with_reducible rfl))
                  simp only [Act.put, List.getElem_toArray, List.getElem_cons_succ, List.getElem_cons_zero, List.setIfInBounds_toArray, List.set_cons_zero, List.set_cons_succ]
                  refine wpAnyY_pure (i := 3) (oi := _) (v := ?_) rfl (by kernel_rfl) (by kernel_rfl) (by kernel_rfl) (by kernel_rfl) (fun _ _ _ h => h) (Or.inl ⟨by rfl, ?_⟩) ?_
                  rotate_left
                  · (intro w hSw; go_simp; first | done | (with_reducible rfl))
                  simp only [Act.put, List.getElem_toArray, List.getElem_cons_succ, List.getElem_cons_zero, List.setIfInBounds_toArray, List.set_cons_zero, List.set_cons_succ]
                  refine wpAnyY_pure (i := 4) (oi := _) (v := ?_) rfl (by kernel_rfl) (by kernel_rfl) (by kernel_rfl) (by kernel_rfl) (fun _ _ _ h => h) (Or.inl ⟨by rfl, ?_⟩) ?_
                  rotate_left
                  · (intro w hSw; go_simp; first | done | (with_reducible rfl))
                  simp only [Act.put, List.getElem_toArray, List.getElem_cons_succ, List.getElem_cons_zero, List.setIfInBounds_toArray, List.set_cons_zero, List.set_cons_succ]
                  refine wpAnyY_take (i := 5) (oi := _) (v := ?_) rfl (by kernel_rfl) (by kernel_rfl) (by kernel_rfl) (by kernel_rfl) (by kernel_rfl) (fun _ _ _ h => h) (Or.inl ⟨by rfl, ?_⟩) (by assumption) ?_
                  rotate_left
                  · (intro w hSw; have q := vw_pl (hSw.rowGet k0m) (by omega) HQ1.out; go_simp; first | done | (with_reducible rfl))
                  simp only [Act.put, List.getElem_toArray, List.getElem_cons_succ, List.getElem_cons_zero, List.setIfInBounds_toArray, List.set_cons_zero, List.set_cons_succ]
                  refine wpAnyY_pure (i := 6) (oi := _) (v := ?_) rfl (by kernel_rfl) (by kernel_rfl) (by kernel_rfl) (by kernel_rfl) (fun _ _ _ h => h) (Or.inl ⟨by rfl, ?_⟩) ?_
                  rotate_left
                  · (intro w hSw; go_simp; first | done | (with_reducible rfl))
                  simp only [Act.put, List.getElem_toArray, List.getElem_cons_succ, List.getElem_cons_zero, List.setIfInBounds_toArray, List.set_cons_zero, List.set_cons_succ]
                  refine wpAnyY_take (i := 7) (oi := _) (v := ?_) rfl (by kernel_rfl) (by kernel_rfl) (by kernel_rfl) (by kernel_rfl) (by kernel_rfl) (fun _ _ _ h => h) (Or.inl ⟨by rfl, ?_⟩) (by assumption) ?_
                  rotate_left
                  · (intro w hSw; have q := (hSw.boxGet (List.mem_cons_of_mem _ (List.mem_append_right _ (List.mem_cons_of_mem _ k5m)))).cellv 0 _ rfl; go_simp; first | done | (with_reducible rfl))
                  simp only [Act.put, List.getElem_toArray, List.getElem_cons_succ, List.getElem_cons_zero, List.setIfInBounds_toArray, List.set_cons_zero, List.set_cons_succ]
                  refine wpAnyY_pure (i := 8) (oi := _) (v := .bool false) rfl (by kernel_rfl) (by kernel_rfl) (by kernel_rfl) (by kernel_rfl) (fun _ _ _ h => h) (Or.inl ⟨by rfl, ?_⟩) ?_
                  · (intro w hSw; have q := hpe; have q2 := hpe2; go_simp; first | done | rfl | (simp; done) | trace_state)
                  simp only [Act.put, List.getElem_toArray, List.getElem_cons_succ, List.getElem_cons_zero, List.setIfInBounds_toArray, List.set_cons_zero, List.set_cons_succ]
                  refine wpAnyY_done (by kernel_rfl) ?_ _
                  clear hHeld
                  go_wp2_with fail
                  go_roundw
                  case rel => exact ⟨i + 1, fb, HIN.out, rfl, rfl, HFB2, HB⟩
                  case measure => simp [intOf]; have := HIN.out; omega
            · have hlt1 : ¬ (i : Int) < (m : Int) := by omega
              have HFE : (fb = false ∧ cd3 = 210) ∨ (fb = true ∧ cd3 = 0) := by
                have q := HFB.out.o
                rw [List.take_of_length_le (by rw [HVL.out]; omega)] at q
                rcases HP1.out.2.2 with ⟨h1, h2, _⟩ | ⟨own, h1, h2, _⟩
                · refine .inl ⟨?_, h2⟩
                  cases fb with
                  | false => rfl
                  | true =>
                    obtain ⟨d, hd, e⟩ := q.1 rfl
                    have k : LC.find? (fun y => y.pl == d.1.pl) = some d.1 := (HF.out.1.2 d.1).1 (by rw [← HF.out.2.1]; exact List.mem_map_of_mem hd)
                    rw [e] at k
                    rw [h1] at k
                    cases k
                · have e0 : own.pl = p := by have := List.find?_some h1; simpa using this
                  have hm : own ∈ Vs.map (·.1) := by
                    rw [HF.out.2.1]
                    refine (HF.out.1.2 own).2 ?_
                    show LC.find? (fun y => y.pl == own.pl) = some own
                    rw [e0]; exact h1
                  obtain ⟨d, hd, e⟩ := List.mem_map.1 hm
                  exact .inr ⟨q.2 ⟨d, hd, by rw [e]; exact e0⟩, h2⟩
              clear hlt hi
              rcases HFE with ⟨rfl, rfl⟩ | ⟨rfl, rfl⟩
              · go_wp2_with fail
                go_ret
                exact ⟨rfl, HB.out.g⟩
              · go_wp2_with fail
                go_ret
                exact ⟨rfl, HB.out.g⟩
end Go.Proofs.YtgedlabmndlooaaGreat
