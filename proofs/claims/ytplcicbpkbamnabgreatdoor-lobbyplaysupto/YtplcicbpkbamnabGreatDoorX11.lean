import Derived.Test.YtplcicbpkbamnabGreatDoorX10
/- the reference: small, Fold, Same. -/
namespace Go.Proofs.YtplcicbpkbamnabGreatDoor.Lo.Na
open Go Go.RowKit

/-- what small tells of a rune -/
theorem utf_le (n : Nat) : (utfL n).length ≤ 4 := by
  unfold utfL
  repeat' split
  all_goals simp
set_option maxRecDepth 100000 in
theorem small_big1 {p : Nat × List UInt8} (hp : Whole p ∨ Odd p) (hl : large p.1) (h1 : p.1 < 128) : p.2.length = 1 ∧ (small p).2 = [UInt8.ofNat ((p.1 : Int) + 32).toNat] := by
  have hw : Whole p := hp.resolve_right fun ⟨b, hb, _⟩ => by rw [hb] at h1; simp at h1
  have e : (small p).2 = encL (p.1 + 32) := by rw [small, if_pos hl]
  refine ⟨by rw [whole_one hw h1]; rfl, ?_⟩
  rw [e, encL, if_pos (by unfold large at hl; omega)]
  congr 2
set_option maxRecDepth 100000 in
theorem small_big2 {p : Nat × List UInt8} (hp : Whole p ∨ Odd p) (hl : large p.1) (h1 : ¬ p.1 < 128) : p.2 = [195, UInt8.ofNat (p.1 - 64)] ∧ (small p).2 = [195, UInt8.ofNat ((p.1 : Int) - 32).toNat] := by
  have hw : Whole p := hp.resolve_right fun ⟨b, hb, _⟩ => by rw [hb] at hl; unfold large at hl; simp at hl
  have e : (small p).2 = encL (p.1 + 32) := by rw [small, if_pos hl]
  have e2 := whole_two hw (by omega) (by unfold large at hl; omega)
  unfold large at hl
  refine ⟨?_, ?_⟩
  · rw [e2, show 192 + p.1 / 64 = 195 by omega, show 128 + p.1 % 64 = p.1 - 64 by omega]
    rfl
  · rw [e, encL, if_neg (by omega)]
    congr 3
    omega
set_option maxRecDepth 100000 in
set_option maxHeartbeats 8000000 in
theorem small_c (p : Nat × List UInt8) (hp : Whole p ∨ Odd p) (hb : p.1 ≤ 1114111) (w : World) :
    Calls Tryz.prog 101 #[.agg #[.int .i64 (p.1 : Int), .string (mk p.2)]] w fun e w' => e = .returned (.string (mk (small p).2)) ∧ w.grownBy w' none := by
  obtain ⟨z, hzz⟩ : ∃ z : Int, (p.1 : Int) = z := ⟨_, rfl⟩
  have hz0 : 0 ≤ z := by omega
  have hz1 : z ≤ 1114111 := by omega
  have HZZ := Keep.mk hzz
  have hsz : (mk p.2).size = p.2.length := mk_size _
  by_cases hl : large p.1
  · by_cases h1 : p.1 < 128
    · obtain ⟨l1, l2⟩ := small_big1 hp hl h1
      have hr : 65 ≤ z ∧ z ≤ 90 := by unfold large at hl; omega
      have hcb := cvtL [UInt8.ofNat (z + 32).toNat] (w.alloc (.cells #[.int .i64 z, .string (mk p.2)] 130))
      simp only [List.map_cons, List.map_nil, List.length_cons, List.length_nil, Nat.zero_add, ← bvi (by omega : 0 ≤ z + 32) (by omega)] at hcb
      rw [l2, hzz]
      have hX : (mk p.2).size = 1 := by omega
      generalize mk p.2 = X at hX hcb ⊢
      simp only [World.size_alloc] at hcb
      have HG : Keep (∀ o, w.grownBy ((w.alloc (.cells #[.int .i64 z, .string X] 130)).alloc o) none) := ⟨fun o => (World.grownBy_alloc _ _ _).trans (World.grownBy_alloc _ _ _)⟩
      clear hsz hzz l1 l2 hl h1 hp hb
      go_enter Tryz.func101, Tryz.ntmps101
      go_wp2_with fail
      go_ret
      exact ⟨rfl, HG.out _⟩
    · obtain ⟨l1, l2⟩ := small_big2 hp hl h1
      have hr : 192 ≤ z ∧ z ≤ 222 ∧ z ≠ 215 := by unfold large at hl; omega
      obtain ⟨r1, r2, r3⟩ := hr
      have hX : (mk p.2).size = 2 := by rw [mk_size, l1]; rfl
      have hg1 := gr_drew (w.alloc (.cells #[.int .i64 z, .string (mk p.2)] 130)) none
      have hcb := cvtL [195, UInt8.ofNat (z - 32).toNat] (w.alloc (.cells #[.int .i64 z, .string (mk p.2)] 130)).drew
      have i0 : ∀ W, (Instr.index 9 (.string (mk p.2)) (.int .i64 0)).run Tryz.prog W = .ok (.int .u8 195) W := idx9' (mk p.2) 0 195 (by omega) (by rw [sl_mk, l1]; rfl)
      have i1 : ∀ W, (Instr.index 9 (.string (mk p.2)) (.int .i64 1)).run Tryz.prog W = .ok (.int .u8 (z - 64)) W := by
        have h195 := idx9' (mk p.2) 1 (UInt8.ofNat (p.1 - 64)) (by omega) (by rw [sl_mk, l1]; rfl)
        rw [ofn (by omega)] at h195
        intro W
        have := h195 W
        rw [show ((p.1 - 64 : Nat) : Int) = z - 64 by omega] at this
        exact this
      have hbb : (Value.int .u8 195) = bv 195 := rfl
      simp only [List.map_cons, List.map_nil, List.length_cons, List.length_nil, Nat.zero_add, ← hbb, ← bvi (by omega : 0 ≤ z - 32) (by omega)] at hcb
      rw [l2, hzz]
      have HHas : Keep (Has (w.alloc (.cells #[.int .i64 z, .string (mk p.2)] 130)).drew w.heap.size [.int .i64 z, .string (mk p.2)] 130) := ⟨(Has.newA w #[.int .i64 z, .string (mk p.2)] 130).drewN 1⟩
      have HG : Keep (∀ o, w.grownBy ((w.alloc (.cells #[.int .i64 z, .string (mk p.2)] 130)).drew.alloc o) none) := ⟨fun o => ((World.grownBy_alloc _ _ _).trans hg1).trans (World.grownBy_alloc _ _ _)⟩
      generalize mk p.2 = X at hX hcb i0 i1 HG HHas ⊢
      have HC : Keep (∀ W : World, Has W w.heap.size [.int .i64 z, .string X] 130 → W.cell? ⟨w.heap.size, 1, none⟩ = some (.string X)) := ⟨fun W h => h.cellv 1 _ rfl⟩
      have HCB := Keep.mk hcb
      have hw8 : IntKind.u8.wrap (z - 64 + 32) = z - 32 := by simp [IntKind.wrap, show IntKind.u8.bits = 8 from rfl, show IntKind.u8.signed = false from rfl]; omega
      clear hsz hzz l1 l2 hl h1 hp hb hg1 hbb hcb
      go_enter Tryz.func101, Tryz.ntmps101
      go_upto_region 4 with fail
      refine wp_region_held_drew (S := fun w' => Has w' w.heap.size [.int .i64 z, .string X] 130) (by kernel_rfl) HHas.out (fun hHeld => ?_)
      refine wpAnyH_take (i := 0) (oi := _) (v := ?_) rfl (by kernel_rfl) (by kernel_rfl) (by kernel_rfl) (fun _ _ _ h => h) (Or.inl ⟨by rfl, ?_⟩) (by assumption) ?_
      rotate_left
      · (intro w hSw; go_simp; first | done | (with_reducible rfl))
      simp only [Act.put, List.getElem_toArray, List.getElem_cons_zero, List.setIfInBounds_toArray, List.set_cons_zero, List.set_cons_succ]
      refine wpAnyH_take (i := 1) (oi := _) (v := ?_) rfl (by kernel_rfl) (by kernel_rfl) (by kernel_rfl) (fun _ _ _ h => h) (Or.inl ⟨by rfl, ?_⟩) (by assumption) ?_
      rotate_left
      · (intro w hSw; have x1 := HC.out w hSw; go_simp; first | done | (with_reducible rfl))
      simp only [Act.put, List.getElem_toArray, List.getElem_cons_succ, List.getElem_cons_zero, List.setIfInBounds_toArray, List.set_cons_zero, List.set_cons_succ]
      refine wpAnyH_take (i := 2) (oi := _) (v := ?_) rfl (by kernel_rfl) (by kernel_rfl) (by kernel_rfl) (fun _ _ _ h => h) (Or.inl ⟨by rfl, ?_⟩) (by assumption) ?_
      rotate_left
      · (intro w hSw; go_simp; first | done | (with_reducible rfl))
      simp only [Act.put, List.getElem_toArray, List.getElem_cons_succ, List.getElem_cons_zero, List.setIfInBounds_toArray, List.set_cons_zero, List.set_cons_succ]
      refine wpAnyH_take (i := 3) (oi := _) (v := ?_) rfl (by kernel_rfl) (by kernel_rfl) (by kernel_rfl) (fun _ _ _ h => h) (Or.inl ⟨by rfl, ?_⟩) (by assumption) ?_
      rotate_left
      · (intro w hSw; go_simp; first | done | (with_reducible rfl))
      simp only [Act.put, List.getElem_toArray, List.getElem_cons_succ, List.getElem_cons_zero, List.setIfInBounds_toArray, List.set_cons_zero, List.set_cons_succ]
      refine wpAnyH_take (i := 4) (oi := _) (v := ?_) rfl (by kernel_rfl) (by kernel_rfl) (by kernel_rfl) (fun _ _ _ h => h) (Or.inl ⟨by rfl, ?_⟩) (by assumption) ?_
      rotate_left
      · (intro w hSw; have x1 := HC.out w hSw; go_simp; first | done | (with_reducible rfl))
      simp only [Act.put, List.getElem_toArray, List.getElem_cons_succ, List.getElem_cons_zero, List.setIfInBounds_toArray, List.set_cons_zero, List.set_cons_succ]
      refine wpAnyH_take (i := 5) (oi := _) (v := ?_) rfl (by kernel_rfl) (by kernel_rfl) (by kernel_rfl) (fun _ _ _ h => h) (Or.inl ⟨by rfl, ?_⟩) (by assumption) ?_
      rotate_left
      · (intro w hSw; go_simp; first | done | (with_reducible rfl))
      simp only [Act.put, List.getElem_toArray, List.getElem_cons_succ, List.getElem_cons_zero, List.setIfInBounds_toArray, List.set_cons_zero, List.set_cons_succ]
      refine wpAnyH_take (i := 6) (oi := _) (v := ?_) rfl (by kernel_rfl) (by kernel_rfl) (by kernel_rfl) (fun _ _ _ h => h) (Or.inl ⟨by rfl, ?_⟩) (by assumption) ?_
      rotate_left
      · (intro w hSw; go_simp; first | done | (with_reducible rfl))
      simp only [Act.put, List.getElem_toArray, List.getElem_cons_succ, List.getElem_cons_zero, List.setIfInBounds_toArray, List.set_cons_zero, List.set_cons_succ]
      refine wpAnyH_ready (rs := [7]) (by kernel_rfl) (by simp) ?_
      refine AllReadyH.cons rfl (fun K hK => ?_) AllReadyH.nil
      go_simp
      refine hK.out _ _ (HHas.out.alloc _) (fun hHeld => ?_)
      clear hK K
      have hrun : (convert 120 9 (.slice (some ⟨w.heap.size + 1, 0, none⟩) 2 2)).run Tryz.prog ((w.alloc (.cells #[.int .i64 z, .string X] 130)).alloc (.cells #[.int .u8 195, .int .u8 (z - 32)] 5)).drew = .ok (.string (mk [195, UInt8.ofNat (z - 32).toNat])) ((w.alloc (.cells #[.int .i64 z, .string X] 130)).alloc (.cells #[.int .u8 195, .int .u8 (z - 32)] 5)).drew := by
        have h := HCB.out
        rw [show (w.alloc (.cells #[.int .i64 z, .string X] 130)).drew.heap.size = w.heap.size + 1 by simp] at h
        exact h
      refine wpAnyH_ready (rs := [8]) (by kernel_rfl) (by simp) ?_
      refine AllReadyH.cons rfl (fun K hK => ?_) AllReadyH.nil
      go_simp
      refine hK.out _ _ (HHas.out.alloc _) (fun hHeld => ?_)
      clear hK K
      refine wpAnyH_take (i := 9) (oi := _) (v := ?_) rfl (by kernel_rfl) (by kernel_rfl) (by kernel_rfl) (fun _ _ _ h => h) (Or.inl ⟨by rfl, ?_⟩) (by assumption) ?_
      rotate_left
      · (intro w hSw; go_simp; first | done | (with_reducible rfl))
      simp only [Act.put, List.getElem_toArray, List.getElem_cons_succ, List.getElem_cons_zero, List.setIfInBounds_toArray, List.set_cons_zero, List.set_cons_succ]
      refine wpAnyH_done (by kernel_rfl) ?_ _
      clear hHeld
      go_wp2_with fail
      go_ret
      exact ⟨rfl, HG.out _⟩
  · have e : small p = p := if_neg hl
    rw [e, hzz]
    have HG : Keep (∀ o, w.grownBy (w.alloc o) none) := ⟨fun o => World.grownBy_alloc _ _ _⟩
    have hl2 : z < 65 ∨ (90 < z ∧ z < 192) ∨ z = 215 ∨ 222 < z := by unfold large at hl; omega
    generalize mk p.2 = X at hsz ⊢
    clear hzz e hl hp hb
    obtain ⟨m, hm⟩ : ∃ m, p.2.length = m := ⟨_, rfl⟩
    rw [hm] at hsz
    clear hm HZZ
    go_enter Tryz.func101, Tryz.ntmps101
    by_cases m1 : X.size = 1
    · rcases hl2 with h | ⟨h, h'⟩ | h | h
      all_goals first | subst h | skip
      all_goals (go_wp2_with fail; go_ret; exact ⟨rfl, HG.out _⟩)
    by_cases m2 : X.size = 2
    · rcases hl2 with h | ⟨h, h'⟩ | h | h
      all_goals first | subst h | skip
      all_goals (go_wp2_with fail; go_ret; exact ⟨rfl, HG.out _⟩)
    have e1 : ((X.size : Int) == 1) = false := by rw [beq_eq_false_iff_ne]; omega
    have e2 : ((X.size : Int) == 2) = false := by rw [beq_eq_false_iff_ne]; omega
    go_wp2_with fail
    go_ret
    exact ⟨rfl, HG.out _⟩

set_option maxRecDepth 100000 in
theorem piece_bound (l : List UInt8) (p : Nat × List UInt8) (h : p ∈ pieces l) : p.1 ≤ 1114111 ∧ p.2.length ≤ 4 ∧ p.2.length = (small p).2.length := by
  rcases kind2 (mem_kind (good_pieces l) h) with ⟨hw, hx⟩ | ⟨b, rfl, hb⟩
  · have hsm := small_len hw
    have hu := whole_utf hw hx
    have hl := utf_le p.1
    obtain ⟨h1, h2, h3⟩ := hw
    have e := h3 []
    rw [List.append_nil] at e
    refine ⟨?_, by rw [hu]; exact hl, hsm.symm⟩
    match hp : p.2, h1 with
    | c :: t, _ =>
      rw [hp] at e
      have hb2 := c.toNat_lt
      cases form c t with
      | one hb t => rw [dec_ascii hb] at e; have e1 := congrArg Prod.fst e; simp only at e1; omega
      | two hb hc hv t => rw [dec_two hb hc hv] at e; have e1 := congrArg Prod.fst e; simp only at e1; omega
      | three hb hc hd hv t => rw [dec_three hb hc hd hv] at e; have e1 := congrArg Prod.fst e; simp only at e1; omega
      | four hb hc hd he hv t => rw [dec_four hb hc hd he hv] at e; have e1 := congrArg Prod.fst e; simp only at e1; omega
      | odd hb _ => rw [hb] at e; have e1 := congrArg Prod.fst e; simp only at e1; omega
  · rw [small_odd]; simp
set_option maxRecDepth 100000 in
theorem flat_le (ps : List (Nat × List UInt8)) (k : Nat) : (flat (ps.take k)).length ≤ (flat ps).length := (flat_prefix ps k).length_le

set_option maxRecDepth 100000 in
set_option maxHeartbeats 8000000 in
theorem rfold_c (s : ByteArray) (w : World) (hs : s.size ≤ 1048576) : Calls Tryz.prog 70 #[.string s] w fun e w' => e = .returned (.string (mk (foldL (sl s)))) ∧ w.grownBy w' none := by
  have hrn := rn_le s
  go_enter Tryz.func70, Tryz.ntmps70
  go_wp2_with fail
  refine (all_c s _ hs).mono ?_
  rintro e w1 ⟨v, rfl, hR, hG⟩
  obtain ⟨A, c, rfl, hS⟩ := hR.src
  have HG := Keep.mk hG
  have HS := Keep.mk hS
  clear hR hG hS
  obtain ⟨L, hL⟩ : ∃ L, pieces (sl s) = L := ⟨_, rfl⟩
  have HL : Keep (pieces (sl s) = L) := ⟨hL⟩
  have hll : L.length ≤ 1048576 := by rw [← hL]; unfold rn at hrn; omega
  have HGd : Keep (Good L) := ⟨by rw [← hL]; exact good_pieces _⟩
  have HPB : Keep (∀ p ∈ L, p.1 ≤ 1114111 ∧ p.2.length ≤ 4 ∧ p.2.length = (small p).2.length) := ⟨by rw [← hL]; exact piece_bound _⟩
  have HFL : Keep (∀ k, (flat ((L.take k).map small)).length ≤ 1048576) := ⟨fun k => by
    rw [← hL, good_len (good_pieces _)]
    have := flat_le (pieces (sl s)) k
    rw [flat_pieces, sl_len] at this
    omega⟩
  have HRes : Keep (foldL (sl s) = flat (L.map small)) := ⟨by rw [← hL]; rfl⟩
  rw [hL] at HS ⊢
  clear hL hrn
  go_wp2_with fail
  go_loopw [4, 5] (fun v i w' => ∃ k : Nat, i = .int .i64 k ∧ v = .string (mk (flat ((L.take k).map small))) ∧ k ≤ L.length ∧ Keep (w1.grownBy w' none)) (fun _ i _ => L.length - (intOf i).toNat)
  case atStart => exact ⟨0, rfl, rfl, Nat.zero_le _, ⟨World.grownBy.refl _ _⟩⟩
  case round =>
    obtain ⟨k, rfl, rfl, hk1, HG2⟩ := hrel
    by_cases hk : k = L.length
    · subst hk
      rw [List.take_length, ← HRes.out]
      go_wp2_with fail
      go_ret
      exact ⟨rfl, HG.out.trans HG2.out⟩
    · obtain ⟨p, hp⟩ : ∃ p, L[k]? = some p := ⟨_, List.getElem?_eq_getElem (by omega)⟩
      cases A with
      | none => have := HS.out.2.2.1 rfl; have := HS.out.2.1; omega
      | some ad =>
        obtain ⟨b, o, rfl, hcs⟩ := (HS.out.kept HG2.out).2.2.2 ad rfl
        obtain ⟨c1, c2⟩ := hcs k p hp
        have hkl : k < L.length := by omega
        have hpm := List.mem_of_getElem? hp
        obtain ⟨pb1, pb2, pb3⟩ := HPB.out p hpm
        have hkd := mem_kind HGd.out hpm
        have HE : Keep (mk (flat ((L.take k).map small)) ++ mk (small p).2 = mk (flat ((L.take (k + 1)).map small))) := ⟨by
          apply sl_inj
          rw [sl_app, sl_mk, sl_mk, sl_mk, List.take_add_one, hp, List.map_append, flat_app]
          simp [flat]⟩
        have hadd := addS (mk (flat ((L.take k).map small))) (mk (small p).2) (by
          rw [mk_size, mk_size]
          have := HFL.out k
          omega)
        clear hcs hp hk
        obtain ⟨S0, hS0⟩ : ∃ S, mk (flat ((L.take k).map small)) = S := ⟨_, rfl⟩
        obtain ⟨S1, hS1⟩ : ∃ S, mk (small p).2 = S := ⟨_, rfl⟩
        have HSM := Keep.mk (small_c p hkd pb1)
        rw [hS0] at hadd HE ⊢
        rw [hS1] at hadd HE HSM
        clear hS0 hS1 pb1 pb2 pb3
        go_wp2_with fail
        refine (HSM.out _).mono ?_
        rintro e w3 ⟨rfl, hG3⟩
        have HG3 : Keep (w1.grownBy w3 none) := ⟨HG2.out.trans hG3⟩
        clear hG3 HG2
        go_wp2_with fail
        go_roundw
        case rel => exact ⟨k + 1, by simp, by rw [HE.out], by omega, HG3⟩
        case measure => simp [intOf]; omega
set_option maxRecDepth 100000 in
set_option maxHeartbeats 2000000 in
theorem rsame_c (a b : ByteArray) (w : World) (ha : a.size ≤ 1048576) (hb : b.size ≤ 1048576) :
    Calls Tryz.prog 26 #[.string a, .string b] w fun e w' => e = .returned (.bool (decide (foldL (sl a) = foldL (sl b)))) ∧ w.grownBy w' none := by
  go_enter Tryz.func26, Tryz.ntmps26
  go_wp2_with fail
  refine (rfold_c a _ ha).mono ?_
  rintro e w1 ⟨rfl, hG⟩
  have HG := Keep.mk hG
  clear hG
  go_wp2_with fail
  refine (rfold_c b _ hb).mono ?_
  rintro e w2 ⟨rfl, hG⟩
  have HG2 : Keep (w.grownBy w2 none) := ⟨HG.out.trans hG⟩
  clear hG
  have HE := Keep.mk (eqS (foldL (sl a)) (foldL (sl b)))
  go_wp2_with fail
  rw [HE.out]
  go_ret
  exact ⟨rfl, HG2.out⟩
end Go.Proofs.YtplcicbpkbamnabGreatDoor.Lo.Na

