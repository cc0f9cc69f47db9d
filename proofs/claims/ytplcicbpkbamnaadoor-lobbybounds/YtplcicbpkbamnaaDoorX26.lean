import Derived.Test.YtplcicbpkbamnaaDoorX25
/- LobbyBounds: bounded -/
namespace Go.Proofs.YtplcicbpkbamnaaDoor.Lo
open Go Go.RowKit Go.Maps

theorem flat7 : ∀ (S : List Se) (i j : Nat) (s : Se) (v : Value), S[i]? = some s → (lvc s)[j]? = some v → (S.flatMap lvc)[i * 7 + j]? = some v
  | [], i, j, s, v, h, _ => by simp at h
  | x :: r, 0, j, s, v, h, hv => by
    obtain rfl : x = s := by simpa using h
    have hl : j < (lvc x).length := (List.getElem?_eq_some_iff.1 hv).1
    rw [List.flatMap_cons, Nat.zero_mul, Nat.zero_add, List.getElem?_append_left hl]; exact hv
  | x :: r, i + 1, j, s, v, h, hv => by
    have hl : (lvc x).length = 7 := rfl
    rw [List.flatMap_cons, List.getElem?_append_right (by omega), hl, show (i + 1) * 7 + j - 7 = i * 7 + j by omega]
    exact flat7 r i j s v (by simpa using h) hv
theorem lvr_of {W : World} {v : Value} {S : List Se} (h : W.ownsRow 0 42 7 v S.length (S.flatMap lvc)) : Lvr W v S := by
  constructor
  by_cases hn : 0 < S.length
  · obtain ⟨g, c, rfl, q⟩ := own_any h hn
    exact ⟨_, c, rfl, fun _ => ⟨g, rfl, fun j x hx i v hv => (q _ _ (flat7 S j i x v hx hv)).1⟩⟩
  · obtain ⟨a, c, rfl⟩ := own_slice h
    exact ⟨a, c, rfl, fun h => absurd h hn⟩
theorem lvr_n {W : World} {v : Value} {S : List Se} {n : Nat} (hn : S.length = n) (h : W.ownsRow 0 42 7 v n (S.flatMap lvc)) : Lvr W v S := lvr_of (by rw [hn]; exact h)
theorem zb_all (j : Nat) (hj : j < 32) : ((List.replicate 32 false).map Value.bool)[j]? = some (.bool false) := by
  rw [List.getElem?_map, List.getElem?_replicate, if_pos hj]; rfl
set_option maxRecDepth 100000 in
set_option maxHeartbeats 32000000 in
theorem bounded_c (w0 W : World) (l : List As) (lb : Nat) (X : Lb) (cl : List Value) (h : Sep w0 W (lobA lb X :: l)) (ok : LbOk X) (up : Up X) (wl : Wl X) (hk : Na.Kc w0) (hc0 : cl[0]? = some (iv (X.most : Nat)))
    (hL : ∀ W l, Sep w0 W (lobA lb X :: l) → Calls Tryd.prog 27 #[pt lb] W fun e W' => ∃ v, e = .returned v ∧ Sep w0 W' (rowV 42 7 v X.S.length (X.S.flatMap lvc) :: lobA lb X :: l)) :
    Calls Tryd.prog 30 #[pt lb, .agg cl.toArray] W fun e W' => e = .returned (.bool true) ∧ Sep w0 W' (lobA lb X :: l) := by
  obtain ⟨du, hdu, hdr⟩ := under42
  have S1 := h.newBox cl.toArray 24
  obtain ⟨W1, hW1⟩ : ∃ W1, W.alloc (.cells cl.toArray 24) = W1 := ⟨_, rfl⟩
  obtain ⟨cb, hcb⟩ : ∃ cb, W.heap.size = cb := ⟨_, rfl⟩
  rw [hW1, hcb] at S1
  have hLv := hL W1 _ S1.swap
  obtain ⟨n, hn⟩ : ∃ n, X.S.length = n := ⟨_, rfl⟩
  have HNS := Keep.mk hn
  have hle : n ≤ X.most ∧ X.most ≤ 32 := ⟨by rw [← hn]; exact ok.le, ok.m2⟩
  have HLE := Keep.mk hle
  have HC0 := Keep.mk hc0
  have HOK := Keep.mk (And.intro ok (And.intro up (And.intro wl hk)))
  rw [hn] at hLv
  have hnm : ¬ ((X.most : Nat) : Int) < (n : Nat) := by omega
  have hnm2 : decide (X.most < n) = false := decide_eq_false (by omega)
  have hnm3 : ¬ X.most < n := by omega
  clear h S1 ok up wl hk hc0 hL hn hle
  go_enter Tryd.func30, Tryd.ntmps30
  go_wp2_with fail
  refine hLv.mono ?_
  rintro e w2 ⟨v, rfl, S2⟩
  obtain ⟨a, cap, hv⟩ := own_slice (S2.rowGet k0m)
  subst hv
  have c0 : w2.cell? ⟨cb, 0, none⟩ = some (iv (X.most : Nat)) := (S2.boxGet k2m).cellv 0 _ HC0.out
  have S3 := S2.newBox zb32.toArray 113
  obtain ⟨W3, hW3⟩ : ∃ W3, w2.alloc (.cells zb32.toArray 113) = W3 := ⟨_, rfl⟩
  obtain ⟨pb, hpb⟩ : ∃ pb, w2.heap.size = pb := ⟨_, rfl⟩
  rw [hW3, hpb] at S3
  have HS3 : Keep (Sep w0 W3 (rowV 42 7 (.slice a n cap) n (X.S.flatMap lvc) :: lobA lb X :: boxA pb ((List.replicate 32 false).map Value.bool) 113 :: boxA cb cl 24 :: l)) := ⟨by
    have e : zb32 = (List.replicate 32 false).map Value.bool := rfl
    have q := S3
    rw [show zb32.toArray.toList = zb32 from rfl, e] at q
    exact bk1 [_, _] q⟩
  unfold zb32 at hW3
  clear S2 S3 hLv
  go_wp2_with fail
  clear c0 hW3 hpb hnm hnm2 hnm3
  go_loopw [7] (fun u wr => ∃ (i : Nat) (bs : List Bool), i ≤ n ∧ u = iv i ∧ Keep (Sep w0 wr (rowV 42 7 (.slice a n cap) n (X.S.flatMap lvc) :: lobA lb X :: boxA pb (bs.map Value.bool) 113 :: boxA cb cl 24 :: l)) ∧ Keep (bs.length = 32 ∧ ∀ j, j < 32 → bs[j]? = some (decide (j ∈ (X.S.take i).map Se.pl)))) (fun u _ => (n - intOf u).toNat)
  case atStart => exact ⟨0, _, by omega, rfl, HS3, ⟨rfl, fun j hj => by rw [List.getElem?_replicate, if_pos hj]; simp⟩⟩
  case round =>
    clear HS3
    obtain ⟨i, bs, hi, rfl, hS, hB⟩ := hrel
    rename World => wo
    by_cases hlt : i < n
    · obtain ⟨s, hs⟩ : ∃ s, X.S[i]? = some s := ⟨_, List.getElem?_eq_getElem (by rw [HNS.out]; exact hlt)⟩
      obtain ⟨p1, p2, p3, p4, p5, p6, p7⟩ := HOK.out.2.2.1.at_ HOK.out.1 HOK.out.2.1 hs
      have HP : Keep (s.pl < X.most ∧ X.most ≤ 32 ∧ 1 ≤ s.num ∧ s.num < X.next) := ⟨p1, HLE.out.2, p3, p4⟩
      have HSZ : Keep (s.nm.size ≤ 281474976710656 ∧ s.num < 18446744073709551616) := ⟨by
        have := HOK.out.1.s s (List.mem_of_getElem? hs)
        have := HOK.out.1.n2
        omega⟩
      have HQ := Keep.mk (And.intro p5 (And.intro p6 p7))
      have HB0 : Keep ((bs.map Value.bool)[s.pl]? = some (.bool false)) := ⟨by
        rw [List.getElem?_map, hB.out.2 s.pl (by have := HLE.out; omega), decide_eq_false p2]; rfl⟩
      have HB1 : Keep ((bs.set s.pl true).length = 32 ∧ ∀ j, j < 32 → (bs.set s.pl true)[j]? = some (decide (j ∈ (X.S.take (i + 1)).map Se.pl))) := ⟨by rw [List.length_set]; exact hB.out.1, fun j hj => by
        rw [List.take_add_one, hs]
        by_cases e : s.pl = j
        · rw [← e, List.getElem?_set_self (by rw [hB.out.1, e]; exact hj)]; simp
        · rw [List.getElem?_set_ne e, hB.out.2 j hj]
          congr 1
          rw [decide_eq_decide]
          simp [Ne.symm e]⟩
      obtain ⟨g, cap', hg, hr⟩ : ∃ g cap', (Value.slice a n cap) = .slice (some ⟨g, 0, none⟩) n cap' ∧ wo.rangeAt g (i * 7) (lvc s) := by
        obtain ⟨a', c', e, q⟩ := (lvr_n HNS.out (hS.out.rowGet k0m)).o
        obtain ⟨g, e1, q2⟩ := q (by rw [HNS.out]; omega)
        rw [e1, HNS.out] at e
        exact ⟨g, c', e, q2 i s hs⟩
      injection hg with hg1 hg2 hg3
      subst hg1 hg3
      have HRG := Keep.mk hr
      have hi0 : (0 : Int) ≤ (i : Int) := by omega
      have hi1 : (i : Int) < (n : Nat) := by omega
      have hti : ((i : Nat) : Int).toNat = i := by omega
      have hwi : IntKind.i64.wrap ((i : Int) + 1) = ((i + 1 : Nat) : Int) := by have := HLE.out; rw [wi _ (by omega) (by omega)]; omega
      have HI := Keep.mk hlt
      clear hg2 hr p1 p2 p3 p4 p5 p6 p7 hB hlt hi
      go_wp2_with (first
        | (show wpList _ _ _ ({ dst := _, op := Op.load 42 _, type := _, pos := _, after := _, guard := _ } :: _) _ _
           refine wpList_load_mid rfl 42 _ rfl _ _ rfl _ _ HRG.out hdu hdr (by exact info42) ?_)
        | (show wpList _ _ _ ({ dst := _, op := Op.store 42 _ _, type := _, pos := _, after := _, guard := _ } :: _) _ _
           refine store_new _ (lvc s) 42 rfl rfl rfl rfl rfl (by exact info42) (lvc_one _) ?_))
      intro w4 hS4 g4
      have S4 := hS4 w0 _ hS.out
      generalize wo.heap.size = xb at S4 ⊢
      have HNX : Keep (∀ W', Sep w0 W' (boxA xb (lvc s) 42 :: rowV 42 7 (.slice (some ⟨g, 0, none⟩) n cap) n (X.S.flatMap lvc) :: lobA lb X :: boxA pb (bs.map Value.bool) 113 :: boxA cb cl 24 :: l) → Calls Tryd.prog 26 #[pt lb] W' fun e W'' => e = .returned (uv X.next) ∧ W'' = W') := ⟨fun W' q => next_c w0 W' _ lb X (fr1 [_, _] q)⟩
      have HL4 := Keep.mk (S4.grown (gr_drew w4 none))
      clear hS4 g4 S4 hS HRG
      go_wp2_with fail
      by_cases hi00 : i = 0
      · have HI0 := Keep.mk hi00
        clear hi00
        refine wp_region_held_drew (S := fun w' => Sep w0 w' (boxA xb (lvc s) 42 :: rowV 42 7 (.slice (some ⟨g, 0, none⟩) n cap) n (X.S.flatMap lvc) :: lobA lb X :: boxA pb (bs.map Value.bool) 113 :: boxA cb cl 24 :: l)) (by kernel_rfl) HL4.out (fun hHeld => ?_)
        clear HL4
        generalize w4.drew = wA0 at hHeld ⊢
        refine wpAnyH_take (i := 0) (oi := _) (v := ?_) rfl (by kernel_rfl) (by kernel_rfl) (by kernel_rfl) (fun _ _ _ h => h) (Or.inl ⟨by rfl, ?_⟩) (by assumption) ?_
        rotate_left
        · (intro w hSw; go_simp; first | done | (with_reducible rfl))
        simp only [Act.put, List.getElem_toArray, List.getElem_cons_zero, List.setIfInBounds_toArray, List.set_cons_zero, List.set_cons_succ]
        refine wpAnyH_take (i := 1) (oi := _) (v := ?_) rfl (by kernel_rfl) (by kernel_rfl) (by kernel_rfl) (fun _ _ _ h => h) (Or.inl ⟨by rfl, ?_⟩) (by assumption) ?_
        rotate_left
        · (intro w hSw; have y1 : w.cell? ⟨xb, 1, none⟩ = some (iv (s.pl : Nat)) := (hSw.boxGet k0m).cellv 1 _ rfl; go_simp; first | done | (with_reducible rfl))
        simp only [Act.put, List.getElem_toArray, List.getElem_cons_succ, List.getElem_cons_zero, List.setIfInBounds_toArray, List.set_cons_zero, List.set_cons_succ]
        refine wpAnyH_take (i := 2) (oi := _) (v := .bool false) rfl (by kernel_rfl) (by kernel_rfl) (by kernel_rfl) (fun _ _ _ h => h) (Or.inl ⟨by rfl, ?_⟩) (by assumption) ?_
        · (intro w hSw; have f2 : ¬ ((s.pl : Nat) : Int) < 0 := (by omega); have f3 : decide (((s.pl : Nat) : Int) < 0) = false := decide_eq_false f2; go_simp; first | done | (simp; done) | trace_state)
        simp only [Act.put, List.getElem_toArray, List.getElem_cons_succ, List.getElem_cons_zero, List.setIfInBounds_toArray, List.set_cons_zero, List.set_cons_succ]
        refine wpAnyH_take (i := 3) (oi := _) (v := ?_) rfl (by kernel_rfl) (by kernel_rfl) (by kernel_rfl) (fun _ _ _ h => h) (Or.inl ⟨by rfl, ?_⟩) (by assumption) ?_
        rotate_left
        · (intro w hSw; go_simp; first | done | (with_reducible rfl))
        simp only [Act.put, List.getElem_toArray, List.getElem_cons_succ, List.getElem_cons_zero, List.setIfInBounds_toArray, List.set_cons_zero, List.set_cons_succ]
        refine wpAnyH_take (i := 4) (oi := _) (v := ?_) rfl (by kernel_rfl) (by kernel_rfl) (by kernel_rfl) (fun _ _ _ h => h) (Or.inl ⟨by rfl, ?_⟩) (by assumption) ?_
        rotate_left
        · (intro w hSw; go_simp; first | done | (with_reducible rfl))
        simp only [Act.put, List.getElem_toArray, List.getElem_cons_succ, List.getElem_cons_zero, List.setIfInBounds_toArray, List.set_cons_zero, List.set_cons_succ]
        refine wpAnyH_take (i := 5) (oi := _) (v := ?_) rfl (by kernel_rfl) (by kernel_rfl) (by kernel_rfl) (fun _ _ _ h => h) (Or.inl ⟨by rfl, ?_⟩) (by assumption) ?_
        rotate_left
        · (intro w hSw; have y1 : w.cell? ⟨xb, 1, none⟩ = some (iv (s.pl : Nat)) := (hSw.boxGet k0m).cellv 1 _ rfl; go_simp; first | done | (with_reducible rfl))
        simp only [Act.put, List.getElem_toArray, List.getElem_cons_succ, List.getElem_cons_zero, List.setIfInBounds_toArray, List.set_cons_zero, List.set_cons_succ]
        refine wpAnyH_take (i := 6) (oi := _) (v := ?_) rfl (by kernel_rfl) (by kernel_rfl) (by kernel_rfl) (fun _ _ _ h => h) (Or.inl ⟨by rfl, ?_⟩) (by assumption) ?_
        rotate_left
        · (intro w hSw; go_simp; first | done | (with_reducible rfl))
        simp only [Act.put, List.getElem_toArray, List.getElem_cons_succ, List.getElem_cons_zero, List.setIfInBounds_toArray, List.set_cons_zero, List.set_cons_succ]
        refine wpAnyH_take (i := 7) (oi := _) (v := ?_) rfl (by kernel_rfl) (by kernel_rfl) (by kernel_rfl) (fun _ _ _ h => h) (Or.inl ⟨by rfl, ?_⟩) (by assumption) ?_
        rotate_left
        · (intro w hSw; have c0 : w.cell? ⟨cb, 0, none⟩ = some (iv (X.most : Nat)) := (hSw.boxGet k4m).cellv 0 _ HC0.out; go_simp; first | done | (with_reducible rfl))
        simp only [Act.put, List.getElem_toArray, List.getElem_cons_succ, List.getElem_cons_zero, List.setIfInBounds_toArray, List.set_cons_zero, List.set_cons_succ]
        refine wpAnyH_take (i := 8) (oi := _) (v := .bool false) rfl (by kernel_rfl) (by kernel_rfl) (by kernel_rfl) (fun _ _ _ h => h) (Or.inl ⟨by rfl, ?_⟩) (by assumption) ?_
        · (intro w hSw; have f2 : ¬ ((X.most : Nat) : Int) ≤ ((s.pl : Nat) : Int) := (by have := HP.out; omega); have f3 : ¬ X.most ≤ s.pl := (by have := HP.out; omega); have f4 : decide (X.most ≤ s.pl) = false := decide_eq_false f3; go_simp; first | done | (simp; done) | trace_state)
        simp only [Act.put, List.getElem_toArray, List.getElem_cons_succ, List.getElem_cons_zero, List.setIfInBounds_toArray, List.set_cons_zero, List.set_cons_succ]
        refine wpAnyH_take (i := 9) (oi := _) (v := .bool false) rfl (by kernel_rfl) (by kernel_rfl) (by kernel_rfl) (fun _ _ _ h => h) (Or.inl ⟨by rfl, ?_⟩) (by assumption) ?_
        · (intro w hSw; go_simp; first | done | (simp; done) | trace_state)
        simp only [Act.put, List.getElem_toArray, List.getElem_cons_succ, List.getElem_cons_zero, List.setIfInBounds_toArray, List.set_cons_zero, List.set_cons_succ]
        refine wpAnyH_take (i := 10) (oi := _) (v := ?_) rfl (by kernel_rfl) (by kernel_rfl) (by kernel_rfl) (fun _ _ _ h => h) (Or.inl ⟨by rfl, ?_⟩) (by assumption) ?_
        rotate_left
        · (intro w hSw; go_simp; first | done | (with_reducible rfl))
        simp only [Act.put, List.getElem_toArray, List.getElem_cons_succ, List.getElem_cons_zero, List.setIfInBounds_toArray, List.set_cons_zero, List.set_cons_succ]
        refine wpAnyH_take (i := 11) (oi := _) (v := ?_) rfl (by kernel_rfl) (by kernel_rfl) (by kernel_rfl) (fun _ _ _ h => h) (Or.inl ⟨by rfl, ?_⟩) (by assumption) ?_
        rotate_left
        · (intro w hSw; go_simp; first | done | (with_reducible rfl))
        simp only [Act.put, List.getElem_toArray, List.getElem_cons_succ, List.getElem_cons_zero, List.setIfInBounds_toArray, List.set_cons_zero, List.set_cons_succ]
        refine wpAnyH_take (i := 12) (oi := _) (v := ?_) rfl (by kernel_rfl) (by kernel_rfl) (by kernel_rfl) (fun _ _ _ h => h) (Or.inl ⟨by rfl, ?_⟩) (by assumption) ?_
        rotate_left
        · (intro w hSw; have y1 : w.cell? ⟨xb, 1, none⟩ = some (iv (s.pl : Nat)) := (hSw.boxGet k0m).cellv 1 _ rfl; go_simp; first | done | (with_reducible rfl))
        simp only [Act.put, List.getElem_toArray, List.getElem_cons_succ, List.getElem_cons_zero, List.setIfInBounds_toArray, List.set_cons_zero, List.set_cons_succ]
        refine wpAnyH_take (i := 13) (oi := _) (v := ?_) rfl (by kernel_rfl) (by kernel_rfl) (by kernel_rfl) (fun _ _ _ h => h) (Or.inl ⟨by rfl, ?_⟩) (by assumption) ?_
        rotate_left
        · (intro w hSw; have l1 : (0 : Int) ≤ (s.pl : Int) := (by omega); have l2 : (s.pl : Int) < 32 := (by have := HP.out; omega); have l3 : ((s.pl : Nat) : Int).toNat = s.pl := (by omega); have l4 : s.pl < 32 := (by have := HP.out; omega); go_simp; first | done | (with_reducible rfl))
        simp only [Act.put, List.getElem_toArray, List.getElem_cons_succ, List.getElem_cons_zero, List.setIfInBounds_toArray, List.set_cons_zero, List.set_cons_succ]
        refine wpAnyH_take (i := 14) (oi := _) (v := .bool false) rfl (by kernel_rfl) (by kernel_rfl) (by kernel_rfl) (fun _ _ _ h => h) (Or.inl ⟨by rfl, ?_⟩) (by assumption) ?_
        · (intro w hSw; have c9 : w.cell? ⟨pb, s.pl, none⟩ = some (.bool false) := (hSw.boxGet k3m).cellv s.pl _ HB0.out; go_simp; first | done | (simp; done) | trace_state)
        simp only [Act.put, List.getElem_toArray, List.getElem_cons_succ, List.getElem_cons_zero, List.setIfInBounds_toArray, List.set_cons_zero, List.set_cons_succ]
        refine wpAnyH_take (i := 15) (oi := _) (v := .bool false) rfl (by kernel_rfl) (by kernel_rfl) (by kernel_rfl) (fun _ _ _ h => h) (Or.inl ⟨by rfl, ?_⟩) (by assumption) ?_
        · (intro w hSw; go_simp; first | done | (simp; done) | trace_state)
        simp only [Act.put, List.getElem_toArray, List.getElem_cons_succ, List.getElem_cons_zero, List.setIfInBounds_toArray, List.set_cons_zero, List.set_cons_succ]
        refine wpAnyH_take (i := 16) (oi := _) (v := ?_) rfl (by kernel_rfl) (by kernel_rfl) (by kernel_rfl) (fun _ _ _ h => h) (Or.inl ⟨by rfl, ?_⟩) (by assumption) ?_
        rotate_left
        · (intro w hSw; go_simp; first | done | (with_reducible rfl))
        simp only [Act.put, List.getElem_toArray, List.getElem_cons_succ, List.getElem_cons_zero, List.setIfInBounds_toArray, List.set_cons_zero, List.set_cons_succ]
        refine wpAnyH_take (i := 17) (oi := _) (v := ?_) rfl (by kernel_rfl) (by kernel_rfl) (by kernel_rfl) (fun _ _ _ h => h) (Or.inl ⟨by rfl, ?_⟩) (by assumption) ?_
        rotate_left
        · (intro w hSw; go_simp; first | done | (with_reducible rfl))
        simp only [Act.put, List.getElem_toArray, List.getElem_cons_succ, List.getElem_cons_zero, List.setIfInBounds_toArray, List.set_cons_zero, List.set_cons_succ]
        refine wpAnyH_take (i := 18) (oi := _) (v := ?_) rfl (by kernel_rfl) (by kernel_rfl) (by kernel_rfl) (fun _ _ _ h => h) (Or.inl ⟨by rfl, ?_⟩) (by assumption) ?_
        rotate_left
        · (intro w hSw; have y0 : w.cell? ⟨xb, 0, none⟩ = some (uv s.num) := (hSw.boxGet k0m).cellv 0 _ rfl; go_simp; first | done | (with_reducible rfl))
        simp only [Act.put, List.getElem_toArray, List.getElem_cons_succ, List.getElem_cons_zero, List.setIfInBounds_toArray, List.set_cons_zero, List.set_cons_succ]
        refine wpAnyH_take (i := 19) (oi := _) (v := .bool false) rfl (by kernel_rfl) (by kernel_rfl) (by kernel_rfl) (fun _ _ _ h => h) (Or.inl ⟨by rfl, ?_⟩) (by assumption) ?_
        · (intro w hSw; have f2 : ¬ ((s.num : Nat) : Int) < 1 := (by have := HP.out; omega); have f3 : ¬ s.num < 1 := (by have := HP.out; omega); have f4 : decide (s.num < 1) = false := decide_eq_false f3; have f5 : decide (s.num = 0) = false := decide_eq_false (by omega); go_simp; first | done | (simp; done) | trace_state)
        simp only [Act.put, List.getElem_toArray, List.getElem_cons_succ, List.getElem_cons_zero, List.setIfInBounds_toArray, List.set_cons_zero, List.set_cons_succ]
        refine wpAnyH_take (i := 20) (oi := _) (v := .bool false) rfl (by kernel_rfl) (by kernel_rfl) (by kernel_rfl) (fun _ _ _ h => h) (Or.inl ⟨by rfl, ?_⟩) (by assumption) ?_
        · (intro w hSw; go_simp; first | done | (simp; done) | trace_state)
        simp only [Act.put, List.getElem_toArray, List.getElem_cons_succ, List.getElem_cons_zero, List.setIfInBounds_toArray, List.set_cons_zero, List.set_cons_succ]
        refine wpAnyH_take (i := 21) (oi := _) (v := ?_) rfl (by kernel_rfl) (by kernel_rfl) (by kernel_rfl) (fun _ _ _ h => h) (Or.inl ⟨by rfl, ?_⟩) (by assumption) ?_
        rotate_left
        · (intro w hSw; go_simp; first | done | (with_reducible rfl))
        simp only [Act.put, List.getElem_toArray, List.getElem_cons_succ, List.getElem_cons_zero, List.setIfInBounds_toArray, List.set_cons_zero, List.set_cons_succ]
        refine wpAnyH_take (i := 22) (oi := _) (v := ?_) rfl (by kernel_rfl) (by kernel_rfl) (by kernel_rfl) (fun _ _ _ h => h) (Or.inl ⟨by rfl, ?_⟩) (by assumption) ?_
        rotate_left
        · (intro w hSw; go_simp; first | done | (with_reducible rfl))
        simp only [Act.put, List.getElem_toArray, List.getElem_cons_succ, List.getElem_cons_zero, List.setIfInBounds_toArray, List.set_cons_zero, List.set_cons_succ]
        refine wpAnyH_take (i := 23) (oi := _) (v := ?_) rfl (by kernel_rfl) (by kernel_rfl) (by kernel_rfl) (fun _ _ _ h => h) (Or.inl ⟨by rfl, ?_⟩) (by assumption) ?_
        rotate_left
        · (intro w hSw; have y0 : w.cell? ⟨xb, 0, none⟩ = some (uv s.num) := (hSw.boxGet k0m).cellv 0 _ rfl; go_simp; first | done | (with_reducible rfl))
        simp only [Act.put, List.getElem_toArray, List.getElem_cons_succ, List.getElem_cons_zero, List.setIfInBounds_toArray, List.set_cons_zero, List.set_cons_succ]
        refine wpAnyH_take (i := 24) (oi := _) (v := ?_) rfl (by kernel_rfl) (by kernel_rfl) (by kernel_rfl) (fun _ _ _ h => h) (Or.inl ⟨by rfl, ?_⟩) (by assumption) ?_
        rotate_left
        · (intro w hSw; go_simp; first | done | (with_reducible rfl))
        simp only [Act.put, List.getElem_toArray, List.getElem_cons_succ, List.getElem_cons_zero, List.setIfInBounds_toArray, List.set_cons_zero, List.set_cons_succ]
        refine wpAnyH_ready (rs := [25]) (by kernel_rfl) (by simp) ?_
        refine AllReadyH.cons rfl (fun K hK => ?_) AllReadyH.nil
        go_simp
        refine (HNX.out _ hHeld).mono ?_
        rintro e wA ⟨rfl, hwA⟩
        subst hwA
        refine hK.out _ _ hHeld (fun hHeld => ?_)
        clear hK K
        refine wpAnyH_take (i := 26) (oi := _) (v := .bool false) rfl (by kernel_rfl) (by kernel_rfl) (by kernel_rfl) (fun _ _ _ h => h) (Or.inl ⟨by rfl, ?_⟩) (by assumption) ?_
        · (intro w hSw; have f2 : ¬ ((X.next : Nat) : Int) ≤ ((s.num : Nat) : Int) := (by have := HP.out; omega); have f3 : ¬ X.next ≤ s.num := (by have := HP.out; omega); have f4 : decide (X.next ≤ s.num) = false := decide_eq_false f3; go_simp; first | done | (simp; done) | trace_state)
        simp only [Act.put, List.getElem_toArray, List.getElem_cons_succ, List.getElem_cons_zero, List.setIfInBounds_toArray, List.set_cons_zero, List.set_cons_succ]
        refine wpAnyH_take (i := 27) (oi := _) (v := .bool false) rfl (by kernel_rfl) (by kernel_rfl) (by kernel_rfl) (fun _ _ _ h => h) (Or.inl ⟨by rfl, ?_⟩) (by assumption) ?_
        · (intro w hSw; go_simp; first | done | (simp; done) | trace_state)
        simp only [Act.put, List.getElem_toArray, List.getElem_cons_succ, List.getElem_cons_zero, List.setIfInBounds_toArray, List.set_cons_zero, List.set_cons_succ]
        refine wpAnyH_take (i := 28) (oi := _) (v := ?_) rfl (by kernel_rfl) (by kernel_rfl) (by kernel_rfl) (fun _ _ _ h => h) (Or.inl ⟨by rfl, ?_⟩) (by assumption) ?_
        rotate_left
        · (intro w hSw; go_simp; first | done | (with_reducible rfl))
        simp only [Act.put, List.getElem_toArray, List.getElem_cons_succ, List.getElem_cons_zero, List.setIfInBounds_toArray, List.set_cons_zero, List.set_cons_succ]
        refine wpAnyH_take (i := 29) (oi := _) (v := ?_) rfl (by kernel_rfl) (by kernel_rfl) (by kernel_rfl) (fun _ _ _ h => h) (Or.inl ⟨by rfl, ?_⟩) (by assumption) ?_
        rotate_left
        · (intro w hSw; go_simp; first | done | (with_reducible rfl))
        simp only [Act.put, List.getElem_toArray, List.getElem_cons_succ, List.getElem_cons_zero, List.setIfInBounds_toArray, List.set_cons_zero, List.set_cons_succ]
        refine wpAnyH_take (i := 30) (oi := _) (v := .bool false) rfl (by kernel_rfl) (by kernel_rfl) (by kernel_rfl) (fun _ _ _ h => h) (Or.inl ⟨by rfl, ?_⟩) (by assumption) ?_
        · (intro w hSw; have f2 : ¬ (0 : Int) < (i : Int) := (by have := HI0.out; omega); have f3 : decide (0 < i) = false := decide_eq_false (by have := HI0.out; omega); have f4 : decide ((0 : Int) < (i : Int)) = false := decide_eq_false f2; go_simp; first | done | (simp; done) | trace_state)
        simp only [Act.put, List.getElem_toArray, List.getElem_cons_succ, List.getElem_cons_zero, List.setIfInBounds_toArray, List.set_cons_zero, List.set_cons_succ]
        refine wpAnyH_take (i := 31) (oi := _) (v := ?_) rfl (by kernel_rfl) (by kernel_rfl) (by kernel_rfl) (fun _ _ _ h => h) (Or.inl ⟨by rfl, ?_⟩) (by assumption) ?_
        rotate_left
        · (intro w hSw; go_simp; first | done | (with_reducible rfl))
        simp only [Act.put, List.getElem_toArray, List.getElem_cons_succ, List.getElem_cons_zero, List.setIfInBounds_toArray, List.set_cons_zero, List.set_cons_succ]
        refine wpAnyH_take (i := 32) (oi := _) (v := undef) rfl (by kernel_rfl) (by kernel_rfl) (by kernel_rfl) (fun _ _ _ h => h) (Or.inr ⟨by rfl, rfl⟩) (by assumption) ?_
        simp only [Act.put, List.getElem_toArray, List.getElem_cons_succ, List.getElem_cons_zero, List.setIfInBounds_toArray, List.set_cons_zero, List.set_cons_succ]
        refine wpAnyH_take (i := 33) (oi := _) (v := undef) rfl (by kernel_rfl) (by kernel_rfl) (by kernel_rfl) (fun _ _ _ h => h) (Or.inr ⟨by rfl, rfl⟩) (by assumption) ?_
        simp only [Act.put, List.getElem_toArray, List.getElem_cons_succ, List.getElem_cons_zero, List.setIfInBounds_toArray, List.set_cons_zero, List.set_cons_succ]
        refine wpAnyH_take (i := 34) (oi := _) (v := undef) rfl (by kernel_rfl) (by kernel_rfl) (by kernel_rfl) (fun _ _ _ h => h) (Or.inr ⟨by rfl, rfl⟩) (by assumption) ?_
        simp only [Act.put, List.getElem_toArray, List.getElem_cons_succ, List.getElem_cons_zero, List.setIfInBounds_toArray, List.set_cons_zero, List.set_cons_succ]
        refine wpAnyH_take (i := 35) (oi := _) (v := undef) rfl (by kernel_rfl) (by kernel_rfl) (by kernel_rfl) (fun _ _ _ h => h) (Or.inr ⟨by rfl, rfl⟩) (by assumption) ?_
        simp only [Act.put, List.getElem_toArray, List.getElem_cons_succ, List.getElem_cons_zero, List.setIfInBounds_toArray, List.set_cons_zero, List.set_cons_succ]
        refine wpAnyH_take (i := 36) (oi := _) (v := undef) rfl (by kernel_rfl) (by kernel_rfl) (by kernel_rfl) (fun _ _ _ h => h) (Or.inr ⟨by rfl, rfl⟩) (by assumption) ?_
        simp only [Act.put, List.getElem_toArray, List.getElem_cons_succ, List.getElem_cons_zero, List.setIfInBounds_toArray, List.set_cons_zero, List.set_cons_succ]
        refine wpAnyH_take (i := 37) (oi := _) (v := undef) rfl (by kernel_rfl) (by kernel_rfl) (by kernel_rfl) (fun _ _ _ h => h) (Or.inr ⟨by rfl, rfl⟩) (by assumption) ?_
        simp only [Act.put, List.getElem_toArray, List.getElem_cons_succ, List.getElem_cons_zero, List.setIfInBounds_toArray, List.set_cons_zero, List.set_cons_succ]
        refine wpAnyH_take (i := 38) (oi := _) (v := undef) rfl (by kernel_rfl) (by kernel_rfl) (by kernel_rfl) (fun _ _ _ h => h) (Or.inr ⟨by rfl, rfl⟩) (by assumption) ?_
        simp only [Act.put, List.getElem_toArray, List.getElem_cons_succ, List.getElem_cons_zero, List.setIfInBounds_toArray, List.set_cons_zero, List.set_cons_succ]
        refine wpAnyH_take (i := 39) (oi := _) (v := undef) rfl (by kernel_rfl) (by kernel_rfl) (by kernel_rfl) (fun _ _ _ h => h) (Or.inr ⟨by rfl, rfl⟩) (by assumption) ?_
        simp only [Act.put, List.getElem_toArray, List.getElem_cons_succ, List.getElem_cons_zero, List.setIfInBounds_toArray, List.set_cons_zero, List.set_cons_succ]
        refine wpAnyH_take (i := 40) (oi := _) (v := undef) rfl (by kernel_rfl) (by kernel_rfl) (by kernel_rfl) (fun _ _ _ h => h) (Or.inr ⟨by rfl, rfl⟩) (by assumption) ?_
        simp only [Act.put, List.getElem_toArray, List.getElem_cons_succ, List.getElem_cons_zero, List.setIfInBounds_toArray, List.set_cons_zero, List.set_cons_succ]
        refine wpAnyH_take (i := 41) (oi := _) (v := .bool false) rfl (by kernel_rfl) (by kernel_rfl) (by kernel_rfl) (fun _ _ _ h => h) (Or.inl ⟨by rfl, ?_⟩) (by assumption) ?_
        · (intro w hSw; go_simp; first | done | (simp; done) | trace_state)
        simp only [Act.put, List.getElem_toArray, List.getElem_cons_succ, List.getElem_cons_zero, List.setIfInBounds_toArray, List.set_cons_zero, List.set_cons_succ]
        refine wpAnyH_take (i := 42) (oi := _) (v := .bool false) rfl (by kernel_rfl) (by kernel_rfl) (by kernel_rfl) (fun _ _ _ h => h) (Or.inl ⟨by rfl, ?_⟩) (by assumption) ?_
        · (intro w hSw; go_simp; first | done | (simp; done) | trace_state)
        simp only [Act.put, List.getElem_toArray, List.getElem_cons_succ, List.getElem_cons_zero, List.setIfInBounds_toArray, List.set_cons_zero, List.set_cons_succ]
        refine wpAnyH_done (by kernel_rfl) ?_ _
        clear HNX
        have y1 : wA.cell? ⟨xb, 1, none⟩ = some (iv (s.pl : Nat)) := (hHeld.boxGet k0m).cellv 1 _ rfl
        have c9 : wA.cell? ⟨pb, s.pl, none⟩ = some (.bool false) := (hHeld.boxGet k3m).cellv s.pl _ HB0.out
        have f9 : wA.frozen? ⟨pb, s.pl, none⟩ = false := (hHeld.boxGet k3m).frozen s.pl
        have l1 : (0 : Int) ≤ (s.pl : Int) := by omega
        have l2 : (s.pl : Int) < 32 := by have := HP.out; omega
        have l3 : ((s.pl : Nat) : Int).toNat = s.pl := by omega
        have S5 := (fr1 [_, _, _] hHeld).boxPut s.pl (.bool true)
        obtain ⟨w5, hw5⟩ : ∃ w5, wA.setCell ⟨pb, s.pl, none⟩ (.bool true) = w5 := ⟨_, rfl⟩
        have S6 : Sep w0 w5 (boxA xb (lvc s) 42 :: rowV 42 7 (.slice (some ⟨g, 0, none⟩) n cap) n (X.S.flatMap lvc) :: lobA lb X :: boxA pb ((bs.set s.pl true).map Value.bool) 113 :: boxA cb cl 24 :: l) := by
          rw [hw5, ← List.map_set] at S5
          exact bk1 [_, _, _] S5
        have y2 : w5.cell? ⟨xb, 2, none⟩ = some (.string s.nm) := (S6.boxGet k0m).cellv 2 _ rfl
        have hSc := secret_c w0 w5 _ lb X s.nm (fr1 [_, _] S6) HOK.out.1 (HOK.out.2.2.2.kept S6.g) HSZ.out.1
        rw [HQ.out.1] at hSc
        clear S5 S6 hHeld HB0
        go_wp2_with fail
        refine hSc.mono ?_
        rintro e w6 ⟨rfl, S6⟩
        have y0 : w6.cell? ⟨xb, 0, none⟩ = some (uv s.num) := (S6.boxGet k1m).cellv 0 _ rfl
        have y3 : w6.cell? ⟨xb, 3, none⟩ = some (.string s.fr) := (S6.boxGet k1m).cellv 3 _ rfl
        have hF := fnd_c w0 w6 _ lb X s.num s.fr S6 HOK.out.1 HSZ.out.2
        rw [HQ.out.2.1] at hF
        clear hSc S6 y1 y2 c9 f9 l1 l2 l3 hw5
        go_wp2_with fail
        refine hF.mono ?_
        rintro e w7 ⟨rfl, S7⟩
        have HS7 := Keep.mk S7
        clear hF S7 y0 y3
        go_wp2_with (first
          | (show wpList _ _ _ ({ dst := _, op := Op.store 42 _ _, type := _, pos := _, after := _, guard := _ } :: _) _ _
             refine store_new _ (lvc s) 42 rfl rfl rfl rfl rfl (by exact info42) (lvc_one _) ?_))
        intro w8 hS8 g8
        have S8 := hS8 w0 _ HS7.out
        generalize w7.heap.size = fb at S8 ⊢
        have HS8 : Keep (Sep w0 w8 (lobA lb X :: boxA xb (lvc s) 42 :: rowV 42 7 (.slice (some ⟨g, 0, none⟩) n cap) n (X.S.flatMap lvc) :: boxA pb ((bs.set s.pl true).map Value.bool) 113 :: boxA cb cl 24 :: l)) := ⟨S8.tail⟩
        clear hS8 g8 HS7 S8
        go_wp2_with fail
        go_loopw [13] (fun u wr => ∃ k : Nat, k ≤ i ∧ u = iv k ∧ Keep (Sep w0 wr (lobA lb X :: boxA xb (lvc s) 42 :: rowV 42 7 (.slice (some ⟨g, 0, none⟩) n cap) n (X.S.flatMap lvc) :: boxA pb ((bs.set s.pl true).map Value.bool) 113 :: boxA cb cl 24 :: l))) (fun u _ => (i - intOf u).toNat)
        case atStart => exact ⟨0, by omega, rfl, HS8⟩
        case round =>
          clear HS8
          obtain ⟨k, hki, rfl, hS⟩ := hrel
          by_cases hk : k < i
          · obtain ⟨z2, hz⟩ : ∃ z2, X.S[k]? = some z2 := ⟨_, List.getElem?_eq_getElem (by rw [HNS.out]; have := HI.out; omega)⟩
            have hs0 := (HQ.out.2.2 k z2 hk hz).2
            have HKI : Keep (k < n) := ⟨by have := HI.out; omega⟩
            have hk1 : (k : Int) < (i : Nat) := by omega
            have hwk : IntKind.i64.wrap ((k : Int) + 1) = ((k + 1 : Nat) : Int) := by have := HLE.out; have := HI.out; rw [wi _ (by omega) (by omega)]; omega
            have HSM : Keep (∀ W', Sep w0 W' (lobA lb X :: boxA xb (lvc s) 42 :: rowV 42 7 (.slice (some ⟨g, 0, none⟩) n cap) n (X.S.flatMap lvc) :: boxA pb ((bs.set s.pl true).map Value.bool) 113 :: boxA cb cl 24 :: l) → Calls Tryd.prog 54 #[.string z2.nm, .string s.nm] W' fun e W'' => e = .returned (.bool false) ∧ Sep w0 W'' (lobA lb X :: boxA xb (lvc s) 42 :: rowV 42 7 (.slice (some ⟨g, 0, none⟩) n cap) n (X.S.flatMap lvc) :: boxA pb ((bs.set s.pl true).map Value.bool) 113 :: boxA cb cl 24 :: l)) := ⟨fun W' q => by
              have c := Na.same_c z2.nm s.nm W' (HOK.out.2.2.2.kept q.g)
              rw [hs0] at c
              exact c.mono fun e W'' ⟨he, hg⟩ => ⟨he, q.grown hg⟩⟩
            have HL4 := Keep.mk (hS.out.grown (gr_drew wr none))
            clear hS hs0
            go_wp2_with fail
            refine wp_region_held_drew (S := fun w' => Sep w0 w' (lobA lb X :: boxA xb (lvc s) 42 :: rowV 42 7 (.slice (some ⟨g, 0, none⟩) n cap) n (X.S.flatMap lvc) :: boxA pb ((bs.set s.pl true).map Value.bool) 113 :: boxA cb cl 24 :: l)) (by kernel_rfl) HL4.out (fun hHeld => ?_)
            clear HL4
            generalize wr.drew = wB0 at hHeld ⊢
            refine wpAnyH_take (i := 0) (oi := _) (v := ?_) rfl (by kernel_rfl) (by kernel_rfl) (by kernel_rfl) (fun _ _ _ h => h) (Or.inl ⟨by rfl, ?_⟩) (by assumption) ?_
            rotate_left
            · (intro w hSw; go_simp; first | done | (with_reducible rfl))
            simp only [Act.put, List.getElem_toArray, List.getElem_cons_zero, List.setIfInBounds_toArray, List.set_cons_zero, List.set_cons_succ]
            refine wpAnyH_take (i := 1) (oi := _) (v := ?_) rfl (by kernel_rfl) (by kernel_rfl) (by kernel_rfl) (fun _ _ _ h => h) (Or.inl ⟨by rfl, ?_⟩) (by assumption) ?_
            rotate_left
            · (intro w hSw; go_simp; first | done | (with_reducible rfl))
            simp only [Act.put, List.getElem_toArray, List.getElem_cons_succ, List.getElem_cons_zero, List.setIfInBounds_toArray, List.set_cons_zero, List.set_cons_succ]
            refine wpAnyH_take (i := 2) (oi := _) (v := ?_) rfl (by kernel_rfl) (by kernel_rfl) (by kernel_rfl) (fun _ _ _ h => h) (Or.inl ⟨by rfl, ?_⟩) (by assumption) ?_
            rotate_left
            · (intro w hSw; have l1 : (0 : Int) ≤ (k : Int) := (by omega); have l2 : (k : Int) < (n : Nat) := (by have := HKI.out; omega); have l3 : ((k : Nat) : Int).toNat = k := (by omega); have l4 : k < n := (by have := HKI.out; omega); go_simp; first | done | (with_reducible rfl))
            simp only [Act.put, List.getElem_toArray, List.getElem_cons_succ, List.getElem_cons_zero, List.setIfInBounds_toArray, List.set_cons_zero, List.set_cons_succ]
            refine wpAnyH_take (i := 3) (oi := _) (v := ?_) rfl (by kernel_rfl) (by kernel_rfl) (by kernel_rfl) (fun _ _ _ h => h) (Or.inl ⟨by rfl, ?_⟩) (by assumption) ?_
            rotate_left
            · (intro w hSw; go_simp; first | done | (with_reducible rfl))
            simp only [Act.put, List.getElem_toArray, List.getElem_cons_succ, List.getElem_cons_zero, List.setIfInBounds_toArray, List.set_cons_zero, List.set_cons_succ]
            refine wpAnyH_take (i := 4) (oi := _) (v := ?_) rfl (by kernel_rfl) (by kernel_rfl) (by kernel_rfl) (fun _ _ _ h => h) (Or.inl ⟨by rfl, ?_⟩) (by assumption) ?_
            rotate_left
            · (intro w hSw; obtain ⟨q0, q1, q2, q3, q4, q5, q6⟩ := (lvr_n HNS.out (hSw.rowGet k2m)).cells HNS.out hz; go_simp; first | done | (with_reducible rfl))
            simp only [Act.put, List.getElem_toArray, List.getElem_cons_succ, List.getElem_cons_zero, List.setIfInBounds_toArray, List.set_cons_zero, List.set_cons_succ]
            refine wpAnyH_take (i := 5) (oi := _) (v := ?_) rfl (by kernel_rfl) (by kernel_rfl) (by kernel_rfl) (fun _ _ _ h => h) (Or.inl ⟨by rfl, ?_⟩) (by assumption) ?_
            rotate_left
            · (intro w hSw; go_simp; first | done | (with_reducible rfl))
            simp only [Act.put, List.getElem_toArray, List.getElem_cons_succ, List.getElem_cons_zero, List.setIfInBounds_toArray, List.set_cons_zero, List.set_cons_succ]
            refine wpAnyH_take (i := 6) (oi := _) (v := ?_) rfl (by kernel_rfl) (by kernel_rfl) (by kernel_rfl) (fun _ _ _ h => h) (Or.inl ⟨by rfl, ?_⟩) (by assumption) ?_
            rotate_left
            · (intro w hSw; have y2 : w.cell? ⟨xb, 2, none⟩ = some (.string s.nm) := (hSw.boxGet k1m).cellv 2 _ rfl; go_simp; first | done | (with_reducible rfl))
            simp only [Act.put, List.getElem_toArray, List.getElem_cons_succ, List.getElem_cons_zero, List.setIfInBounds_toArray, List.set_cons_zero, List.set_cons_succ]
            refine wpAnyH_ready (rs := [7]) (by kernel_rfl) (by simp) ?_
            refine AllReadyH.cons rfl (fun K hK => ?_) AllReadyH.nil
            go_simp
            refine (HSM.out _ hHeld).mono ?_
            rintro e wA ⟨rfl, SA⟩
            refine hK.out _ _ SA (fun hHeld => ?_)
            clear hK K
            refine wpAnyH_done (by kernel_rfl) ?_ _
            have HSX := Keep.mk hHeld
            clear hHeld HSM
            go_wp2_with fail
            go_roundw
            case rel => exact ⟨k + 1, by omega, rfl, HSX⟩
            case measure => simp [intOf]; omega
          · have hk1 : ¬ (k : Int) < (i : Nat) := by omega
            have HSX : Keep (Sep w0 wr (rowV 42 7 (.slice (some ⟨g, 0, none⟩) n cap) n (X.S.flatMap lvc) :: lobA lb X :: boxA pb ((bs.set s.pl true).map Value.bool) 113 :: boxA cb cl 24 :: l)) := ⟨(hS.out.swap.tail).swap⟩
            clear hS
            go_wp2_with fail
            go_roundw
            case rel => exact ⟨i + 1, bs.set s.pl true, by have := HI.out; omega, rfl, HSX, HB1⟩
            case measure => simp [intOf]; have := HI.out; omega
      · obtain ⟨m, hm⟩ : ∃ m, i = m + 1 := ⟨i - 1, by omega⟩
        obtain ⟨z, hz⟩ : ∃ z, X.S[m]? = some z := ⟨_, List.getElem?_eq_getElem (by rw [HNS.out]; have := HI.out; omega)⟩
        have HM : Keep (IntKind.i64.wrap ((i : Int) - 1) = (m : Int) ∧ m < n ∧ X.S[m]? = some z) := ⟨by have := HLE.out; have := HI.out; rw [wi _ (by omega) (by omega)]; omega, by have := HI.out; omega, hz⟩
        have HZ : Keep (z.num < s.num) := ⟨(HQ.out.2.2 m z (by omega) hz).1⟩
        have HIM : Keep (¬ i = 0) := ⟨hi00⟩
        clear hm hz hi00
        refine wp_region_held_drew (S := fun w' => Sep w0 w' (boxA xb (lvc s) 42 :: rowV 42 7 (.slice (some ⟨g, 0, none⟩) n cap) n (X.S.flatMap lvc) :: lobA lb X :: boxA pb (bs.map Value.bool) 113 :: boxA cb cl 24 :: l)) (by kernel_rfl) HL4.out (fun hHeld => ?_)
        clear HL4
        generalize w4.drew = wA0 at hHeld ⊢
        refine wpAnyH_take (i := 0) (oi := _) (v := ?_) rfl (by kernel_rfl) (by kernel_rfl) (by kernel_rfl) (fun _ _ _ h => h) (Or.inl ⟨by rfl, ?_⟩) (by assumption) ?_
        rotate_left
        · (intro w hSw; go_simp; first | done | (with_reducible rfl))
        simp only [Act.put, List.getElem_toArray, List.getElem_cons_zero, List.setIfInBounds_toArray, List.set_cons_zero, List.set_cons_succ]
        refine wpAnyH_take (i := 1) (oi := _) (v := ?_) rfl (by kernel_rfl) (by kernel_rfl) (by kernel_rfl) (fun _ _ _ h => h) (Or.inl ⟨by rfl, ?_⟩) (by assumption) ?_
        rotate_left
        · (intro w hSw; have y1 : w.cell? ⟨xb, 1, none⟩ = some (iv (s.pl : Nat)) := (hSw.boxGet k0m).cellv 1 _ rfl; go_simp; first | done | (with_reducible rfl))
        simp only [Act.put, List.getElem_toArray, List.getElem_cons_succ, List.getElem_cons_zero, List.setIfInBounds_toArray, List.set_cons_zero, List.set_cons_succ]
        refine wpAnyH_take (i := 2) (oi := _) (v := .bool false) rfl (by kernel_rfl) (by kernel_rfl) (by kernel_rfl) (fun _ _ _ h => h) (Or.inl ⟨by rfl, ?_⟩) (by assumption) ?_
        · (intro w hSw; have f2 : ¬ ((s.pl : Nat) : Int) < 0 := (by omega); have f3 : decide (((s.pl : Nat) : Int) < 0) = false := decide_eq_false f2; go_simp; first | done | (simp; done) | trace_state)
        simp only [Act.put, List.getElem_toArray, List.getElem_cons_succ, List.getElem_cons_zero, List.setIfInBounds_toArray, List.set_cons_zero, List.set_cons_succ]
        refine wpAnyH_take (i := 3) (oi := _) (v := ?_) rfl (by kernel_rfl) (by kernel_rfl) (by kernel_rfl) (fun _ _ _ h => h) (Or.inl ⟨by rfl, ?_⟩) (by assumption) ?_
        rotate_left
        · (intro w hSw; go_simp; first | done | (with_reducible rfl))
        simp only [Act.put, List.getElem_toArray, List.getElem_cons_succ, List.getElem_cons_zero, List.setIfInBounds_toArray, List.set_cons_zero, List.set_cons_succ]
        refine wpAnyH_take (i := 4) (oi := _) (v := ?_) rfl (by kernel_rfl) (by kernel_rfl) (by kernel_rfl) (fun _ _ _ h => h) (Or.inl ⟨by rfl, ?_⟩) (by assumption) ?_
        rotate_left
        · (intro w hSw; go_simp; first | done | (with_reducible rfl))
        simp only [Act.put, List.getElem_toArray, List.getElem_cons_succ, List.getElem_cons_zero, List.setIfInBounds_toArray, List.set_cons_zero, List.set_cons_succ]
        refine wpAnyH_take (i := 5) (oi := _) (v := ?_) rfl (by kernel_rfl) (by kernel_rfl) (by kernel_rfl) (fun _ _ _ h => h) (Or.inl ⟨by rfl, ?_⟩) (by assumption) ?_
        rotate_left
        · (intro w hSw; have y1 : w.cell? ⟨xb, 1, none⟩ = some (iv (s.pl : Nat)) := (hSw.boxGet k0m).cellv 1 _ rfl; go_simp; first | done | (with_reducible rfl))
        simp only [Act.put, List.getElem_toArray, List.getElem_cons_succ, List.getElem_cons_zero, List.setIfInBounds_toArray, List.set_cons_zero, List.set_cons_succ]
        refine wpAnyH_take (i := 6) (oi := _) (v := ?_) rfl (by kernel_rfl) (by kernel_rfl) (by kernel_rfl) (fun _ _ _ h => h) (Or.inl ⟨by rfl, ?_⟩) (by assumption) ?_
        rotate_left
        · (intro w hSw; go_simp; first | done | (with_reducible rfl))
        simp only [Act.put, List.getElem_toArray, List.getElem_cons_succ, List.getElem_cons_zero, List.setIfInBounds_toArray, List.set_cons_zero, List.set_cons_succ]
        refine wpAnyH_take (i := 7) (oi := _) (v := ?_) rfl (by kernel_rfl) (by kernel_rfl) (by kernel_rfl) (fun _ _ _ h => h) (Or.inl ⟨by rfl, ?_⟩) (by assumption) ?_
        rotate_left
        · (intro w hSw; have c0 : w.cell? ⟨cb, 0, none⟩ = some (iv (X.most : Nat)) := (hSw.boxGet k4m).cellv 0 _ HC0.out; go_simp; first | done | (with_reducible rfl))
        simp only [Act.put, List.getElem_toArray, List.getElem_cons_succ, List.getElem_cons_zero, List.setIfInBounds_toArray, List.set_cons_zero, List.set_cons_succ]
        refine wpAnyH_take (i := 8) (oi := _) (v := .bool false) rfl (by kernel_rfl) (by kernel_rfl) (by kernel_rfl) (fun _ _ _ h => h) (Or.inl ⟨by rfl, ?_⟩) (by assumption) ?_
        · (intro w hSw; have f2 : ¬ ((X.most : Nat) : Int) ≤ ((s.pl : Nat) : Int) := (by have := HP.out; omega); have f3 : ¬ X.most ≤ s.pl := (by have := HP.out; omega); have f4 : decide (X.most ≤ s.pl) = false := decide_eq_false f3; go_simp; first | done | (simp; done) | trace_state)
        simp only [Act.put, List.getElem_toArray, List.getElem_cons_succ, List.getElem_cons_zero, List.setIfInBounds_toArray, List.set_cons_zero, List.set_cons_succ]
        refine wpAnyH_take (i := 9) (oi := _) (v := .bool false) rfl (by kernel_rfl) (by kernel_rfl) (by kernel_rfl) (fun _ _ _ h => h) (Or.inl ⟨by rfl, ?_⟩) (by assumption) ?_
        · (intro w hSw; go_simp; first | done | (simp; done) | trace_state)
        simp only [Act.put, List.getElem_toArray, List.getElem_cons_succ, List.getElem_cons_zero, List.setIfInBounds_toArray, List.set_cons_zero, List.set_cons_succ]
        refine wpAnyH_take (i := 10) (oi := _) (v := ?_) rfl (by kernel_rfl) (by kernel_rfl) (by kernel_rfl) (fun _ _ _ h => h) (Or.inl ⟨by rfl, ?_⟩) (by assumption) ?_
        rotate_left
        · (intro w hSw; go_simp; first | done | (with_reducible rfl))
        simp only [Act.put, List.getElem_toArray, List.getElem_cons_succ, List.getElem_cons_zero, List.setIfInBounds_toArray, List.set_cons_zero, List.set_cons_succ]
        refine wpAnyH_take (i := 11) (oi := _) (v := ?_) rfl (by kernel_rfl) (by kernel_rfl) (by kernel_rfl) (fun _ _ _ h => h) (Or.inl ⟨by rfl, ?_⟩) (by assumption) ?_
        rotate_left
        · (intro w hSw; go_simp; first | done | (with_reducible rfl))
        simp only [Act.put, List.getElem_toArray, List.getElem_cons_succ, List.getElem_cons_zero, List.setIfInBounds_toArray, List.set_cons_zero, List.set_cons_succ]
        refine wpAnyH_take (i := 12) (oi := _) (v := ?_) rfl (by kernel_rfl) (by kernel_rfl) (by kernel_rfl) (fun _ _ _ h => h) (Or.inl ⟨by rfl, ?_⟩) (by assumption) ?_
        rotate_left
        · (intro w hSw; have y1 : w.cell? ⟨xb, 1, none⟩ = some (iv (s.pl : Nat)) := (hSw.boxGet k0m).cellv 1 _ rfl; go_simp; first | done | (with_reducible rfl))
        simp only [Act.put, List.getElem_toArray, List.getElem_cons_succ, List.getElem_cons_zero, List.setIfInBounds_toArray, List.set_cons_zero, List.set_cons_succ]
        refine wpAnyH_take (i := 13) (oi := _) (v := ?_) rfl (by kernel_rfl) (by kernel_rfl) (by kernel_rfl) (fun _ _ _ h => h) (Or.inl ⟨by rfl, ?_⟩) (by assumption) ?_
        rotate_left
        · (intro w hSw; have l1 : (0 : Int) ≤ (s.pl : Int) := (by omega); have l2 : (s.pl : Int) < 32 := (by have := HP.out; omega); have l3 : ((s.pl : Nat) : Int).toNat = s.pl := (by omega); have l4 : s.pl < 32 := (by have := HP.out; omega); go_simp; first | done | (with_reducible rfl))
        simp only [Act.put, List.getElem_toArray, List.getElem_cons_succ, List.getElem_cons_zero, List.setIfInBounds_toArray, List.set_cons_zero, List.set_cons_succ]
        refine wpAnyH_take (i := 14) (oi := _) (v := .bool false) rfl (by kernel_rfl) (by kernel_rfl) (by kernel_rfl) (fun _ _ _ h => h) (Or.inl ⟨by rfl, ?_⟩) (by assumption) ?_
        · (intro w hSw; have c9 : w.cell? ⟨pb, s.pl, none⟩ = some (.bool false) := (hSw.boxGet k3m).cellv s.pl _ HB0.out; go_simp; first | done | (simp; done) | trace_state)
        simp only [Act.put, List.getElem_toArray, List.getElem_cons_succ, List.getElem_cons_zero, List.setIfInBounds_toArray, List.set_cons_zero, List.set_cons_succ]
        refine wpAnyH_take (i := 15) (oi := _) (v := .bool false) rfl (by kernel_rfl) (by kernel_rfl) (by kernel_rfl) (fun _ _ _ h => h) (Or.inl ⟨by rfl, ?_⟩) (by assumption) ?_
        · (intro w hSw; go_simp; first | done | (simp; done) | trace_state)
        simp only [Act.put, List.getElem_toArray, List.getElem_cons_succ, List.getElem_cons_zero, List.setIfInBounds_toArray, List.set_cons_zero, List.set_cons_succ]
        refine wpAnyH_take (i := 16) (oi := _) (v := ?_) rfl (by kernel_rfl) (by kernel_rfl) (by kernel_rfl) (fun _ _ _ h => h) (Or.inl ⟨by rfl, ?_⟩) (by assumption) ?_
        rotate_left
        · (intro w hSw; go_simp; first | done | (with_reducible rfl))
        simp only [Act.put, List.getElem_toArray, List.getElem_cons_succ, List.getElem_cons_zero, List.setIfInBounds_toArray, List.set_cons_zero, List.set_cons_succ]
        refine wpAnyH_take (i := 17) (oi := _) (v := ?_) rfl (by kernel_rfl) (by kernel_rfl) (by kernel_rfl) (fun _ _ _ h => h) (Or.inl ⟨by rfl, ?_⟩) (by assumption) ?_
        rotate_left
        · (intro w hSw; go_simp; first | done | (with_reducible rfl))
        simp only [Act.put, List.getElem_toArray, List.getElem_cons_succ, List.getElem_cons_zero, List.setIfInBounds_toArray, List.set_cons_zero, List.set_cons_succ]
        refine wpAnyH_take (i := 18) (oi := _) (v := ?_) rfl (by kernel_rfl) (by kernel_rfl) (by kernel_rfl) (fun _ _ _ h => h) (Or.inl ⟨by rfl, ?_⟩) (by assumption) ?_
        rotate_left
        · (intro w hSw; have y0 : w.cell? ⟨xb, 0, none⟩ = some (uv s.num) := (hSw.boxGet k0m).cellv 0 _ rfl; go_simp; first | done | (with_reducible rfl))
        simp only [Act.put, List.getElem_toArray, List.getElem_cons_succ, List.getElem_cons_zero, List.setIfInBounds_toArray, List.set_cons_zero, List.set_cons_succ]
        refine wpAnyH_take (i := 19) (oi := _) (v := .bool false) rfl (by kernel_rfl) (by kernel_rfl) (by kernel_rfl) (fun _ _ _ h => h) (Or.inl ⟨by rfl, ?_⟩) (by assumption) ?_
        · (intro w hSw; have f2 : ¬ ((s.num : Nat) : Int) < 1 := (by have := HP.out; omega); have f3 : ¬ s.num < 1 := (by have := HP.out; omega); have f4 : decide (s.num < 1) = false := decide_eq_false f3; have f5 : decide (s.num = 0) = false := decide_eq_false (by omega); go_simp; first | done | (simp; done) | trace_state)
        simp only [Act.put, List.getElem_toArray, List.getElem_cons_succ, List.getElem_cons_zero, List.setIfInBounds_toArray, List.set_cons_zero, List.set_cons_succ]
        refine wpAnyH_take (i := 20) (oi := _) (v := .bool false) rfl (by kernel_rfl) (by kernel_rfl) (by kernel_rfl) (fun _ _ _ h => h) (Or.inl ⟨by rfl, ?_⟩) (by assumption) ?_
        · (intro w hSw; go_simp; first | done | (simp; done) | trace_state)
        simp only [Act.put, List.getElem_toArray, List.getElem_cons_succ, List.getElem_cons_zero, List.setIfInBounds_toArray, List.set_cons_zero, List.set_cons_succ]
        refine wpAnyH_take (i := 21) (oi := _) (v := ?_) rfl (by kernel_rfl) (by kernel_rfl) (by kernel_rfl) (fun _ _ _ h => h) (Or.inl ⟨by rfl, ?_⟩) (by assumption) ?_
        rotate_left
        · (intro w hSw; go_simp; first | done | (with_reducible rfl))
        simp only [Act.put, List.getElem_toArray, List.getElem_cons_succ, List.getElem_cons_zero, List.setIfInBounds_toArray, List.set_cons_zero, List.set_cons_succ]
        refine wpAnyH_take (i := 22) (oi := _) (v := ?_) rfl (by kernel_rfl) (by kernel_rfl) (by kernel_rfl) (fun _ _ _ h => h) (Or.inl ⟨by rfl, ?_⟩) (by assumption) ?_
        rotate_left
        · (intro w hSw; go_simp; first | done | (with_reducible rfl))
        simp only [Act.put, List.getElem_toArray, List.getElem_cons_succ, List.getElem_cons_zero, List.setIfInBounds_toArray, List.set_cons_zero, List.set_cons_succ]
        refine wpAnyH_take (i := 23) (oi := _) (v := ?_) rfl (by kernel_rfl) (by kernel_rfl) (by kernel_rfl) (fun _ _ _ h => h) (Or.inl ⟨by rfl, ?_⟩) (by assumption) ?_
        rotate_left
        · (intro w hSw; have y0 : w.cell? ⟨xb, 0, none⟩ = some (uv s.num) := (hSw.boxGet k0m).cellv 0 _ rfl; go_simp; first | done | (with_reducible rfl))
        simp only [Act.put, List.getElem_toArray, List.getElem_cons_succ, List.getElem_cons_zero, List.setIfInBounds_toArray, List.set_cons_zero, List.set_cons_succ]
        refine wpAnyH_take (i := 24) (oi := _) (v := ?_) rfl (by kernel_rfl) (by kernel_rfl) (by kernel_rfl) (fun _ _ _ h => h) (Or.inl ⟨by rfl, ?_⟩) (by assumption) ?_
        rotate_left
        · (intro w hSw; go_simp; first | done | (with_reducible rfl))
        simp only [Act.put, List.getElem_toArray, List.getElem_cons_succ, List.getElem_cons_zero, List.setIfInBounds_toArray, List.set_cons_zero, List.set_cons_succ]
        refine wpAnyH_ready (rs := [25]) (by kernel_rfl) (by simp) ?_
        refine AllReadyH.cons rfl (fun K hK => ?_) AllReadyH.nil
        go_simp
        refine (HNX.out _ hHeld).mono ?_
        rintro e wA ⟨rfl, hwA⟩
        subst hwA
        refine hK.out _ _ hHeld (fun hHeld => ?_)
        clear hK K
        refine wpAnyH_take (i := 26) (oi := _) (v := .bool false) rfl (by kernel_rfl) (by kernel_rfl) (by kernel_rfl) (fun _ _ _ h => h) (Or.inl ⟨by rfl, ?_⟩) (by assumption) ?_
        · (intro w hSw; have f2 : ¬ ((X.next : Nat) : Int) ≤ ((s.num : Nat) : Int) := (by have := HP.out; omega); have f3 : ¬ X.next ≤ s.num := (by have := HP.out; omega); have f4 : decide (X.next ≤ s.num) = false := decide_eq_false f3; go_simp; first | done | (simp; done) | trace_state)
        simp only [Act.put, List.getElem_toArray, List.getElem_cons_succ, List.getElem_cons_zero, List.setIfInBounds_toArray, List.set_cons_zero, List.set_cons_succ]
        refine wpAnyH_take (i := 27) (oi := _) (v := .bool false) rfl (by kernel_rfl) (by kernel_rfl) (by kernel_rfl) (fun _ _ _ h => h) (Or.inl ⟨by rfl, ?_⟩) (by assumption) ?_
        · (intro w hSw; go_simp; first | done | (simp; done) | trace_state)
        simp only [Act.put, List.getElem_toArray, List.getElem_cons_succ, List.getElem_cons_zero, List.setIfInBounds_toArray, List.set_cons_zero, List.set_cons_succ]
        refine wpAnyH_take (i := 28) (oi := _) (v := ?_) rfl (by kernel_rfl) (by kernel_rfl) (by kernel_rfl) (fun _ _ _ h => h) (Or.inl ⟨by rfl, ?_⟩) (by assumption) ?_
        rotate_left
        · (intro w hSw; go_simp; first | done | (with_reducible rfl))
        simp only [Act.put, List.getElem_toArray, List.getElem_cons_succ, List.getElem_cons_zero, List.setIfInBounds_toArray, List.set_cons_zero, List.set_cons_succ]
        refine wpAnyH_take (i := 29) (oi := _) (v := ?_) rfl (by kernel_rfl) (by kernel_rfl) (by kernel_rfl) (fun _ _ _ h => h) (Or.inl ⟨by rfl, ?_⟩) (by assumption) ?_
        rotate_left
        · (intro w hSw; go_simp; first | done | (with_reducible rfl))
        simp only [Act.put, List.getElem_toArray, List.getElem_cons_succ, List.getElem_cons_zero, List.setIfInBounds_toArray, List.set_cons_zero, List.set_cons_succ]
        refine wpAnyH_take (i := 30) (oi := _) (v := .bool true) rfl (by kernel_rfl) (by kernel_rfl) (by kernel_rfl) (fun _ _ _ h => h) (Or.inl ⟨by rfl, ?_⟩) (by assumption) ?_
        · (intro w hSw; have f2 : (0 : Int) < (i : Int) := (by have := HIM.out; omega); have f3 : decide (0 < i) = true := decide_eq_true (by have := HIM.out; omega); have f4 : decide ((0 : Int) < (i : Int)) = true := decide_eq_true f2; go_simp; first | done | (simp; done) | trace_state)
        simp only [Act.put, List.getElem_toArray, List.getElem_cons_succ, List.getElem_cons_zero, List.setIfInBounds_toArray, List.set_cons_zero, List.set_cons_succ]
        refine wpAnyH_take (i := 31) (oi := _) (v := ?_) rfl (by kernel_rfl) (by kernel_rfl) (by kernel_rfl) (fun _ _ _ h => h) (Or.inl ⟨by rfl, ?_⟩) (by assumption) ?_
        rotate_left
        · (intro w hSw; go_simp; first | done | (with_reducible rfl))
        simp only [Act.put, List.getElem_toArray, List.getElem_cons_succ, List.getElem_cons_zero, List.setIfInBounds_toArray, List.set_cons_zero, List.set_cons_succ]
        refine wpAnyH_take (i := 32) (oi := _) (v := ?_) rfl (by kernel_rfl) (by kernel_rfl) (by kernel_rfl) (fun _ _ _ h => h) (Or.inl ⟨by rfl, ?_⟩) (by assumption) ?_
        rotate_left
        · (intro w hSw; go_simp; first | done | (with_reducible rfl))
        simp only [Act.put, List.getElem_toArray, List.getElem_cons_succ, List.getElem_cons_zero, List.setIfInBounds_toArray, List.set_cons_zero, List.set_cons_succ]
        refine wpAnyH_take (i := 33) (oi := _) (v := ?_) rfl (by kernel_rfl) (by kernel_rfl) (by kernel_rfl) (fun _ _ _ h => h) (Or.inl ⟨by rfl, ?_⟩) (by assumption) ?_
        rotate_left
        · (intro w hSw; go_simp; first | done | (with_reducible rfl))
        simp only [Act.put, List.getElem_toArray, List.getElem_cons_succ, List.getElem_cons_zero, List.setIfInBounds_toArray, List.set_cons_zero, List.set_cons_succ]
        refine wpAnyH_take (i := 34) (oi := _) (v := ?_) rfl (by kernel_rfl) (by kernel_rfl) (by kernel_rfl) (fun _ _ _ h => h) (Or.inl ⟨by rfl, ?_⟩) (by assumption) ?_
        rotate_left
        · (intro w hSw; have f2 := HM.out.1; go_simp; first | done | (with_reducible rfl))
        simp only [Act.put, List.getElem_toArray, List.getElem_cons_succ, List.getElem_cons_zero, List.setIfInBounds_toArray, List.set_cons_zero, List.set_cons_succ]
        refine wpAnyH_take (i := 35) (oi := _) (v := ?_) rfl (by kernel_rfl) (by kernel_rfl) (by kernel_rfl) (fun _ _ _ h => h) (Or.inl ⟨by rfl, ?_⟩) (by assumption) ?_
        rotate_left
        · (intro w hSw; have l1 : (0 : Int) ≤ (m : Int) := (by omega); have l2 : (m : Int) < (n : Nat) := (by have := HM.out.2.1; omega); have l3 : ((m : Nat) : Int).toNat = m := (by omega); have l4 : m < n := (by have := HM.out.2.1; omega); go_simp; first | done | (with_reducible rfl))
        simp only [Act.put, List.getElem_toArray, List.getElem_cons_succ, List.getElem_cons_zero, List.setIfInBounds_toArray, List.set_cons_zero, List.set_cons_succ]
        refine wpAnyH_take (i := 36) (oi := _) (v := ?_) rfl (by kernel_rfl) (by kernel_rfl) (by kernel_rfl) (fun _ _ _ h => h) (Or.inl ⟨by rfl, ?_⟩) (by assumption) ?_
        rotate_left
        · (intro w hSw; go_simp; first | done | (with_reducible rfl))
        simp only [Act.put, List.getElem_toArray, List.getElem_cons_succ, List.getElem_cons_zero, List.setIfInBounds_toArray, List.set_cons_zero, List.set_cons_succ]
        refine wpAnyH_take (i := 37) (oi := _) (v := ?_) rfl (by kernel_rfl) (by kernel_rfl) (by kernel_rfl) (fun _ _ _ h => h) (Or.inl ⟨by rfl, ?_⟩) (by assumption) ?_
        rotate_left
        · (intro w hSw; obtain ⟨q0, q1, q2, q3, q4, q5, q6⟩ := (lvr_n HNS.out (hSw.rowGet k1m)).cells HNS.out HM.out.2.2; go_simp; first | done | (with_reducible rfl))
        simp only [Act.put, List.getElem_toArray, List.getElem_cons_succ, List.getElem_cons_zero, List.setIfInBounds_toArray, List.set_cons_zero, List.set_cons_succ]
        refine wpAnyH_take (i := 38) (oi := _) (v := ?_) rfl (by kernel_rfl) (by kernel_rfl) (by kernel_rfl) (fun _ _ _ h => h) (Or.inl ⟨by rfl, ?_⟩) (by assumption) ?_
        rotate_left
        · (intro w hSw; go_simp; first | done | (with_reducible rfl))
        simp only [Act.put, List.getElem_toArray, List.getElem_cons_succ, List.getElem_cons_zero, List.setIfInBounds_toArray, List.set_cons_zero, List.set_cons_succ]
        refine wpAnyH_take (i := 39) (oi := _) (v := ?_) rfl (by kernel_rfl) (by kernel_rfl) (by kernel_rfl) (fun _ _ _ h => h) (Or.inl ⟨by rfl, ?_⟩) (by assumption) ?_
        rotate_left
        · (intro w hSw; have y0 : w.cell? ⟨xb, 0, none⟩ = some (uv s.num) := (hSw.boxGet k0m).cellv 0 _ rfl; go_simp; first | done | (with_reducible rfl))
        simp only [Act.put, List.getElem_toArray, List.getElem_cons_succ, List.getElem_cons_zero, List.setIfInBounds_toArray, List.set_cons_zero, List.set_cons_succ]
        refine wpAnyH_take (i := 40) (oi := _) (v := .bool false) rfl (by kernel_rfl) (by kernel_rfl) (by kernel_rfl) (fun _ _ _ h => h) (Or.inl ⟨by rfl, ?_⟩) (by assumption) ?_
        · (intro w hSw; have f2 : ¬ ((s.num : Nat) : Int) ≤ ((z.num : Nat) : Int) := (by have := HZ.out; omega); have f3 : ¬ s.num ≤ z.num := (by have := HZ.out; omega); have f4 : decide (s.num ≤ z.num) = false := decide_eq_false f3; go_simp; first | done | (simp; done) | trace_state)
        simp only [Act.put, List.getElem_toArray, List.getElem_cons_succ, List.getElem_cons_zero, List.setIfInBounds_toArray, List.set_cons_zero, List.set_cons_succ]
        refine wpAnyH_take (i := 41) (oi := _) (v := .bool false) rfl (by kernel_rfl) (by kernel_rfl) (by kernel_rfl) (fun _ _ _ h => h) (Or.inl ⟨by rfl, ?_⟩) (by assumption) ?_
        · (intro w hSw; go_simp; first | done | (simp; done) | trace_state)
        simp only [Act.put, List.getElem_toArray, List.getElem_cons_succ, List.getElem_cons_zero, List.setIfInBounds_toArray, List.set_cons_zero, List.set_cons_succ]
        refine wpAnyH_take (i := 42) (oi := _) (v := .bool false) rfl (by kernel_rfl) (by kernel_rfl) (by kernel_rfl) (fun _ _ _ h => h) (Or.inl ⟨by rfl, ?_⟩) (by assumption) ?_
        · (intro w hSw; go_simp; first | done | (simp; done) | trace_state)
        simp only [Act.put, List.getElem_toArray, List.getElem_cons_succ, List.getElem_cons_zero, List.setIfInBounds_toArray, List.set_cons_zero, List.set_cons_succ]
        refine wpAnyH_done (by kernel_rfl) ?_ _
        clear HNX
        have y1 : wA.cell? ⟨xb, 1, none⟩ = some (iv (s.pl : Nat)) := (hHeld.boxGet k0m).cellv 1 _ rfl
        have c9 : wA.cell? ⟨pb, s.pl, none⟩ = some (.bool false) := (hHeld.boxGet k3m).cellv s.pl _ HB0.out
        have f9 : wA.frozen? ⟨pb, s.pl, none⟩ = false := (hHeld.boxGet k3m).frozen s.pl
        have l1 : (0 : Int) ≤ (s.pl : Int) := by omega
        have l2 : (s.pl : Int) < 32 := by have := HP.out; omega
        have l3 : ((s.pl : Nat) : Int).toNat = s.pl := by omega
        have S5 := (fr1 [_, _, _] hHeld).boxPut s.pl (.bool true)
        obtain ⟨w5, hw5⟩ : ∃ w5, wA.setCell ⟨pb, s.pl, none⟩ (.bool true) = w5 := ⟨_, rfl⟩
        have S6 : Sep w0 w5 (boxA xb (lvc s) 42 :: rowV 42 7 (.slice (some ⟨g, 0, none⟩) n cap) n (X.S.flatMap lvc) :: lobA lb X :: boxA pb ((bs.set s.pl true).map Value.bool) 113 :: boxA cb cl 24 :: l) := by
          rw [hw5, ← List.map_set] at S5
          exact bk1 [_, _, _] S5
        have y2 : w5.cell? ⟨xb, 2, none⟩ = some (.string s.nm) := (S6.boxGet k0m).cellv 2 _ rfl
        have hSc := secret_c w0 w5 _ lb X s.nm (fr1 [_, _] S6) HOK.out.1 (HOK.out.2.2.2.kept S6.g) HSZ.out.1
        rw [HQ.out.1] at hSc
        clear S5 S6 hHeld HB0
        go_wp2_with fail
        refine hSc.mono ?_
        rintro e w6 ⟨rfl, S6⟩
        have y0 : w6.cell? ⟨xb, 0, none⟩ = some (uv s.num) := (S6.boxGet k1m).cellv 0 _ rfl
        have y3 : w6.cell? ⟨xb, 3, none⟩ = some (.string s.fr) := (S6.boxGet k1m).cellv 3 _ rfl
        have hF := fnd_c w0 w6 _ lb X s.num s.fr S6 HOK.out.1 HSZ.out.2
        rw [HQ.out.2.1] at hF
        clear hSc S6 y1 y2 c9 f9 l1 l2 l3 hw5
        go_wp2_with fail
        refine hF.mono ?_
        rintro e w7 ⟨rfl, S7⟩
        have HS7 := Keep.mk S7
        clear hF S7 y0 y3
        go_wp2_with (first
          | (show wpList _ _ _ ({ dst := _, op := Op.store 42 _ _, type := _, pos := _, after := _, guard := _ } :: _) _ _
             refine store_new _ (lvc s) 42 rfl rfl rfl rfl rfl (by exact info42) (lvc_one _) ?_))
        intro w8 hS8 g8
        have S8 := hS8 w0 _ HS7.out
        generalize w7.heap.size = fb at S8 ⊢
        have HS8 : Keep (Sep w0 w8 (lobA lb X :: boxA xb (lvc s) 42 :: rowV 42 7 (.slice (some ⟨g, 0, none⟩) n cap) n (X.S.flatMap lvc) :: boxA pb ((bs.set s.pl true).map Value.bool) 113 :: boxA cb cl 24 :: l)) := ⟨S8.tail⟩
        clear hS8 g8 HS7 S8
        go_wp2_with fail
        go_loopw [13] (fun u wr => ∃ k : Nat, k ≤ i ∧ u = iv k ∧ Keep (Sep w0 wr (lobA lb X :: boxA xb (lvc s) 42 :: rowV 42 7 (.slice (some ⟨g, 0, none⟩) n cap) n (X.S.flatMap lvc) :: boxA pb ((bs.set s.pl true).map Value.bool) 113 :: boxA cb cl 24 :: l))) (fun u _ => (i - intOf u).toNat)
        case atStart => exact ⟨0, by omega, rfl, HS8⟩
        case round =>
          clear HS8
          obtain ⟨k, hki, rfl, hS⟩ := hrel
          by_cases hk : k < i
          · obtain ⟨z2, hz⟩ : ∃ z2, X.S[k]? = some z2 := ⟨_, List.getElem?_eq_getElem (by rw [HNS.out]; have := HI.out; omega)⟩
            have hs0 := (HQ.out.2.2 k z2 hk hz).2
            have HKI : Keep (k < n) := ⟨by have := HI.out; omega⟩
            have hk1 : (k : Int) < (i : Nat) := by omega
            have hwk : IntKind.i64.wrap ((k : Int) + 1) = ((k + 1 : Nat) : Int) := by have := HLE.out; have := HI.out; rw [wi _ (by omega) (by omega)]; omega
            have HSM : Keep (∀ W', Sep w0 W' (lobA lb X :: boxA xb (lvc s) 42 :: rowV 42 7 (.slice (some ⟨g, 0, none⟩) n cap) n (X.S.flatMap lvc) :: boxA pb ((bs.set s.pl true).map Value.bool) 113 :: boxA cb cl 24 :: l) → Calls Tryd.prog 54 #[.string z2.nm, .string s.nm] W' fun e W'' => e = .returned (.bool false) ∧ Sep w0 W'' (lobA lb X :: boxA xb (lvc s) 42 :: rowV 42 7 (.slice (some ⟨g, 0, none⟩) n cap) n (X.S.flatMap lvc) :: boxA pb ((bs.set s.pl true).map Value.bool) 113 :: boxA cb cl 24 :: l)) := ⟨fun W' q => by
              have c := Na.same_c z2.nm s.nm W' (HOK.out.2.2.2.kept q.g)
              rw [hs0] at c
              exact c.mono fun e W'' ⟨he, hg⟩ => ⟨he, q.grown hg⟩⟩
            have HL4 := Keep.mk (hS.out.grown (gr_drew wr none))
            clear hS hs0
            go_wp2_with fail
            refine wp_region_held_drew (S := fun w' => Sep w0 w' (lobA lb X :: boxA xb (lvc s) 42 :: rowV 42 7 (.slice (some ⟨g, 0, none⟩) n cap) n (X.S.flatMap lvc) :: boxA pb ((bs.set s.pl true).map Value.bool) 113 :: boxA cb cl 24 :: l)) (by kernel_rfl) HL4.out (fun hHeld => ?_)
            clear HL4
            generalize wr.drew = wB0 at hHeld ⊢
            refine wpAnyH_take (i := 0) (oi := _) (v := ?_) rfl (by kernel_rfl) (by kernel_rfl) (by kernel_rfl) (fun _ _ _ h => h) (Or.inl ⟨by rfl, ?_⟩) (by assumption) ?_
            rotate_left
            · (intro w hSw; go_simp; first | done | (with_reducible rfl))
            simp only [Act.put, List.getElem_toArray, List.getElem_cons_zero, List.setIfInBounds_toArray, List.set_cons_zero, List.set_cons_succ]
            refine wpAnyH_take (i := 1) (oi := _) (v := ?_) rfl (by kernel_rfl) (by kernel_rfl) (by kernel_rfl) (fun _ _ _ h => h) (Or.inl ⟨by rfl, ?_⟩) (by assumption) ?_
            rotate_left
            · (intro w hSw; go_simp; first | done | (with_reducible rfl))
            simp only [Act.put, List.getElem_toArray, List.getElem_cons_succ, List.getElem_cons_zero, List.setIfInBounds_toArray, List.set_cons_zero, List.set_cons_succ]
            refine wpAnyH_take (i := 2) (oi := _) (v := ?_) rfl (by kernel_rfl) (by kernel_rfl) (by kernel_rfl) (fun _ _ _ h => h) (Or.inl ⟨by rfl, ?_⟩) (by assumption) ?_
            rotate_left
            · (intro w hSw; have l1 : (0 : Int) ≤ (k : Int) := (by omega); have l2 : (k : Int) < (n : Nat) := (by have := HKI.out; omega); have l3 : ((k : Nat) : Int).toNat = k := (by omega); have l4 : k < n := (by have := HKI.out; omega); go_simp; first | done | (with_reducible rfl))
            simp only [Act.put, List.getElem_toArray, List.getElem_cons_succ, List.getElem_cons_zero, List.setIfInBounds_toArray, List.set_cons_zero, List.set_cons_succ]
            refine wpAnyH_take (i := 3) (oi := _) (v := ?_) rfl (by kernel_rfl) (by kernel_rfl) (by kernel_rfl) (fun _ _ _ h => h) (Or.inl ⟨by rfl, ?_⟩) (by assumption) ?_
            rotate_left
            · (intro w hSw; go_simp; first | done | (with_reducible rfl))
            simp only [Act.put, List.getElem_toArray, List.getElem_cons_succ, List.getElem_cons_zero, List.setIfInBounds_toArray, List.set_cons_zero, List.set_cons_succ]
            refine wpAnyH_take (i := 4) (oi := _) (v := ?_) rfl (by kernel_rfl) (by kernel_rfl) (by kernel_rfl) (fun _ _ _ h => h) (Or.inl ⟨by rfl, ?_⟩) (by assumption) ?_
            rotate_left
            · (intro w hSw; obtain ⟨q0, q1, q2, q3, q4, q5, q6⟩ := (lvr_n HNS.out (hSw.rowGet k2m)).cells HNS.out hz; go_simp; first | done | (with_reducible rfl))
            simp only [Act.put, List.getElem_toArray, List.getElem_cons_succ, List.getElem_cons_zero, List.setIfInBounds_toArray, List.set_cons_zero, List.set_cons_succ]
            refine wpAnyH_take (i := 5) (oi := _) (v := ?_) rfl (by kernel_rfl) (by kernel_rfl) (by kernel_rfl) (fun _ _ _ h => h) (Or.inl ⟨by rfl, ?_⟩) (by assumption) ?_
            rotate_left
            · (intro w hSw; go_simp; first | done | (with_reducible rfl))
            simp only [Act.put, List.getElem_toArray, List.getElem_cons_succ, List.getElem_cons_zero, List.setIfInBounds_toArray, List.set_cons_zero, List.set_cons_succ]
            refine wpAnyH_take (i := 6) (oi := _) (v := ?_) rfl (by kernel_rfl) (by kernel_rfl) (by kernel_rfl) (fun _ _ _ h => h) (Or.inl ⟨by rfl, ?_⟩) (by assumption) ?_
            rotate_left
            · (intro w hSw; have y2 : w.cell? ⟨xb, 2, none⟩ = some (.string s.nm) := (hSw.boxGet k1m).cellv 2 _ rfl; go_simp; first | done | (with_reducible rfl))
            simp only [Act.put, List.getElem_toArray, List.getElem_cons_succ, List.getElem_cons_zero, List.setIfInBounds_toArray, List.set_cons_zero, List.set_cons_succ]
            refine wpAnyH_ready (rs := [7]) (by kernel_rfl) (by simp) ?_
            refine AllReadyH.cons rfl (fun K hK => ?_) AllReadyH.nil
            go_simp
            refine (HSM.out _ hHeld).mono ?_
            rintro e wA ⟨rfl, SA⟩
            refine hK.out _ _ SA (fun hHeld => ?_)
            clear hK K
            refine wpAnyH_done (by kernel_rfl) ?_ _
            have HSX := Keep.mk hHeld
            clear hHeld HSM
            go_wp2_with fail
            go_roundw
            case rel => exact ⟨k + 1, by omega, rfl, HSX⟩
            case measure => simp [intOf]; omega
          · have hk1 : ¬ (k : Int) < (i : Nat) := by omega
            have HSX : Keep (Sep w0 wr (rowV 42 7 (.slice (some ⟨g, 0, none⟩) n cap) n (X.S.flatMap lvc) :: lobA lb X :: boxA pb ((bs.set s.pl true).map Value.bool) 113 :: boxA cb cl 24 :: l)) := ⟨(hS.out.swap.tail).swap⟩
            clear hS
            go_wp2_with fail
            go_roundw
            case rel => exact ⟨i + 1, bs.set s.pl true, by have := HI.out; omega, rfl, HSX, HB1⟩
            case measure => simp [intOf]; have := HI.out; omega
    · have hi1 : ¬ (i : Int) < (n : Nat) := by omega
      have HF : Keep (Sep w0 wo (lobA lb X :: l)) := ⟨by
        have q := hS.out.tail
        exact Sep.dropM [lobA lb X] [boxA pb (bs.map Value.bool) 113, boxA cb cl 24] q⟩
      clear hS
      go_wp2_with fail
      go_ret
      exact ⟨rfl, HF.out⟩
end Go.Proofs.YtplcicbpkbamnaaDoor.Lo

