/- grid: about. -/
import Derived.Test.YtgedlabmndlooaaGreatH2
import Derived.Deep.DeepCutAuto
namespace Go.Proofs.YtgedlabmndlooaaGreat
open Go Go.RowKit

/-- things that are among all, each once, and among them all that are near -/
structure Abt (A : List Tg) (x y r : Int) (T : List Tg) : Prop where
  sub : ∀ t ∈ T, t ∈ A
  nd : T.Pairwise (fun a b => a.b ≠ b.b)
  cov : ∀ t ∈ A, wn (d2 x y t.x t.y) r = true → t ∈ T
abbrev tRow (p : Value × List Tg) : As := rowV 119 1 p.1 p.2.length (p.2.map (fun t => pt t.b))
structure AbR (w0 W : World) (A : List Tg) (x y r : Int) (G : List As) (v : Value) : Prop where
  o : ∃ LL : List (Value × List Tg), Abt A x y r (LL.flatMap (·.2)) ∧ (∀ p ∈ LL, tRow p ∈ G) ∧ LL.length ≤ A.length + 1 ∧ Sep w0 W (rowV 101 1 v LL.length (LL.map (·.1)) :: G)
set_option maxRecDepth 100000 in
theorem things_of {A : List Tg} {P : Tg → Prop} : ∀ L : List Nat, (∀ b ∈ L, ∃ t ∈ A, t.b = b ∧ P t) → ∃ T : List Tg, T.map (fun t => t.b) = L ∧ ∀ t ∈ T, t ∈ A ∧ P t
  | [], _ => ⟨[], rfl, nofun⟩
  | b :: L, h => by
    obtain ⟨t, ht, hb, hP⟩ := h b (List.mem_cons_self ..)
    obtain ⟨T, h1, h2⟩ := things_of L (fun c hc => h c (List.mem_cons_of_mem _ hc))
    refine ⟨t :: T, by rw [List.map_cons, h1, hb], fun u hu => ?_⟩
    rcases List.mem_cons.1 hu with rfl | hu
    · exact ⟨ht, hP⟩
    · exact h2 u hu
/-- the lists of cells, with their things -/
theorem lists_of {sd : Int} {A : List Tg} {C : List Cl} (j : Jok sd A C none) : ∀ F : List Cl, (∀ c ∈ F, c ∈ C) → ∃ LL : List (Value × List Tg), LL.map (·.1) = F.map clV ∧ LL.length = F.length ∧ (∀ (gb : Nat) (va : Value) (mi mc : Nat) (l : List As), ∀ p ∈ LL, tRow p ∈ gOpen gb sd va mi mc A C l) ∧ (∀ p ∈ LL, ∃ c ∈ F, p.2.map (fun t => t.b) = c.L ∧ ∀ t ∈ p.2, t ∈ A ∧ cel sd t = c.k) ∧ (F.Pairwise (fun a b => a.k ≠ b.k) → (LL.flatMap (·.2)).Pairwise (fun a b => a.b ≠ b.b)) ∧ ∀ c ∈ F, ∃ p ∈ LL, p.2.map (fun t => t.b) = c.L
  | [], _ => ⟨[], rfl, rfl, fun _ _ _ _ _ => nofun, nofun, fun _ => List.Pairwise.nil, nofun⟩
  | c :: F, h => by
    obtain ⟨LL, h1, hln, h2, h3, h4, h5⟩ := lists_of j F (fun d hd => h d (List.mem_cons_of_mem _ hd))
    have hc := h c (List.mem_cons_self ..)
    obtain ⟨T, t1, t2⟩ := things_of (A := A) (P := fun t => cel sd t = c.k) c.L (fun b hb => by
      obtain ⟨i, hi, e⟩ := List.mem_iff_getElem.1 hb
      obtain ⟨t, ht, q1, _, q3, _⟩ := j.fro c hc i b (by rw [List.getElem?_eq_getElem hi, e])
      exact ⟨t, ht, q1, q3⟩)
    have tl : T.length = c.L.length := by rw [← t1, List.length_map]
    have tp : T.map (fun t => pt t.b) = c.L.map pt := by rw [← t1, List.map_map]; rfl
    refine ⟨(clV c, T) :: LL, by rw [List.map_cons, List.map_cons, h1], by rw [List.length_cons, List.length_cons, hln], fun gb va mi mc l p hp => ?_, fun p hp => ?_, fun hk => ?_, fun d hd => ?_⟩
    · rcases List.mem_cons.1 hp with rfl | hp
      · have e : tRow (clV c, T) = clA c := by
          show rowV 119 1 (clV c) T.length (T.map (fun t => pt t.b)) = _
          rw [tl, tp]; rfl
        rw [e]
        exact m_cl hc
      · exact h2 gb va mi mc l p hp
    · rcases List.mem_cons.1 hp with rfl | hp
      · exact ⟨c, List.mem_cons_self .., t1, t2⟩
      · obtain ⟨d, hd, q⟩ := h3 p hp
        exact ⟨d, List.mem_cons_of_mem _ hd, q⟩
    · obtain ⟨k1, k2⟩ := List.pairwise_cons.1 hk
      rw [List.flatMap_cons]
      refine List.pairwise_append.2 ⟨?_, h4 k2, fun a ha b hb e => ?_⟩
      · have hnd : (T.map (fun t => t.b)).Pairwise (· ≠ ·) := by
          rw [t1, List.pairwise_iff_getElem]
          intro i k hi hk2 hik e
          have := j.inj hc (List.getElem?_eq_getElem hi) (by rw [e]; exact List.getElem?_eq_getElem hk2)
          omega
        exact List.pairwise_map.1 hnd
      · obtain ⟨p, hp, hbp⟩ := List.mem_flatMap.1 hb
        obtain ⟨d, hd, _, q2⟩ := h3 p hp
        have ea := j.uniq (t2 a ha).1 (q2 b hbp).1 e
        exact k1 d hd (by rw [← (t2 a ha).2, ← (q2 b hbp).2, ea])
    · rcases List.mem_cons.1 hd with rfl | hd
      · exact ⟨_, List.mem_cons_self .., t1⟩
      · obtain ⟨p, hp, q⟩ := h5 d hd
        exact ⟨p, List.mem_cons_of_mem _ hp, q⟩
set_option maxRecDepth 100000 in
theorem abt_block {sd : Int} {A : List Tg} {C F : List Cl} {x y r : Int} (hs : 1 ≤ sd ∧ sd ≤ 1099511627776) (j : Jok sd A C none) (rg : ∀ t ∈ A, I64 t.id ∧ I64 t.x ∧ I64 t.y) (hr : 0 ≤ r ∧ r < 2147483647) (hF : Fnd C (rF sd x r) (rF sd y r) (rC sd y r) (rC sd x r) 0 F) :
    ∃ LL : List (Value × List Tg), LL.map (·.1) = F.map clV ∧ LL.length = F.length ∧ (∀ (gb : Nat) (va : Value) (mi mc : Nat) (l : List As), ∀ p ∈ LL, tRow p ∈ gOpen gb sd va mi mc A C l) ∧ Abt A x y r (LL.flatMap (·.2)) := by
  obtain ⟨LL, h1, hln, h2, h3, h4, h5⟩ := lists_of j F hF.sub
  refine ⟨LL, h1, hln, h2, fun t ht => ?_, h4 hF.kd, fun t ht hw => ?_⟩
  · obtain ⟨p, hp, htp⟩ := List.mem_flatMap.1 ht
    obtain ⟨c, _, _, q⟩ := h3 p hp
    exact (q t htp).1
  · obtain ⟨_, ax, ay⟩ := wn_axes x y t.x t.y r hr.2 hw
    have bx := row_has sd x r t.x hs.1 (rg t ht).2.1 ax
    have byy := row_has sd y r t.y hs.1 (rg t ht).2.2 ay
    obtain ⟨c, hc, hk, hl⟩ := j.to t ht nofun
    have hcF := hF.all c hc (by
      rw [hk]
      unfold Vis cel
      simp only
      omega)
    obtain ⟨p, hp, q⟩ := h5 c hcF
    have hb : t.b ∈ p.2.map (fun t => t.b) := by
      rw [q]
      exact List.mem_of_getElem? hl
    obtain ⟨u, hu, e⟩ := List.mem_map.1 hb
    obtain ⟨d, _, _, q2⟩ := h3 p hp
    have eu := j.uniq (q2 u hu).1 ht e
    rw [← eu]
    exact List.mem_flatMap.2 ⟨p, hp, hu⟩

set_option maxRecDepth 100000 in
theorem all_row {w0 W : World} {l : List As} {gb : Nat} {sd : Int} {a : Option Addr} {c : Nat} {mi mc : Nat} {A : List Tg} {C : List Cl} {M : List Pl} (g : Gok sd A C M) (x y r : Int) (S : Sep w0 W (gOpen gb sd (.slice a A.length c) mi mc A C l)) :
    AbR w0 (W.alloc (.cells #[.slice a A.length c] 101)) A x y r (gOpen gb sd (.slice a A.length c) mi mc A C l) (sl W.heap.size 1 1) := by
  refine ⟨[(.slice a A.length c, A)], ⟨?_, ?_, ?_⟩, ?_, Nat.le_add_left 1 _, ?_⟩
  · intro t ht
    simpa using ht
  · simpa using g.j.bd
  · intro t ht _
    simpa using ht
  · intro p hp
    rw [List.mem_singleton] at hp
    subst hp
    exact m_all
  · refine S.new (World.grownBy_alloc _ _ _) (Loc.one (a := rowV _ _ _ _ _) (fun i => some W.heap.size = some i) ⟨⟨rfl, .inr ⟨W.heap.size, 1, #[.slice a A.length c], rfl, Nat.zero_le _, heap_alloc_last W _, by decide, by decide, rfl, rfl⟩⟩, rfl⟩ (fun i hi => .inr (by cases hi; exact Nat.le_refl _)))

set_option maxRecDepth 100000 in
set_option maxHeartbeats 16000000 in
theorem about_neg (w0 W : World) (l : List As) (gb : Nat) (sd : Int) (va : Value) (mi mc : Nat) (A : List Tg) (C : List Cl) (x y r : Int) (hr : r < 0) (h : Sep w0 W (gOpen gb sd va mi mc A C l)) :
    Calls Tryz.prog 107 #[pt gb, vv x y, iv r] W fun e W' => ∃ v, e = .returned v ∧ AbR w0 W' A x y r (gOpen gb sd va mi mc A C l) v := by
  have S1 := h.newBox #[iv x, iv y] 24
  have HE : Keep (Sep w0 (W.alloc (.cells #[iv x, iv y] 24)) (rowV 101 1 (.slice none 0 0) 0 [] :: gOpen gb sd va mi mc A C l)) := ⟨S1.tail.nilV 101 1⟩
  have HA : Keep (Abt A x y r []) := ⟨nofun, List.Pairwise.nil, fun t _ hw => by rw [wn_neg _ _ hr] at hw; cases hw⟩
  clear h S1
  go_enter Tryz.func107, Tryz.ntmps107
  go_wp2_with fail
  go_ret
  exact ⟨_, rfl, ⟨[], HA.out, nofun, Nat.zero_le _, HE.out⟩⟩

set_option maxRecDepth 100000 in
set_option maxHeartbeats 16000000 in
theorem about_far (w0 W : World) (l : List As) (gb : Nat) (sd : Int) (M : List Pl) (va : Value) (mi mc : Nat) (A : List Tg) (C : List Cl) (g : Gok sd A C M) (x y r : Int) (hr : 2147483647 ≤ r) (h : Sep w0 W (gOpen gb sd va mi mc A C l)) :
    Calls Tryz.prog 107 #[pt gb, vv x y, iv r] W fun e W' => ∃ v, e = .returned v ∧ AbR w0 W' A x y r (gOpen gb sd va mi mc A C l) v := by
  have HG := Keep.mk g
  obtain ⟨a8, k8, e8⟩ := own_slice (h.rowGet m_all)
  subst e8
  have S1 := h.newBox #[iv x, iv y] 24
  obtain ⟨W1, hW1⟩ : ∃ W1, W.alloc (.cells #[iv x, iv y] 24) = W1 := ⟨_, rfl⟩
  rw [hW1] at S1
  have HS := Keep.mk S1
  have n1 : ¬ r < 0 := by omega
  have n2 : ¬ r < 2147483647 := by omega
  clear h S1 g hr
  go_enter Tryz.func107, Tryz.ntmps107
  have c8 := (HS.out.boxGet k1m).cellv 1 _ rfl
  have HE := Keep.mk (all_row HG.out x y r HS.out.tail)
  obtain ⟨wb, hwb⟩ : ∃ b, W1.heap.size = b := ⟨_, rfl⟩
  obtain ⟨W8, hW8⟩ : ∃ W8, W1.alloc (.cells #[.slice a8 A.length k8] 101) = W8 := ⟨_, rfl⟩
  rw [hwb, hW8] at HE
  clear HS
  go_wp2_with fail
  go_ret
  exact ⟨_, rfl, HE.out⟩

set_option maxRecDepth 100000 in
set_option maxHeartbeats 16000000 in
theorem about_near (w0 W : World) (l : List As) (gb : Nat) (sd : Int) (M : List Pl) (va : Value) (mi mc : Nat) (A : List Tg) (C : List Cl) (g : Gok sd A C M) (x y r : Int) (hx : I64 x) (hy : I64 y) (hn : M.length * 24 + 24 ≤ 140737488355328)  (hr : 0 ≤ r ∧ r < 2147483647) (h : Sep w0 W (gOpen gb sd va mi mc A C l)) :
    Calls Tryz.prog 107 #[pt gb, vv x y, iv r] W fun e W' => ∃ v, e = .returned v ∧ AbR w0 W' A x y r (gOpen gb sd va mi mc A C l) v := by
  have HG := Keep.mk g
  obtain ⟨a8, k8, e8⟩ := own_slice (h.rowGet m_all)
  subst e8
  have HRG := Keep.mk (And.intro (row_rng sd x r g.hs.1 hx hr) (row_rng sd y r g.hs.1 hy hr))
  have HR := Keep.mk (And.intro (fun w h => row_c w gb sd x r [.slice a8 A.length k8, .map (some mi), .map (some mc)] g.hs hx hr h) (fun w h => row_c w gb sd y r [.slice a8 A.length k8, .map (some mi), .map (some mc)] g.hs hy hr h))
  have HN := Keep.mk hn
  have HLN := Keep.mk g.len
  have HRR := Keep.mk hr
  have S1 := h.newBox #[iv x, iv y] 24
  obtain ⟨W1, hW1⟩ : ∃ W1, W.alloc (.cells #[iv x, iv y] 24) = W1 := ⟨_, rfl⟩
  obtain ⟨ab, hab⟩ : ∃ b, W.heap.size = b := ⟨_, rfl⟩
  rw [hW1, hab] at S1
  have HB : Keep (Sep w0 W1 (boxA ab [iv x, iv y] 24 :: gOpen gb sd (.slice a8 A.length k8) mi mc A C l)) := ⟨S1⟩
  have n1 : ¬ r < 0 := by omega
  have n2 : r < 2147483647 := by omega
  clear h S1 g hx hy hn hr
  go_enter Tryz.func107, Tryz.ntmps107
  go_upto_region 4 with fail
  clear hW1 hab
  go_cut [7, 8] (fun s7 s8 wx => ∃ xb yb, s7 = pt xb ∧ s8 = pt yb ∧ Keep (Sep w0 wx (boxA xb [iv (rF sd x r), iv (rC sd x r)] 172 :: boxA yb [iv (rF sd y r), iv (rC sd y r)] 172 :: boxA ab [iv x, iv y] 24 :: gOpen gb sd (.slice a8 A.length k8) mi mc A C l)))
  case first =>
    replace HB := Keep.mk (HB.out.grown (gr_drew _ none))
    refine wp_region_held_drew (S := fun w' => Sep w0 w' (boxA ab [iv x, iv y] 24 :: gOpen gb sd (.slice a8 A.length k8) mi mc A C l)) (by kernel_rfl) (HB.out) (fun hHeld => ?_)
    obtain ⟨W0, hW0⟩ : ∃ W_, W1.drew = W_ := ⟨_, rfl⟩
    rw [hW0] at HB hHeld ⊢
    clear hW0
    refine wpAnyH_take (i := 0) (oi := _) (v := ?_) rfl (by kernel_rfl) (by kernel_rfl) (by kernel_rfl) (fun _ _ _ h => h) (Or.inl ⟨by rfl, ?_⟩) (by assumption) ?_
    rotate_left
    · (intro w hSw; go_simp; first | done | (with_reducible rfl))
    simp only [Act.put, A1, A3, A4, A5, A6]
    refine wpAnyH_take (i := 1) (oi := _) (v := ?_) rfl (by kernel_rfl) (by kernel_rfl) (by kernel_rfl) (fun _ _ _ h => h) (Or.inl ⟨by rfl, ?_⟩) (by assumption) ?_
    rotate_left
    · (intro w hSw; go_simp; first | done | (with_reducible rfl))
    simp only [Act.put, A1, A2, A3, A4, A5, A6]
    refine wpAnyH_take (i := 2) (oi := _) (v := ?_) rfl (by kernel_rfl) (by kernel_rfl) (by kernel_rfl) (fun _ _ _ h => h) (Or.inl ⟨by rfl, ?_⟩) (by assumption) ?_
    rotate_left
    · (intro w hSw; have q0 := (hSw.boxGet k0m).cellv 0 _ rfl; go_simp; first | done | (with_reducible rfl))
    simp only [Act.put, A1, A2, A3, A4, A5, A6]
    refine wpAnyH_take (i := 3) (oi := _) (v := ?_) rfl (by kernel_rfl) (by kernel_rfl) (by kernel_rfl) (fun _ _ _ h => h) (Or.inl ⟨by rfl, ?_⟩) (by assumption) ?_
    rotate_left
    · (intro w hSw; go_simp; first | done | (with_reducible rfl))
    simp only [Act.put, A1, A2, A3, A4, A5, A6]
    refine wpAnyH_take (i := 5) (oi := _) (v := ?_) rfl (by kernel_rfl) (by kernel_rfl) (by kernel_rfl) (fun _ _ _ h => h) (Or.inl ⟨by rfl, ?_⟩) (by assumption) ?_
    rotate_left
    · (intro w hSw; go_simp; first | done | (with_reducible rfl))
    simp only [Act.put, A1, A2, A3, A4, A5, A6]
    refine wpAnyH_take (i := 6) (oi := _) (v := ?_) rfl (by kernel_rfl) (by kernel_rfl) (by kernel_rfl) (fun _ _ _ h => h) (Or.inl ⟨by rfl, ?_⟩) (by assumption) ?_
    rotate_left
    · (intro w hSw; go_simp; first | done | (with_reducible rfl))
    simp only [Act.put, A1, A2, A3, A4, A5, A6]
    refine wpAnyH_take (i := 7) (oi := _) (v := ?_) rfl (by kernel_rfl) (by kernel_rfl) (by kernel_rfl) (fun _ _ _ h => h) (Or.inl ⟨by rfl, ?_⟩) (by assumption) ?_
    rotate_left
    · (intro w hSw; have q0 := (hSw.boxGet k0m).cellv 1 _ rfl; go_simp; first | done | (with_reducible rfl))
    simp only [Act.put, A1, A2, A3, A4, A5, A6]
    refine wpAnyH_take (i := 8) (oi := _) (v := ?_) rfl (by kernel_rfl) (by kernel_rfl) (by kernel_rfl) (fun _ _ _ h => h) (Or.inl ⟨by rfl, ?_⟩) (by assumption) ?_
    rotate_left
    · (intro w hSw; go_simp; first | done | (with_reducible rfl))
    simp only [Act.put, A1, A2, A3, A4, A5, A6]
    refine wpAnyH_ready (rs := [4, 10, 11]) (by kernel_rfl) (by simp) ?_
    refine AllReadyH.cons rfl (fun K hK => ?_) (AllReadyH.cons rfl (fun K hK => ?_) (AllReadyH.cons rfl (fun K hK => ?_) (AllReadyH.nil)))
    · skip
      go_simp
      refine (HR.out.1 _ (HB.out.boxGet k1m)).mono ?_
      rintro e wg1 ⟨rfl, hg⟩
      replace HB := Keep.mk (HB.out.grown hg)
      refine hK.out _ _ HB.out (fun hHeld => ?_)
      clear hK K hg
      refine wpAnyH_ready (rs := [9, 10, 11]) (by kernel_rfl) (by simp) ?_
      refine AllReadyH.cons rfl (fun K hK => ?_) (AllReadyH.cons rfl (fun K hK => ?_) (AllReadyH.cons rfl (fun K hK => ?_) (AllReadyH.nil)))
      · skip
        go_simp
        refine (HR.out.2 _ (HB.out.boxGet k1m)).mono ?_
        rintro e wg2 ⟨rfl, hg⟩
        replace HB := Keep.mk (HB.out.grown hg)
        refine hK.out _ _ HB.out (fun hHeld => ?_)
        clear hK K hg
        refine wpAnyH_ready (rs := [10, 11]) (by kernel_rfl) (by simp) ?_
        refine AllReadyH.cons rfl (fun K hK => ?_) (AllReadyH.cons rfl (fun K hK => ?_) (AllReadyH.nil))
        · skip
          have S_ := HB.out.newBox #[iv 0, iv 0] 172
          obtain ⟨wa3, hwa3⟩ : ∃ W_, wg2.alloc (.cells #[iv 0, iv 0] 172) = W_ := ⟨_, rfl⟩
          obtain ⟨xb, hxb⟩ : ∃ b_, wg2.heap.size = b_ := ⟨_, rfl⟩
          rw [hwa3, hxb] at S_
          replace HB := Keep.mk S_
          clear S_
          go_simp
          clear hwa3 hxb
          refine hK.out _ _ HB.out.tail (fun hHeld => ?_)
          clear hK K
          refine wpAnyH_ready (rs := [11]) (by kernel_rfl) (by simp) ?_
          refine AllReadyH.cons rfl (fun K hK => ?_) AllReadyH.nil
          have S_ := HB.out.newBox #[iv 0, iv 0] 172
          obtain ⟨wa4, hwa4⟩ : ∃ W_, wa3.alloc (.cells #[iv 0, iv 0] 172) = W_ := ⟨_, rfl⟩
          obtain ⟨yb, hyb⟩ : ∃ b_, wa3.heap.size = b_ := ⟨_, rfl⟩
          rw [hwa4, hyb] at S_
          replace HB := Keep.mk S_
          clear S_
          go_simp
          clear hwa4 hyb
          refine hK.out _ _ HB.out.tail.tail (fun hHeld => ?_)
          clear hK K
          refine wpAnyH_ready (rs := [12]) (by kernel_rfl) (by simp) ?_
          refine AllReadyH.cons rfl (fun K hK => ?_) AllReadyH.nil
          replace HB := Keep.mk HB.out.swap
          rw [if_pos (show Region.wanted _ _ = true from rfl)]
          refine wp_store_mid 172 _ _ rfl xb 0 #[iv (rF sd x r), iv (rC sd x r)] rfl rfl ((HB.out.boxGet k0m).there 0 2 (Nat.le_refl _)) info86 (all_oneCell_toArray one2) ?_
          have S_ := HB.out.boxTurn ((HB.out.boxGet k0m).setCells [iv (rF sd x r), iv (rC sd x r)] 0) (gr_sets _ _ _ _)
          refine hK.out _ _ S_.tail.tail (fun hHeld => ?_)
          replace HB := Keep.mk S_
          clear hK K S_
          change Keep (Sep w0 (World.setCells wa4 xb 0 [iv (rF sd x r), iv (rC sd x r)]) _) at HB
          change Sep w0 (World.setCells wa4 xb 0 [iv (rF sd x r), iv (rC sd x r)]) _ at hHeld
          show wpAnyH _ _ _ _ _ _ _ _ (World.setCells wa4 xb 0 [iv (rF sd x r), iv (rC sd x r)])
          generalize World.setCells wa4 xb 0 [iv (rF sd x r), iv (rC sd x r)] = ws5 at HB hHeld ⊢
          simp only [Act.put, A1, A2, A3]
          refine wpAnyH_ready (rs := [13]) (by kernel_rfl) (by simp) ?_
          refine AllReadyH.cons rfl (fun K hK => ?_) AllReadyH.nil
          replace HB := Keep.mk HB.out.swap
          rw [if_pos (show Region.wanted _ _ = true from rfl)]
          refine wp_store_mid 172 _ _ rfl yb 0 #[iv (rF sd y r), iv (rC sd y r)] rfl rfl ((HB.out.boxGet k0m).there 0 2 (Nat.le_refl _)) info86 (all_oneCell_toArray one2) ?_
          have S_ := HB.out.boxTurn ((HB.out.boxGet k0m).setCells [iv (rF sd y r), iv (rC sd y r)] 0) (gr_sets _ _ _ _)
          refine hK.out _ _ S_.tail.tail (fun hHeld => ?_)
          replace HB := Keep.mk S_
          clear hK K S_
          change Keep (Sep w0 (World.setCells ws5 yb 0 [iv (rF sd y r), iv (rC sd y r)]) _) at HB
          change Sep w0 (World.setCells ws5 yb 0 [iv (rF sd y r), iv (rC sd y r)]) _ at hHeld
          show wpAnyH _ _ _ _ _ _ _ _ (World.setCells ws5 yb 0 [iv (rF sd y r), iv (rC sd y r)])
          generalize World.setCells ws5 yb 0 [iv (rF sd y r), iv (rC sd y r)] = ws6 at HB hHeld ⊢
          simp only [Act.put, A1, A2, A3]
          replace HB := Keep.mk HB.out.swap
          refine wpAnyH_done (by kernel_rfl) ?_ _
          clear hHeld
          go_wp2_with fail
          go_meet
          exact ⟨xb, yb, rfl, rfl, HB⟩
        · skip
          have S_ := HB.out.newBox #[iv 0, iv 0] 172
          obtain ⟨wa7, hwa7⟩ : ∃ W_, wg2.alloc (.cells #[iv 0, iv 0] 172) = W_ := ⟨_, rfl⟩
          obtain ⟨yb, hyb⟩ : ∃ b_, wg2.heap.size = b_ := ⟨_, rfl⟩
          rw [hwa7, hyb] at S_
          replace HB := Keep.mk S_
          clear S_
          go_simp
          clear hwa7 hyb
          refine hK.out _ _ HB.out.tail (fun hHeld => ?_)
          clear hK K
          refine wpAnyH_ready (rs := [10]) (by kernel_rfl) (by simp) ?_
          refine AllReadyH.cons rfl (fun K hK => ?_) AllReadyH.nil
          have S_ := HB.out.newBox #[iv 0, iv 0] 172
          obtain ⟨wa8, hwa8⟩ : ∃ W_, wa7.alloc (.cells #[iv 0, iv 0] 172) = W_ := ⟨_, rfl⟩
          obtain ⟨xb, hxb⟩ : ∃ b_, wa7.heap.size = b_ := ⟨_, rfl⟩
          rw [hwa8, hxb] at S_
          replace HB := Keep.mk S_
          clear S_
          go_simp
          clear hwa8 hxb
          refine hK.out _ _ HB.out.tail.tail (fun hHeld => ?_)
          clear hK K
          refine wpAnyH_ready (rs := [12]) (by kernel_rfl) (by simp) ?_
          refine AllReadyH.cons rfl (fun K hK => ?_) AllReadyH.nil
          rw [if_pos (show Region.wanted _ _ = true from rfl)]
          refine wp_store_mid 172 _ _ rfl xb 0 #[iv (rF sd x r), iv (rC sd x r)] rfl rfl ((HB.out.boxGet k0m).there 0 2 (Nat.le_refl _)) info86 (all_oneCell_toArray one2) ?_
          have S_ := HB.out.boxTurn ((HB.out.boxGet k0m).setCells [iv (rF sd x r), iv (rC sd x r)] 0) (gr_sets _ _ _ _)
          refine hK.out _ _ S_.tail.tail (fun hHeld => ?_)
          replace HB := Keep.mk S_
          clear hK K S_
          change Keep (Sep w0 (World.setCells wa8 xb 0 [iv (rF sd x r), iv (rC sd x r)]) _) at HB
          change Sep w0 (World.setCells wa8 xb 0 [iv (rF sd x r), iv (rC sd x r)]) _ at hHeld
          show wpAnyH _ _ _ _ _ _ _ _ (World.setCells wa8 xb 0 [iv (rF sd x r), iv (rC sd x r)])
          generalize World.setCells wa8 xb 0 [iv (rF sd x r), iv (rC sd x r)] = ws9 at HB hHeld ⊢
          simp only [Act.put, A1, A2, A3]
          refine wpAnyH_ready (rs := [13]) (by kernel_rfl) (by simp) ?_
          refine AllReadyH.cons rfl (fun K hK => ?_) AllReadyH.nil
          replace HB := Keep.mk HB.out.swap
          rw [if_pos (show Region.wanted _ _ = true from rfl)]
          refine wp_store_mid 172 _ _ rfl yb 0 #[iv (rF sd y r), iv (rC sd y r)] rfl rfl ((HB.out.boxGet k0m).there 0 2 (Nat.le_refl _)) info86 (all_oneCell_toArray one2) ?_
          have S_ := HB.out.boxTurn ((HB.out.boxGet k0m).setCells [iv (rF sd y r), iv (rC sd y r)] 0) (gr_sets _ _ _ _)
          refine hK.out _ _ S_.tail.tail (fun hHeld => ?_)
          replace HB := Keep.mk S_
          clear hK K S_
          change Keep (Sep w0 (World.setCells ws9 yb 0 [iv (rF sd y r), iv (rC sd y r)]) _) at HB
          change Sep w0 (World.setCells ws9 yb 0 [iv (rF sd y r), iv (rC sd y r)]) _ at hHeld
          show wpAnyH _ _ _ _ _ _ _ _ (World.setCells ws9 yb 0 [iv (rF sd y r), iv (rC sd y r)])
          generalize World.setCells ws9 yb 0 [iv (rF sd y r), iv (rC sd y r)] = ws10 at HB hHeld ⊢
          simp only [Act.put, A1, A2, A3]
          replace HB := Keep.mk HB.out.swap
          refine wpAnyH_done (by kernel_rfl) ?_ _
          clear hHeld
          go_wp2_with fail
          go_meet
          exact ⟨xb, yb, rfl, rfl, HB⟩
      · skip
        have S_ := HB.out.newBox #[iv 0, iv 0] 172
        obtain ⟨wa11, hwa11⟩ : ∃ W_, wg1.alloc (.cells #[iv 0, iv 0] 172) = W_ := ⟨_, rfl⟩
        obtain ⟨xb, hxb⟩ : ∃ b_, wg1.heap.size = b_ := ⟨_, rfl⟩
        rw [hwa11, hxb] at S_
        replace HB := Keep.mk S_
        clear S_
        go_simp
        clear hwa11 hxb
        refine hK.out _ _ HB.out.tail (fun hHeld => ?_)
        clear hK K
        refine wpAnyH_ready (rs := [9, 11]) (by kernel_rfl) (by simp) ?_
        refine AllReadyH.cons rfl (fun K hK => ?_) (AllReadyH.cons rfl (fun K hK => ?_) (AllReadyH.nil))
        · skip
          go_simp
          refine (HR.out.2 _ (HB.out.boxGet k2m)).mono ?_
          rintro e wg12 ⟨rfl, hg⟩
          replace HB := Keep.mk (HB.out.grown hg)
          refine hK.out _ _ HB.out.tail (fun hHeld => ?_)
          clear hK K hg
          refine wpAnyH_ready (rs := [11]) (by kernel_rfl) (by simp) ?_
          refine AllReadyH.cons rfl (fun K hK => ?_) AllReadyH.nil
          have S_ := HB.out.newBox #[iv 0, iv 0] 172
          obtain ⟨wa13, hwa13⟩ : ∃ W_, wg12.alloc (.cells #[iv 0, iv 0] 172) = W_ := ⟨_, rfl⟩
          obtain ⟨yb, hyb⟩ : ∃ b_, wg12.heap.size = b_ := ⟨_, rfl⟩
          rw [hwa13, hyb] at S_
          replace HB := Keep.mk S_
          clear S_
          go_simp
          clear hwa13 hyb
          refine hK.out _ _ HB.out.tail.tail (fun hHeld => ?_)
          clear hK K
          refine wpAnyH_ready (rs := [12]) (by kernel_rfl) (by simp) ?_
          refine AllReadyH.cons rfl (fun K hK => ?_) AllReadyH.nil
          replace HB := Keep.mk HB.out.swap
          rw [if_pos (show Region.wanted _ _ = true from rfl)]
          refine wp_store_mid 172 _ _ rfl xb 0 #[iv (rF sd x r), iv (rC sd x r)] rfl rfl ((HB.out.boxGet k0m).there 0 2 (Nat.le_refl _)) info86 (all_oneCell_toArray one2) ?_
          have S_ := HB.out.boxTurn ((HB.out.boxGet k0m).setCells [iv (rF sd x r), iv (rC sd x r)] 0) (gr_sets _ _ _ _)
          refine hK.out _ _ S_.tail.tail (fun hHeld => ?_)
          replace HB := Keep.mk S_
          clear hK K S_
          change Keep (Sep w0 (World.setCells wa13 xb 0 [iv (rF sd x r), iv (rC sd x r)]) _) at HB
          change Sep w0 (World.setCells wa13 xb 0 [iv (rF sd x r), iv (rC sd x r)]) _ at hHeld
          show wpAnyH _ _ _ _ _ _ _ _ (World.setCells wa13 xb 0 [iv (rF sd x r), iv (rC sd x r)])
          generalize World.setCells wa13 xb 0 [iv (rF sd x r), iv (rC sd x r)] = ws14 at HB hHeld ⊢
          simp only [Act.put, A1, A2, A3]
          refine wpAnyH_ready (rs := [13]) (by kernel_rfl) (by simp) ?_
          refine AllReadyH.cons rfl (fun K hK => ?_) AllReadyH.nil
          replace HB := Keep.mk HB.out.swap
          rw [if_pos (show Region.wanted _ _ = true from rfl)]
          refine wp_store_mid 172 _ _ rfl yb 0 #[iv (rF sd y r), iv (rC sd y r)] rfl rfl ((HB.out.boxGet k0m).there 0 2 (Nat.le_refl _)) info86 (all_oneCell_toArray one2) ?_
          have S_ := HB.out.boxTurn ((HB.out.boxGet k0m).setCells [iv (rF sd y r), iv (rC sd y r)] 0) (gr_sets _ _ _ _)
          refine hK.out _ _ S_.tail.tail (fun hHeld => ?_)
          replace HB := Keep.mk S_
          clear hK K S_
          change Keep (Sep w0 (World.setCells ws14 yb 0 [iv (rF sd y r), iv (rC sd y r)]) _) at HB
          change Sep w0 (World.setCells ws14 yb 0 [iv (rF sd y r), iv (rC sd y r)]) _ at hHeld
          show wpAnyH _ _ _ _ _ _ _ _ (World.setCells ws14 yb 0 [iv (rF sd y r), iv (rC sd y r)])
          generalize World.setCells ws14 yb 0 [iv (rF sd y r), iv (rC sd y r)] = ws15 at HB hHeld ⊢
          simp only [Act.put, A1, A2, A3]
          replace HB := Keep.mk HB.out.swap
          refine wpAnyH_done (by kernel_rfl) ?_ _
          clear hHeld
          go_wp2_with fail
          go_meet
          exact ⟨xb, yb, rfl, rfl, HB⟩
        · skip
          have S_ := HB.out.newBox #[iv 0, iv 0] 172
          obtain ⟨wa16, hwa16⟩ : ∃ W_, wa11.alloc (.cells #[iv 0, iv 0] 172) = W_ := ⟨_, rfl⟩
          obtain ⟨yb, hyb⟩ : ∃ b_, wa11.heap.size = b_ := ⟨_, rfl⟩
          rw [hwa16, hyb] at S_
          replace HB := Keep.mk S_
          clear S_
          go_simp
          clear hwa16 hyb
          refine hK.out _ _ HB.out.tail.tail (fun hHeld => ?_)
          clear hK K
          refine wpAnyH_ready (rs := [9]) (by kernel_rfl) (by simp) ?_
          refine AllReadyH.cons rfl (fun K hK => ?_) AllReadyH.nil
          go_simp
          refine (HR.out.2 _ (HB.out.boxGet k3m)).mono ?_
          rintro e wg17 ⟨rfl, hg⟩
          replace HB := Keep.mk (HB.out.grown hg)
          refine hK.out _ _ HB.out.tail.tail (fun hHeld => ?_)
          clear hK K hg
          refine wpAnyH_ready (rs := [12]) (by kernel_rfl) (by simp) ?_
          refine AllReadyH.cons rfl (fun K hK => ?_) AllReadyH.nil
          replace HB := Keep.mk HB.out.swap
          rw [if_pos (show Region.wanted _ _ = true from rfl)]
          refine wp_store_mid 172 _ _ rfl xb 0 #[iv (rF sd x r), iv (rC sd x r)] rfl rfl ((HB.out.boxGet k0m).there 0 2 (Nat.le_refl _)) info86 (all_oneCell_toArray one2) ?_
          have S_ := HB.out.boxTurn ((HB.out.boxGet k0m).setCells [iv (rF sd x r), iv (rC sd x r)] 0) (gr_sets _ _ _ _)
          refine hK.out _ _ S_.tail.tail (fun hHeld => ?_)
          replace HB := Keep.mk S_
          clear hK K S_
          change Keep (Sep w0 (World.setCells wg17 xb 0 [iv (rF sd x r), iv (rC sd x r)]) _) at HB
          change Sep w0 (World.setCells wg17 xb 0 [iv (rF sd x r), iv (rC sd x r)]) _ at hHeld
          show wpAnyH _ _ _ _ _ _ _ _ (World.setCells wg17 xb 0 [iv (rF sd x r), iv (rC sd x r)])
          generalize World.setCells wg17 xb 0 [iv (rF sd x r), iv (rC sd x r)] = ws18 at HB hHeld ⊢
          simp only [Act.put, A1, A2, A3]
          refine wpAnyH_ready (rs := [13]) (by kernel_rfl) (by simp) ?_
          refine AllReadyH.cons rfl (fun K hK => ?_) AllReadyH.nil
          replace HB := Keep.mk HB.out.swap
          rw [if_pos (show Region.wanted _ _ = true from rfl)]
          refine wp_store_mid 172 _ _ rfl yb 0 #[iv (rF sd y r), iv (rC sd y r)] rfl rfl ((HB.out.boxGet k0m).there 0 2 (Nat.le_refl _)) info86 (all_oneCell_toArray one2) ?_
          have S_ := HB.out.boxTurn ((HB.out.boxGet k0m).setCells [iv (rF sd y r), iv (rC sd y r)] 0) (gr_sets _ _ _ _)
          refine hK.out _ _ S_.tail.tail (fun hHeld => ?_)
          replace HB := Keep.mk S_
          clear hK K S_
          change Keep (Sep w0 (World.setCells ws18 yb 0 [iv (rF sd y r), iv (rC sd y r)]) _) at HB
          change Sep w0 (World.setCells ws18 yb 0 [iv (rF sd y r), iv (rC sd y r)]) _ at hHeld
          show wpAnyH _ _ _ _ _ _ _ _ (World.setCells ws18 yb 0 [iv (rF sd y r), iv (rC sd y r)])
          generalize World.setCells ws18 yb 0 [iv (rF sd y r), iv (rC sd y r)] = ws19 at HB hHeld ⊢
          simp only [Act.put, A1, A2, A3]
          replace HB := Keep.mk HB.out.swap
          refine wpAnyH_done (by kernel_rfl) ?_ _
          clear hHeld
          go_wp2_with fail
          go_meet
          exact ⟨xb, yb, rfl, rfl, HB⟩
      · skip
        have S_ := HB.out.newBox #[iv 0, iv 0] 172
        obtain ⟨wa20, hwa20⟩ : ∃ W_, wg1.alloc (.cells #[iv 0, iv 0] 172) = W_ := ⟨_, rfl⟩
        obtain ⟨yb, hyb⟩ : ∃ b_, wg1.heap.size = b_ := ⟨_, rfl⟩
        rw [hwa20, hyb] at S_
        replace HB := Keep.mk S_
        clear S_
        go_simp
        clear hwa20 hyb
        refine hK.out _ _ HB.out.tail (fun hHeld => ?_)
        clear hK K
        refine wpAnyH_ready (rs := [9, 10]) (by kernel_rfl) (by simp) ?_
        refine AllReadyH.cons rfl (fun K hK => ?_) (AllReadyH.cons rfl (fun K hK => ?_) (AllReadyH.nil))
        · skip
          go_simp
          refine (HR.out.2 _ (HB.out.boxGet k2m)).mono ?_
          rintro e wg21 ⟨rfl, hg⟩
          replace HB := Keep.mk (HB.out.grown hg)
          refine hK.out _ _ HB.out.tail (fun hHeld => ?_)
          clear hK K hg
          refine wpAnyH_ready (rs := [10]) (by kernel_rfl) (by simp) ?_
          refine AllReadyH.cons rfl (fun K hK => ?_) AllReadyH.nil
          have S_ := HB.out.newBox #[iv 0, iv 0] 172
          obtain ⟨wa22, hwa22⟩ : ∃ W_, wg21.alloc (.cells #[iv 0, iv 0] 172) = W_ := ⟨_, rfl⟩
          obtain ⟨xb, hxb⟩ : ∃ b_, wg21.heap.size = b_ := ⟨_, rfl⟩
          rw [hwa22, hxb] at S_
          replace HB := Keep.mk S_
          clear S_
          go_simp
          clear hwa22 hxb
          refine hK.out _ _ HB.out.tail.tail (fun hHeld => ?_)
          clear hK K
          refine wpAnyH_ready (rs := [12]) (by kernel_rfl) (by simp) ?_
          refine AllReadyH.cons rfl (fun K hK => ?_) AllReadyH.nil
          rw [if_pos (show Region.wanted _ _ = true from rfl)]
          refine wp_store_mid 172 _ _ rfl xb 0 #[iv (rF sd x r), iv (rC sd x r)] rfl rfl ((HB.out.boxGet k0m).there 0 2 (Nat.le_refl _)) info86 (all_oneCell_toArray one2) ?_
          have S_ := HB.out.boxTurn ((HB.out.boxGet k0m).setCells [iv (rF sd x r), iv (rC sd x r)] 0) (gr_sets _ _ _ _)
          refine hK.out _ _ S_.tail.tail (fun hHeld => ?_)
          replace HB := Keep.mk S_
          clear hK K S_
          change Keep (Sep w0 (World.setCells wa22 xb 0 [iv (rF sd x r), iv (rC sd x r)]) _) at HB
          change Sep w0 (World.setCells wa22 xb 0 [iv (rF sd x r), iv (rC sd x r)]) _ at hHeld
          show wpAnyH _ _ _ _ _ _ _ _ (World.setCells wa22 xb 0 [iv (rF sd x r), iv (rC sd x r)])
          generalize World.setCells wa22 xb 0 [iv (rF sd x r), iv (rC sd x r)] = ws23 at HB hHeld ⊢
          simp only [Act.put, A1, A2, A3]
          refine wpAnyH_ready (rs := [13]) (by kernel_rfl) (by simp) ?_
          refine AllReadyH.cons rfl (fun K hK => ?_) AllReadyH.nil
          replace HB := Keep.mk HB.out.swap
          rw [if_pos (show Region.wanted _ _ = true from rfl)]
          refine wp_store_mid 172 _ _ rfl yb 0 #[iv (rF sd y r), iv (rC sd y r)] rfl rfl ((HB.out.boxGet k0m).there 0 2 (Nat.le_refl _)) info86 (all_oneCell_toArray one2) ?_
          have S_ := HB.out.boxTurn ((HB.out.boxGet k0m).setCells [iv (rF sd y r), iv (rC sd y r)] 0) (gr_sets _ _ _ _)
          refine hK.out _ _ S_.tail.tail (fun hHeld => ?_)
          replace HB := Keep.mk S_
          clear hK K S_
          change Keep (Sep w0 (World.setCells ws23 yb 0 [iv (rF sd y r), iv (rC sd y r)]) _) at HB
          change Sep w0 (World.setCells ws23 yb 0 [iv (rF sd y r), iv (rC sd y r)]) _ at hHeld
          show wpAnyH _ _ _ _ _ _ _ _ (World.setCells ws23 yb 0 [iv (rF sd y r), iv (rC sd y r)])
          generalize World.setCells ws23 yb 0 [iv (rF sd y r), iv (rC sd y r)] = ws24 at HB hHeld ⊢
          simp only [Act.put, A1, A2, A3]
          replace HB := Keep.mk HB.out.swap
          refine wpAnyH_done (by kernel_rfl) ?_ _
          clear hHeld
          go_wp2_with fail
          go_meet
          exact ⟨xb, yb, rfl, rfl, HB⟩
        · skip
          have S_ := HB.out.newBox #[iv 0, iv 0] 172
          obtain ⟨wa25, hwa25⟩ : ∃ W_, wa20.alloc (.cells #[iv 0, iv 0] 172) = W_ := ⟨_, rfl⟩
          obtain ⟨xb, hxb⟩ : ∃ b_, wa20.heap.size = b_ := ⟨_, rfl⟩
          rw [hwa25, hxb] at S_
          replace HB := Keep.mk S_
          clear S_
          go_simp
          clear hwa25 hxb
          refine hK.out _ _ HB.out.tail.tail (fun hHeld => ?_)
          clear hK K
          refine wpAnyH_ready (rs := [9]) (by kernel_rfl) (by simp) ?_
          refine AllReadyH.cons rfl (fun K hK => ?_) AllReadyH.nil
          go_simp
          refine (HR.out.2 _ (HB.out.boxGet k3m)).mono ?_
          rintro e wg26 ⟨rfl, hg⟩
          replace HB := Keep.mk (HB.out.grown hg)
          refine hK.out _ _ HB.out.tail.tail (fun hHeld => ?_)
          clear hK K hg
          refine wpAnyH_ready (rs := [12]) (by kernel_rfl) (by simp) ?_
          refine AllReadyH.cons rfl (fun K hK => ?_) AllReadyH.nil
          rw [if_pos (show Region.wanted _ _ = true from rfl)]
          refine wp_store_mid 172 _ _ rfl xb 0 #[iv (rF sd x r), iv (rC sd x r)] rfl rfl ((HB.out.boxGet k0m).there 0 2 (Nat.le_refl _)) info86 (all_oneCell_toArray one2) ?_
          have S_ := HB.out.boxTurn ((HB.out.boxGet k0m).setCells [iv (rF sd x r), iv (rC sd x r)] 0) (gr_sets _ _ _ _)
          refine hK.out _ _ S_.tail.tail (fun hHeld => ?_)
          replace HB := Keep.mk S_
          clear hK K S_
          change Keep (Sep w0 (World.setCells wg26 xb 0 [iv (rF sd x r), iv (rC sd x r)]) _) at HB
          change Sep w0 (World.setCells wg26 xb 0 [iv (rF sd x r), iv (rC sd x r)]) _ at hHeld
          show wpAnyH _ _ _ _ _ _ _ _ (World.setCells wg26 xb 0 [iv (rF sd x r), iv (rC sd x r)])
          generalize World.setCells wg26 xb 0 [iv (rF sd x r), iv (rC sd x r)] = ws27 at HB hHeld ⊢
          simp only [Act.put, A1, A2, A3]
          refine wpAnyH_ready (rs := [13]) (by kernel_rfl) (by simp) ?_
          refine AllReadyH.cons rfl (fun K hK => ?_) AllReadyH.nil
          replace HB := Keep.mk HB.out.swap
          rw [if_pos (show Region.wanted _ _ = true from rfl)]
          refine wp_store_mid 172 _ _ rfl yb 0 #[iv (rF sd y r), iv (rC sd y r)] rfl rfl ((HB.out.boxGet k0m).there 0 2 (Nat.le_refl _)) info86 (all_oneCell_toArray one2) ?_
          have S_ := HB.out.boxTurn ((HB.out.boxGet k0m).setCells [iv (rF sd y r), iv (rC sd y r)] 0) (gr_sets _ _ _ _)
          refine hK.out _ _ S_.tail.tail (fun hHeld => ?_)
          replace HB := Keep.mk S_
          clear hK K S_
          change Keep (Sep w0 (World.setCells ws27 yb 0 [iv (rF sd y r), iv (rC sd y r)]) _) at HB
          change Sep w0 (World.setCells ws27 yb 0 [iv (rF sd y r), iv (rC sd y r)]) _ at hHeld
          show wpAnyH _ _ _ _ _ _ _ _ (World.setCells ws27 yb 0 [iv (rF sd y r), iv (rC sd y r)])
          generalize World.setCells ws27 yb 0 [iv (rF sd y r), iv (rC sd y r)] = ws28 at HB hHeld ⊢
          simp only [Act.put, A1, A2, A3]
          replace HB := Keep.mk HB.out.swap
          refine wpAnyH_done (by kernel_rfl) ?_ _
          clear hHeld
          go_wp2_with fail
          go_meet
          exact ⟨xb, yb, rfl, rfl, HB⟩
    · skip
      have S_ := HB.out.newBox #[iv 0, iv 0] 172
      obtain ⟨wa29, hwa29⟩ : ∃ W_, W0.alloc (.cells #[iv 0, iv 0] 172) = W_ := ⟨_, rfl⟩
      obtain ⟨xb, hxb⟩ : ∃ b_, W0.heap.size = b_ := ⟨_, rfl⟩
      rw [hwa29, hxb] at S_
      replace HB := Keep.mk S_
      clear S_
      go_simp
      clear hwa29 hxb
      refine hK.out _ _ HB.out.tail (fun hHeld => ?_)
      clear hK K
      refine wpAnyH_ready (rs := [4, 11]) (by kernel_rfl) (by simp) ?_
      refine AllReadyH.cons rfl (fun K hK => ?_) (AllReadyH.cons rfl (fun K hK => ?_) (AllReadyH.nil))
      · skip
        go_simp
        refine (HR.out.1 _ (HB.out.boxGet k2m)).mono ?_
        rintro e wg30 ⟨rfl, hg⟩
        replace HB := Keep.mk (HB.out.grown hg)
        refine hK.out _ _ HB.out.tail (fun hHeld => ?_)
        clear hK K hg
        refine wpAnyH_ready (rs := [9, 11]) (by kernel_rfl) (by simp) ?_
        refine AllReadyH.cons rfl (fun K hK => ?_) (AllReadyH.cons rfl (fun K hK => ?_) (AllReadyH.nil))
        · skip
          go_simp
          refine (HR.out.2 _ (HB.out.boxGet k2m)).mono ?_
          rintro e wg31 ⟨rfl, hg⟩
          replace HB := Keep.mk (HB.out.grown hg)
          refine hK.out _ _ HB.out.tail (fun hHeld => ?_)
          clear hK K hg
          refine wpAnyH_ready (rs := [11]) (by kernel_rfl) (by simp) ?_
          refine AllReadyH.cons rfl (fun K hK => ?_) AllReadyH.nil
          have S_ := HB.out.newBox #[iv 0, iv 0] 172
          obtain ⟨wa32, hwa32⟩ : ∃ W_, wg31.alloc (.cells #[iv 0, iv 0] 172) = W_ := ⟨_, rfl⟩
          obtain ⟨yb, hyb⟩ : ∃ b_, wg31.heap.size = b_ := ⟨_, rfl⟩
          rw [hwa32, hyb] at S_
          replace HB := Keep.mk S_
          clear S_
          go_simp
          clear hwa32 hyb
          refine hK.out _ _ HB.out.tail.tail (fun hHeld => ?_)
          clear hK K
          refine wpAnyH_ready (rs := [12]) (by kernel_rfl) (by simp) ?_
          refine AllReadyH.cons rfl (fun K hK => ?_) AllReadyH.nil
          replace HB := Keep.mk HB.out.swap
          rw [if_pos (show Region.wanted _ _ = true from rfl)]
          refine wp_store_mid 172 _ _ rfl xb 0 #[iv (rF sd x r), iv (rC sd x r)] rfl rfl ((HB.out.boxGet k0m).there 0 2 (Nat.le_refl _)) info86 (all_oneCell_toArray one2) ?_
          have S_ := HB.out.boxTurn ((HB.out.boxGet k0m).setCells [iv (rF sd x r), iv (rC sd x r)] 0) (gr_sets _ _ _ _)
          refine hK.out _ _ S_.tail.tail (fun hHeld => ?_)
          replace HB := Keep.mk S_
          clear hK K S_
          change Keep (Sep w0 (World.setCells wa32 xb 0 [iv (rF sd x r), iv (rC sd x r)]) _) at HB
          change Sep w0 (World.setCells wa32 xb 0 [iv (rF sd x r), iv (rC sd x r)]) _ at hHeld
          show wpAnyH _ _ _ _ _ _ _ _ (World.setCells wa32 xb 0 [iv (rF sd x r), iv (rC sd x r)])
          generalize World.setCells wa32 xb 0 [iv (rF sd x r), iv (rC sd x r)] = ws33 at HB hHeld ⊢
          simp only [Act.put, A1, A2, A3]
          refine wpAnyH_ready (rs := [13]) (by kernel_rfl) (by simp) ?_
          refine AllReadyH.cons rfl (fun K hK => ?_) AllReadyH.nil
          replace HB := Keep.mk HB.out.swap
          rw [if_pos (show Region.wanted _ _ = true from rfl)]
          refine wp_store_mid 172 _ _ rfl yb 0 #[iv (rF sd y r), iv (rC sd y r)] rfl rfl ((HB.out.boxGet k0m).there 0 2 (Nat.le_refl _)) info86 (all_oneCell_toArray one2) ?_
          have S_ := HB.out.boxTurn ((HB.out.boxGet k0m).setCells [iv (rF sd y r), iv (rC sd y r)] 0) (gr_sets _ _ _ _)
          refine hK.out _ _ S_.tail.tail (fun hHeld => ?_)
          replace HB := Keep.mk S_
          clear hK K S_
          change Keep (Sep w0 (World.setCells ws33 yb 0 [iv (rF sd y r), iv (rC sd y r)]) _) at HB
          change Sep w0 (World.setCells ws33 yb 0 [iv (rF sd y r), iv (rC sd y r)]) _ at hHeld
          show wpAnyH _ _ _ _ _ _ _ _ (World.setCells ws33 yb 0 [iv (rF sd y r), iv (rC sd y r)])
          generalize World.setCells ws33 yb 0 [iv (rF sd y r), iv (rC sd y r)] = ws34 at HB hHeld ⊢
          simp only [Act.put, A1, A2, A3]
          replace HB := Keep.mk HB.out.swap
          refine wpAnyH_done (by kernel_rfl) ?_ _
          clear hHeld
          go_wp2_with fail
          go_meet
          exact ⟨xb, yb, rfl, rfl, HB⟩
        · skip
          have S_ := HB.out.newBox #[iv 0, iv 0] 172
          obtain ⟨wa35, hwa35⟩ : ∃ W_, wg30.alloc (.cells #[iv 0, iv 0] 172) = W_ := ⟨_, rfl⟩
          obtain ⟨yb, hyb⟩ : ∃ b_, wg30.heap.size = b_ := ⟨_, rfl⟩
          rw [hwa35, hyb] at S_
          replace HB := Keep.mk S_
          clear S_
          go_simp
          clear hwa35 hyb
          refine hK.out _ _ HB.out.tail.tail (fun hHeld => ?_)
          clear hK K
          refine wpAnyH_ready (rs := [9]) (by kernel_rfl) (by simp) ?_
          refine AllReadyH.cons rfl (fun K hK => ?_) AllReadyH.nil
          go_simp
          refine (HR.out.2 _ (HB.out.boxGet k3m)).mono ?_
          rintro e wg36 ⟨rfl, hg⟩
          replace HB := Keep.mk (HB.out.grown hg)
          refine hK.out _ _ HB.out.tail.tail (fun hHeld => ?_)
          clear hK K hg
          refine wpAnyH_ready (rs := [12]) (by kernel_rfl) (by simp) ?_
          refine AllReadyH.cons rfl (fun K hK => ?_) AllReadyH.nil
          replace HB := Keep.mk HB.out.swap
          rw [if_pos (show Region.wanted _ _ = true from rfl)]
          refine wp_store_mid 172 _ _ rfl xb 0 #[iv (rF sd x r), iv (rC sd x r)] rfl rfl ((HB.out.boxGet k0m).there 0 2 (Nat.le_refl _)) info86 (all_oneCell_toArray one2) ?_
          have S_ := HB.out.boxTurn ((HB.out.boxGet k0m).setCells [iv (rF sd x r), iv (rC sd x r)] 0) (gr_sets _ _ _ _)
          refine hK.out _ _ S_.tail.tail (fun hHeld => ?_)
          replace HB := Keep.mk S_
          clear hK K S_
          change Keep (Sep w0 (World.setCells wg36 xb 0 [iv (rF sd x r), iv (rC sd x r)]) _) at HB
          change Sep w0 (World.setCells wg36 xb 0 [iv (rF sd x r), iv (rC sd x r)]) _ at hHeld
          show wpAnyH _ _ _ _ _ _ _ _ (World.setCells wg36 xb 0 [iv (rF sd x r), iv (rC sd x r)])
          generalize World.setCells wg36 xb 0 [iv (rF sd x r), iv (rC sd x r)] = ws37 at HB hHeld ⊢
          simp only [Act.put, A1, A2, A3]
          refine wpAnyH_ready (rs := [13]) (by kernel_rfl) (by simp) ?_
          refine AllReadyH.cons rfl (fun K hK => ?_) AllReadyH.nil
          replace HB := Keep.mk HB.out.swap
          rw [if_pos (show Region.wanted _ _ = true from rfl)]
          refine wp_store_mid 172 _ _ rfl yb 0 #[iv (rF sd y r), iv (rC sd y r)] rfl rfl ((HB.out.boxGet k0m).there 0 2 (Nat.le_refl _)) info86 (all_oneCell_toArray one2) ?_
          have S_ := HB.out.boxTurn ((HB.out.boxGet k0m).setCells [iv (rF sd y r), iv (rC sd y r)] 0) (gr_sets _ _ _ _)
          refine hK.out _ _ S_.tail.tail (fun hHeld => ?_)
          replace HB := Keep.mk S_
          clear hK K S_
          change Keep (Sep w0 (World.setCells ws37 yb 0 [iv (rF sd y r), iv (rC sd y r)]) _) at HB
          change Sep w0 (World.setCells ws37 yb 0 [iv (rF sd y r), iv (rC sd y r)]) _ at hHeld
          show wpAnyH _ _ _ _ _ _ _ _ (World.setCells ws37 yb 0 [iv (rF sd y r), iv (rC sd y r)])
          generalize World.setCells ws37 yb 0 [iv (rF sd y r), iv (rC sd y r)] = ws38 at HB hHeld ⊢
          simp only [Act.put, A1, A2, A3]
          replace HB := Keep.mk HB.out.swap
          refine wpAnyH_done (by kernel_rfl) ?_ _
          clear hHeld
          go_wp2_with fail
          go_meet
          exact ⟨xb, yb, rfl, rfl, HB⟩
      · skip
        have S_ := HB.out.newBox #[iv 0, iv 0] 172
        obtain ⟨wa39, hwa39⟩ : ∃ W_, wa29.alloc (.cells #[iv 0, iv 0] 172) = W_ := ⟨_, rfl⟩
        obtain ⟨yb, hyb⟩ : ∃ b_, wa29.heap.size = b_ := ⟨_, rfl⟩
        rw [hwa39, hyb] at S_
        replace HB := Keep.mk S_
        clear S_
        go_simp
        clear hwa39 hyb
        refine hK.out _ _ HB.out.tail.tail (fun hHeld => ?_)
        clear hK K
        refine wpAnyH_ready (rs := [4]) (by kernel_rfl) (by simp) ?_
        refine AllReadyH.cons rfl (fun K hK => ?_) AllReadyH.nil
        go_simp
        refine (HR.out.1 _ (HB.out.boxGet k3m)).mono ?_
        rintro e wg40 ⟨rfl, hg⟩
        replace HB := Keep.mk (HB.out.grown hg)
        refine hK.out _ _ HB.out.tail.tail (fun hHeld => ?_)
        clear hK K hg
        refine wpAnyH_ready (rs := [9]) (by kernel_rfl) (by simp) ?_
        refine AllReadyH.cons rfl (fun K hK => ?_) AllReadyH.nil
        go_simp
        refine (HR.out.2 _ (HB.out.boxGet k3m)).mono ?_
        rintro e wg41 ⟨rfl, hg⟩
        replace HB := Keep.mk (HB.out.grown hg)
        refine hK.out _ _ HB.out.tail.tail (fun hHeld => ?_)
        clear hK K hg
        refine wpAnyH_ready (rs := [12]) (by kernel_rfl) (by simp) ?_
        refine AllReadyH.cons rfl (fun K hK => ?_) AllReadyH.nil
        replace HB := Keep.mk HB.out.swap
        rw [if_pos (show Region.wanted _ _ = true from rfl)]
        refine wp_store_mid 172 _ _ rfl xb 0 #[iv (rF sd x r), iv (rC sd x r)] rfl rfl ((HB.out.boxGet k0m).there 0 2 (Nat.le_refl _)) info86 (all_oneCell_toArray one2) ?_
        have S_ := HB.out.boxTurn ((HB.out.boxGet k0m).setCells [iv (rF sd x r), iv (rC sd x r)] 0) (gr_sets _ _ _ _)
        refine hK.out _ _ S_.tail.tail (fun hHeld => ?_)
        replace HB := Keep.mk S_
        clear hK K S_
        change Keep (Sep w0 (World.setCells wg41 xb 0 [iv (rF sd x r), iv (rC sd x r)]) _) at HB
        change Sep w0 (World.setCells wg41 xb 0 [iv (rF sd x r), iv (rC sd x r)]) _ at hHeld
        show wpAnyH _ _ _ _ _ _ _ _ (World.setCells wg41 xb 0 [iv (rF sd x r), iv (rC sd x r)])
        generalize World.setCells wg41 xb 0 [iv (rF sd x r), iv (rC sd x r)] = ws42 at HB hHeld ⊢
        simp only [Act.put, A1, A2, A3]
        refine wpAnyH_ready (rs := [13]) (by kernel_rfl) (by simp) ?_
        refine AllReadyH.cons rfl (fun K hK => ?_) AllReadyH.nil
        replace HB := Keep.mk HB.out.swap
        rw [if_pos (show Region.wanted _ _ = true from rfl)]
        refine wp_store_mid 172 _ _ rfl yb 0 #[iv (rF sd y r), iv (rC sd y r)] rfl rfl ((HB.out.boxGet k0m).there 0 2 (Nat.le_refl _)) info86 (all_oneCell_toArray one2) ?_
        have S_ := HB.out.boxTurn ((HB.out.boxGet k0m).setCells [iv (rF sd y r), iv (rC sd y r)] 0) (gr_sets _ _ _ _)
        refine hK.out _ _ S_.tail.tail (fun hHeld => ?_)
        replace HB := Keep.mk S_
        clear hK K S_
        change Keep (Sep w0 (World.setCells ws42 yb 0 [iv (rF sd y r), iv (rC sd y r)]) _) at HB
        change Sep w0 (World.setCells ws42 yb 0 [iv (rF sd y r), iv (rC sd y r)]) _ at hHeld
        show wpAnyH _ _ _ _ _ _ _ _ (World.setCells ws42 yb 0 [iv (rF sd y r), iv (rC sd y r)])
        generalize World.setCells ws42 yb 0 [iv (rF sd y r), iv (rC sd y r)] = ws43 at HB hHeld ⊢
        simp only [Act.put, A1, A2, A3]
        replace HB := Keep.mk HB.out.swap
        refine wpAnyH_done (by kernel_rfl) ?_ _
        clear hHeld
        go_wp2_with fail
        go_meet
        exact ⟨xb, yb, rfl, rfl, HB⟩
    · skip
      have S_ := HB.out.newBox #[iv 0, iv 0] 172
      obtain ⟨wa44, hwa44⟩ : ∃ W_, W0.alloc (.cells #[iv 0, iv 0] 172) = W_ := ⟨_, rfl⟩
      obtain ⟨yb, hyb⟩ : ∃ b_, W0.heap.size = b_ := ⟨_, rfl⟩
      rw [hwa44, hyb] at S_
      replace HB := Keep.mk S_
      clear S_
      go_simp
      clear hwa44 hyb
      refine hK.out _ _ HB.out.tail (fun hHeld => ?_)
      clear hK K
      refine wpAnyH_ready (rs := [4, 10]) (by kernel_rfl) (by simp) ?_
      refine AllReadyH.cons rfl (fun K hK => ?_) (AllReadyH.cons rfl (fun K hK => ?_) (AllReadyH.nil))
      · skip
        go_simp
        refine (HR.out.1 _ (HB.out.boxGet k2m)).mono ?_
        rintro e wg45 ⟨rfl, hg⟩
        replace HB := Keep.mk (HB.out.grown hg)
        refine hK.out _ _ HB.out.tail (fun hHeld => ?_)
        clear hK K hg
        refine wpAnyH_ready (rs := [9, 10]) (by kernel_rfl) (by simp) ?_
        refine AllReadyH.cons rfl (fun K hK => ?_) (AllReadyH.cons rfl (fun K hK => ?_) (AllReadyH.nil))
        · skip
          go_simp
          refine (HR.out.2 _ (HB.out.boxGet k2m)).mono ?_
          rintro e wg46 ⟨rfl, hg⟩
          replace HB := Keep.mk (HB.out.grown hg)
          refine hK.out _ _ HB.out.tail (fun hHeld => ?_)
          clear hK K hg
          refine wpAnyH_ready (rs := [10]) (by kernel_rfl) (by simp) ?_
          refine AllReadyH.cons rfl (fun K hK => ?_) AllReadyH.nil
          have S_ := HB.out.newBox #[iv 0, iv 0] 172
          obtain ⟨wa47, hwa47⟩ : ∃ W_, wg46.alloc (.cells #[iv 0, iv 0] 172) = W_ := ⟨_, rfl⟩
          obtain ⟨xb, hxb⟩ : ∃ b_, wg46.heap.size = b_ := ⟨_, rfl⟩
          rw [hwa47, hxb] at S_
          replace HB := Keep.mk S_
          clear S_
          go_simp
          clear hwa47 hxb
          refine hK.out _ _ HB.out.tail.tail (fun hHeld => ?_)
          clear hK K
          refine wpAnyH_ready (rs := [12]) (by kernel_rfl) (by simp) ?_
          refine AllReadyH.cons rfl (fun K hK => ?_) AllReadyH.nil
          rw [if_pos (show Region.wanted _ _ = true from rfl)]
          refine wp_store_mid 172 _ _ rfl xb 0 #[iv (rF sd x r), iv (rC sd x r)] rfl rfl ((HB.out.boxGet k0m).there 0 2 (Nat.le_refl _)) info86 (all_oneCell_toArray one2) ?_
          have S_ := HB.out.boxTurn ((HB.out.boxGet k0m).setCells [iv (rF sd x r), iv (rC sd x r)] 0) (gr_sets _ _ _ _)
          refine hK.out _ _ S_.tail.tail (fun hHeld => ?_)
          replace HB := Keep.mk S_
          clear hK K S_
          change Keep (Sep w0 (World.setCells wa47 xb 0 [iv (rF sd x r), iv (rC sd x r)]) _) at HB
          change Sep w0 (World.setCells wa47 xb 0 [iv (rF sd x r), iv (rC sd x r)]) _ at hHeld
          show wpAnyH _ _ _ _ _ _ _ _ (World.setCells wa47 xb 0 [iv (rF sd x r), iv (rC sd x r)])
          generalize World.setCells wa47 xb 0 [iv (rF sd x r), iv (rC sd x r)] = ws48 at HB hHeld ⊢
          simp only [Act.put, A1, A2, A3]
          refine wpAnyH_ready (rs := [13]) (by kernel_rfl) (by simp) ?_
          refine AllReadyH.cons rfl (fun K hK => ?_) AllReadyH.nil
          replace HB := Keep.mk HB.out.swap
          rw [if_pos (show Region.wanted _ _ = true from rfl)]
          refine wp_store_mid 172 _ _ rfl yb 0 #[iv (rF sd y r), iv (rC sd y r)] rfl rfl ((HB.out.boxGet k0m).there 0 2 (Nat.le_refl _)) info86 (all_oneCell_toArray one2) ?_
          have S_ := HB.out.boxTurn ((HB.out.boxGet k0m).setCells [iv (rF sd y r), iv (rC sd y r)] 0) (gr_sets _ _ _ _)
          refine hK.out _ _ S_.tail.tail (fun hHeld => ?_)
          replace HB := Keep.mk S_
          clear hK K S_
          change Keep (Sep w0 (World.setCells ws48 yb 0 [iv (rF sd y r), iv (rC sd y r)]) _) at HB
          change Sep w0 (World.setCells ws48 yb 0 [iv (rF sd y r), iv (rC sd y r)]) _ at hHeld
          show wpAnyH _ _ _ _ _ _ _ _ (World.setCells ws48 yb 0 [iv (rF sd y r), iv (rC sd y r)])
          generalize World.setCells ws48 yb 0 [iv (rF sd y r), iv (rC sd y r)] = ws49 at HB hHeld ⊢
          simp only [Act.put, A1, A2, A3]
          replace HB := Keep.mk HB.out.swap
          refine wpAnyH_done (by kernel_rfl) ?_ _
          clear hHeld
          go_wp2_with fail
          go_meet
          exact ⟨xb, yb, rfl, rfl, HB⟩
        · skip
          have S_ := HB.out.newBox #[iv 0, iv 0] 172
          obtain ⟨wa50, hwa50⟩ : ∃ W_, wg45.alloc (.cells #[iv 0, iv 0] 172) = W_ := ⟨_, rfl⟩
          obtain ⟨xb, hxb⟩ : ∃ b_, wg45.heap.size = b_ := ⟨_, rfl⟩
          rw [hwa50, hxb] at S_
          replace HB := Keep.mk S_
          clear S_
          go_simp
          clear hwa50 hxb
          refine hK.out _ _ HB.out.tail.tail (fun hHeld => ?_)
          clear hK K
          refine wpAnyH_ready (rs := [9]) (by kernel_rfl) (by simp) ?_
          refine AllReadyH.cons rfl (fun K hK => ?_) AllReadyH.nil
          go_simp
          refine (HR.out.2 _ (HB.out.boxGet k3m)).mono ?_
          rintro e wg51 ⟨rfl, hg⟩
          replace HB := Keep.mk (HB.out.grown hg)
          refine hK.out _ _ HB.out.tail.tail (fun hHeld => ?_)
          clear hK K hg
          refine wpAnyH_ready (rs := [12]) (by kernel_rfl) (by simp) ?_
          refine AllReadyH.cons rfl (fun K hK => ?_) AllReadyH.nil
          rw [if_pos (show Region.wanted _ _ = true from rfl)]
          refine wp_store_mid 172 _ _ rfl xb 0 #[iv (rF sd x r), iv (rC sd x r)] rfl rfl ((HB.out.boxGet k0m).there 0 2 (Nat.le_refl _)) info86 (all_oneCell_toArray one2) ?_
          have S_ := HB.out.boxTurn ((HB.out.boxGet k0m).setCells [iv (rF sd x r), iv (rC sd x r)] 0) (gr_sets _ _ _ _)
          refine hK.out _ _ S_.tail.tail (fun hHeld => ?_)
          replace HB := Keep.mk S_
          clear hK K S_
          change Keep (Sep w0 (World.setCells wg51 xb 0 [iv (rF sd x r), iv (rC sd x r)]) _) at HB
          change Sep w0 (World.setCells wg51 xb 0 [iv (rF sd x r), iv (rC sd x r)]) _ at hHeld
          show wpAnyH _ _ _ _ _ _ _ _ (World.setCells wg51 xb 0 [iv (rF sd x r), iv (rC sd x r)])
          generalize World.setCells wg51 xb 0 [iv (rF sd x r), iv (rC sd x r)] = ws52 at HB hHeld ⊢
          simp only [Act.put, A1, A2, A3]
          refine wpAnyH_ready (rs := [13]) (by kernel_rfl) (by simp) ?_
          refine AllReadyH.cons rfl (fun K hK => ?_) AllReadyH.nil
          replace HB := Keep.mk HB.out.swap
          rw [if_pos (show Region.wanted _ _ = true from rfl)]
          refine wp_store_mid 172 _ _ rfl yb 0 #[iv (rF sd y r), iv (rC sd y r)] rfl rfl ((HB.out.boxGet k0m).there 0 2 (Nat.le_refl _)) info86 (all_oneCell_toArray one2) ?_
          have S_ := HB.out.boxTurn ((HB.out.boxGet k0m).setCells [iv (rF sd y r), iv (rC sd y r)] 0) (gr_sets _ _ _ _)
          refine hK.out _ _ S_.tail.tail (fun hHeld => ?_)
          replace HB := Keep.mk S_
          clear hK K S_
          change Keep (Sep w0 (World.setCells ws52 yb 0 [iv (rF sd y r), iv (rC sd y r)]) _) at HB
          change Sep w0 (World.setCells ws52 yb 0 [iv (rF sd y r), iv (rC sd y r)]) _ at hHeld
          show wpAnyH _ _ _ _ _ _ _ _ (World.setCells ws52 yb 0 [iv (rF sd y r), iv (rC sd y r)])
          generalize World.setCells ws52 yb 0 [iv (rF sd y r), iv (rC sd y r)] = ws53 at HB hHeld ⊢
          simp only [Act.put, A1, A2, A3]
          replace HB := Keep.mk HB.out.swap
          refine wpAnyH_done (by kernel_rfl) ?_ _
          clear hHeld
          go_wp2_with fail
          go_meet
          exact ⟨xb, yb, rfl, rfl, HB⟩
      · skip
        have S_ := HB.out.newBox #[iv 0, iv 0] 172
        obtain ⟨wa54, hwa54⟩ : ∃ W_, wa44.alloc (.cells #[iv 0, iv 0] 172) = W_ := ⟨_, rfl⟩
        obtain ⟨xb, hxb⟩ : ∃ b_, wa44.heap.size = b_ := ⟨_, rfl⟩
        rw [hwa54, hxb] at S_
        replace HB := Keep.mk S_
        clear S_
        go_simp
        clear hwa54 hxb
        refine hK.out _ _ HB.out.tail.tail (fun hHeld => ?_)
        clear hK K
        refine wpAnyH_ready (rs := [4]) (by kernel_rfl) (by simp) ?_
        refine AllReadyH.cons rfl (fun K hK => ?_) AllReadyH.nil
        go_simp
        refine (HR.out.1 _ (HB.out.boxGet k3m)).mono ?_
        rintro e wg55 ⟨rfl, hg⟩
        replace HB := Keep.mk (HB.out.grown hg)
        refine hK.out _ _ HB.out.tail.tail (fun hHeld => ?_)
        clear hK K hg
        refine wpAnyH_ready (rs := [9]) (by kernel_rfl) (by simp) ?_
        refine AllReadyH.cons rfl (fun K hK => ?_) AllReadyH.nil
        go_simp
        refine (HR.out.2 _ (HB.out.boxGet k3m)).mono ?_
        rintro e wg56 ⟨rfl, hg⟩
        replace HB := Keep.mk (HB.out.grown hg)
        refine hK.out _ _ HB.out.tail.tail (fun hHeld => ?_)
        clear hK K hg
        refine wpAnyH_ready (rs := [12]) (by kernel_rfl) (by simp) ?_
        refine AllReadyH.cons rfl (fun K hK => ?_) AllReadyH.nil
        rw [if_pos (show Region.wanted _ _ = true from rfl)]
        refine wp_store_mid 172 _ _ rfl xb 0 #[iv (rF sd x r), iv (rC sd x r)] rfl rfl ((HB.out.boxGet k0m).there 0 2 (Nat.le_refl _)) info86 (all_oneCell_toArray one2) ?_
        have S_ := HB.out.boxTurn ((HB.out.boxGet k0m).setCells [iv (rF sd x r), iv (rC sd x r)] 0) (gr_sets _ _ _ _)
        refine hK.out _ _ S_.tail.tail (fun hHeld => ?_)
        replace HB := Keep.mk S_
        clear hK K S_
        change Keep (Sep w0 (World.setCells wg56 xb 0 [iv (rF sd x r), iv (rC sd x r)]) _) at HB
        change Sep w0 (World.setCells wg56 xb 0 [iv (rF sd x r), iv (rC sd x r)]) _ at hHeld
        show wpAnyH _ _ _ _ _ _ _ _ (World.setCells wg56 xb 0 [iv (rF sd x r), iv (rC sd x r)])
        generalize World.setCells wg56 xb 0 [iv (rF sd x r), iv (rC sd x r)] = ws57 at HB hHeld ⊢
        simp only [Act.put, A1, A2, A3]
        refine wpAnyH_ready (rs := [13]) (by kernel_rfl) (by simp) ?_
        refine AllReadyH.cons rfl (fun K hK => ?_) AllReadyH.nil
        replace HB := Keep.mk HB.out.swap
        rw [if_pos (show Region.wanted _ _ = true from rfl)]
        refine wp_store_mid 172 _ _ rfl yb 0 #[iv (rF sd y r), iv (rC sd y r)] rfl rfl ((HB.out.boxGet k0m).there 0 2 (Nat.le_refl _)) info86 (all_oneCell_toArray one2) ?_
        have S_ := HB.out.boxTurn ((HB.out.boxGet k0m).setCells [iv (rF sd y r), iv (rC sd y r)] 0) (gr_sets _ _ _ _)
        refine hK.out _ _ S_.tail.tail (fun hHeld => ?_)
        replace HB := Keep.mk S_
        clear hK K S_
        change Keep (Sep w0 (World.setCells ws57 yb 0 [iv (rF sd y r), iv (rC sd y r)]) _) at HB
        change Sep w0 (World.setCells ws57 yb 0 [iv (rF sd y r), iv (rC sd y r)]) _ at hHeld
        show wpAnyH _ _ _ _ _ _ _ _ (World.setCells ws57 yb 0 [iv (rF sd y r), iv (rC sd y r)])
        generalize World.setCells ws57 yb 0 [iv (rF sd y r), iv (rC sd y r)] = ws58 at HB hHeld ⊢
        simp only [Act.put, A1, A2, A3]
        replace HB := Keep.mk HB.out.swap
        refine wpAnyH_done (by kernel_rfl) ?_ _
        clear hHeld
        go_wp2_with fail
        go_meet
        exact ⟨xb, yb, rfl, rfl, HB⟩
  case rest =>
  obtain ⟨xb, yb, rfl, rfl, HS⟩ := hcut
  clear HB HR
  rename World => wc
  have x0 := (HS.out.boxGet k0m).cellv 0 _ rfl
  have x1 := (HS.out.boxGet k0m).cellv 1 _ rfl
  have y0 := (HS.out.boxGet k1m).cellv 0 _ rfl
  have y1 := (HS.out.boxGet k1m).cellv 1 _ rfl
  have HFW := Keep.mk (few_c wc gb A.length sd (rF sd x r) (rC sd x r) (rF sd y r) (rC sd y r) a8 k8 _ (by have := HN.out; have := HLN.out; omega) ⟨HRG.out.1.2.2.1, HRG.out.1.2.2.2.1⟩ (HS.out.boxGet k3m))
  generalize hfx : rF sd x r = fx at *
  generalize hcx : rC sd x r = cx at *
  generalize hfy : rF sd y r = fy at *
  generalize hcy : rC sd y r = cy at *
  have HEQ := Keep.mk (And.intro (And.intro hfx hcx) (And.intro hfy hcy))
  clear hfx hcx hfy hcy
  go_wp2_with fail
  refine HFW.out.mono ?_
  rintro e wd ⟨b, rfl, _, gd⟩
  replace HS := Keep.mk (HS.out.grown gd)
  clear HFW x0 x1 y0 y1 gd
  cases b
  case false =>
    have c8 := (HS.out.boxGet k3m).cellv 1 _ rfl
    have HE := Keep.mk (all_row HG.out x y r HS.out.tail.tail.tail)
    obtain ⟨wb, hwb⟩ : ∃ b, wd.heap.size = b := ⟨_, rfl⟩
    obtain ⟨W8, hW8⟩ : ∃ W8, wd.alloc (.cells #[.slice a8 A.length k8] 101) = W8 := ⟨_, rfl⟩
    rw [hwb, hW8] at HE
    clear HS
    go_wp2_with fail
    go_ret
    exact ⟨_, rfl, HE.out⟩
  case true =>
    have x0 := (HS.out.boxGet k0m).cellv 0 _ rfl
    have x1 := (HS.out.boxGet k0m).cellv 1 _ rfl
    have y0 := (HS.out.boxGet k1m).cellv 0 _ rfl
    have y1 := (HS.out.boxGet k1m).cellv 1 _ rfl
    have HBL := Keep.mk (block_c w0 wd l gb sd (.slice a8 A.length k8) mi mc A C fx cx fy cy HG.out.j.kd (by have := HG.out.j.few; have := HN.out; have := HLN.out; omega) HRG.out.1.1 HRG.out.1.2.2.2.2 HRG.out.2.1 HRG.out.2.2.2.2.2 ⟨HRG.out.1.2.2.1, HRG.out.1.2.2.2.1, HRG.out.2.2.2.1, HRG.out.2.2.2.2.1⟩ HS.out.tail.tail.tail)
    clear HS
    go_wp2_with fail
    refine HBL.out.mono ?_
    rintro e w9 ⟨v, F, rfl, hF, S9⟩
    have HE : Keep (AbR w0 w9 A x y r (gOpen gb sd (.slice a8 A.length k8) mi mc A C l) v) := ⟨⟨by
      obtain ⟨⟨e1, e2⟩, e3, e4⟩ := HEQ.out
      rw [← e1, ← e2, ← e3, ← e4] at hF
      obtain ⟨LL, h1, h2, h3, h4⟩ := abt_block HG.out.hs HG.out.j HG.out.rg HRR.out hF
      exact ⟨LL, h4, fun p hp => h3 gb _ mi mc l p hp, (by have := few_of hF.sub hF.kd; have := HG.out.j.few; omega), by rw [h1, h2]; exact S9⟩⟩⟩
    clear S9 hF HBL
    go_wp2_with fail
    go_ret
    exact ⟨_, rfl, HE.out⟩

set_option maxRecDepth 100000 in
theorem about_c (w0 W : World) (l : List As) (gb : Nat) (sd : Int) (M : List Pl) (va : Value) (mi mc : Nat) (A : List Tg) (C : List Cl) (g : Gok sd A C M) (x y r : Int) (hx : I64 x) (hy : I64 y) (hn : M.length * 24 + 24 ≤ 140737488355328)  (h : Sep w0 W (gOpen gb sd va mi mc A C l)) :
    Calls Tryz.prog 107 #[pt gb, vv x y, iv r] W fun e W' => ∃ v, e = .returned v ∧ AbR w0 W' A x y r (gOpen gb sd va mi mc A C l) v := by
  by_cases h1 : r < 0
  · exact about_neg w0 W l gb sd va mi mc A C x y r h1 h
  · by_cases h2 : 2147483647 ≤ r
    · exact about_far w0 W l gb sd M va mi mc A C g x y r h2 h
    · exact about_near w0 W l gb sd M va mi mc A C g x y r hx hy hn ⟨by omega, by omega⟩ h
end Go.Proofs.YtgedlabmndlooaaGreat
