/- CookieOwn's walk -/
import Derived.Test.YtbmnlhmelbhjeaaDoorCP0
namespace Go.Proofs.YtbmnlhmelbhjeaaDoor
open Go Go.RowKit

/-- the key behind i turns -/
def keyAt (seed : ByteArray) (cs : List ByteArray) (k : Nat) : ByteArray := ba ((secAt seed cs k).drop 8)
theorem secAt_take (seed : ByteArray) (cs : List ByteArray) : ∀ k, k < 1000 → (secAt seed cs k).take 8 = Mac.len8 (k + 1)
  | 0, _ => by rw [secAt, firstS, List.take_append_of_le_length (by rw [Mac.len8_len]; omega)]; rfl
  | k + 1, h => by
    rw [secAt, turnS, nextS, (ep_at seed cs k (by omega)).now, List.take_append_of_le_length (by rw [Mac.len8_len]; omega)]; rfl
theorem keyAt_zero (seed : ByteArray) (cs : List ByteArray) : keyAt seed cs 0 = deriveB seed cookieB [] := by
  rw [keyAt, secAt, firstS, List.drop_append_of_le_length (by rw [Mac.len8_len]; omega)]
  exact sl_ba _
theorem keyAt_succ (seed : ByteArray) (cs : List ByteArray) (k : Nat) (c : ByteArray) (hc : cs[k]? = some c) : keyAt seed cs (k + 1) = deriveB (keyAt seed cs k) turnB [c] := by
  rw [keyAt, secAt, List.getD_eq_getElem?_getD, hc, Option.getD_some, turnS, nextS, List.drop_append_of_le_length (by rw [Mac.len8_len]; omega)]
  exact sl_ba _
theorem bake_at (seed : ByteArray) (cs : List ByteArray) (k : Nat) (hk : k < 1000) (f n : ByteArray) : bakeS (secAt seed cs k) f n = deriveB (keyAt seed cs k) cookieB [f, n, ba (Mac.len8 (k + 1))] := by
  rw [bakeS, secAt_take seed cs k hk]; rfl
theorem keyAt_size (seed : ByteArray) (cs : List ByteArray) (k : Nat) (hk : k < 1000) : (keyAt seed cs k).size = 32 := by
  rw [keyAt, ba_size, List.length_drop, (ep_at seed cs k hk).ls]
def keysL (seed : ByteArray) (cs : List ByteArray) (n : Nat) : List ByteArray := (List.range n).map (keyAt seed cs)
theorem keysL_snoc (seed : ByteArray) (cs : List ByteArray) (n : Nat) : keysL seed cs n ++ [keyAt seed cs n] = keysL seed cs (n + 1) := by
  simp [keysL, List.range_succ]
theorem keysL_at (seed : ByteArray) (cs : List ByteArray) (n k : Nat) (hk : k < n) : (keysL seed cs n)[k]? = some (keyAt seed cs k) := by
  rw [keysL, List.getElem?_map, List.getElem?_range hk]; rfl
theorem own_chk (seed : ByteArray) (cs : List ByteArray) (f n c : ByteArray) (i k : Nat) (hi : i < 1000) (hk : k = i ∨ k + 1 = i) :
    chkS (secAt seed cs i) (aheadAt seed cs i) f n (k + 1) c = if c = bakeS (secAt seed cs k) f n then 0 else 101 := by
  have E := ep_at seed cs i hi
  rcases hk with rfl | rfl
  · exact E.chk_now f n c
  · exact E.chk_ahead (k + 1) rfl (by omega) f n c
theorem own_chk_no (seed : ByteArray) (cs : List ByteArray) (f n c : ByteArray) (i x : Nat) (hi : i < 1000) (hx : x = 0 ∨ (x ≠ i + 1 ∧ x ≠ i)) :
    chkS (secAt seed cs i) (aheadAt seed cs i) f n x c = 100 :=
  (ep_at seed cs i hi).chk_else x (by omega) (by omega) f n c
/-- the jar, and the row of the keys -/
structure OC (w w' : World) (b base : Nat) (seed : ByteArray) (cs : List ByteArray) (v : Value) (i nk : Nat) : Prop where
  j : JW w w' b seed cs i
  o : w'.ownsRow base 9 1 v nk ((keysL seed cs nk).map .string)
  lb : b < base
  l2 : base ≤ w'.heap.size
theorem OC.grow {w w' w2 : World} {b base : Nat} {seed : ByteArray} {cs : List ByteArray} {v : Value} {i nk : Nat} (h : OC w w' b base seed cs v i nk) (g : w'.grownBy w2 none) : OC w w2 b base seed cs v i nk :=
  ⟨h.j.grow g, h.o.kept g (by cases v.ownBlock <;> simp), h.lb, Nat.le_trans h.l2 g.size⟩
theorem OC.turned {w w' w2 : World} {b base : Nat} {seed : ByteArray} {cs : List ByteArray} {v : Value} {i nk : Nat} {c : ByteArray} (h : OC w w' b base seed cs v i nk) (hc : cs[i]? = some c) (h2 : JR w2 b (turnS (secAt seed cs i) c) (secAt seed cs i)) (g : w'.grownBy w2 (some b)) : OC w w2 b base seed cs v (i + 1) nk :=
  ⟨h.j.turned hc h2 g, h.o.kept g (by
    cases hob : v.ownBlock with
    | none => simp
    | some k => have := (h.o.lt k hob).1; have := h.lb; simp; omega), h.lb, Nat.le_trans h.l2 g.size⟩
theorem OC.app {w w' : World} {b base : Nat} {seed : ByteArray} {cs : List ByteArray} {v : Value} {i nk : Nat} (h : OC w w' b base seed cs v i nk) (hi : nk ≤ 1000) (h0 : 0 < w.heap.size) :
    ∃ a' c' w2, (Builtin.append_ #[22, 22] 22 #[v, .slice (some ⟨w'.heap.size, 0, none⟩) 1 1]).run Tryd.prog (w'.alloc (.cells #[.string (keyAt seed cs nk)] 9)) = .ok (.slice a' (nk + 1) c') w2 ∧ OC w w2 b base seed cs (.slice a' (nk + 1) c') i (nk + 1) := by
  obtain ⟨a', c', w2, r1, r2, r3⟩ := apps1 w' base v nk _ (keyAt seed cs nk) h.o hi h.l2
  rw [keysL_snoc] at r2
  refine ⟨a', c', w2, r1, ?_, r2, h.lb, Nat.le_trans h.l2 r3.size⟩
  generalize hob : v.ownBlock = ob at r3
  cases ob with
  | none => exact h.j.grow r3
  | some k =>
    have hk := (h.o.lt k hob).1
    have := h.lb; have := h.j.hb
    exact h.j.other r3 (by omega) (by omega) h0
theorem OC.key {w w' : World} {b base : Nat} {seed : ByteArray} {cs : List ByteArray} {g n cap : Nat} {i nk : Nat} (h : OC w w' b base seed cs (.slice (some ⟨g, 0, none⟩) n cap) i nk) (k : Nat) (hk : k < nk) : w'.cell? ⟨g, k, none⟩ = some (.string (keyAt seed cs k)) := by
  obtain ⟨g', cap', e, _, _, h3⟩ := own_str h.o (by omega)
  injection e with e1 e2 e3
  injection e1 with e1
  injection e1 with e1
  subst e1
  exact h3 k _ (keysL_at seed cs nk k hk)
theorem number_i (x : Nat) (xi : Int) (w : World) (hx : xi = (x : Int)) :
    Calls Tryd.prog 15 #[.int .u64 xi] w fun e w' => e = .returned (.string (ba (Mac.len8 x))) ∧ w.grownBy w' none := by
  subst hx; exact number_c x w
def zB : ByteArray := { data := #[0] }
def eB : ByteArray := { data := #[] }
theorem zB_add (c : ByteArray) (hc : c.size = 32) (W : World) : (Op.stringOp .add c zB).run Tryd.prog W = .ok (.string (c ++ zB)) W :=
  addS c zB (by have : zB.size = 1 := rfl
                omega) W
theorem rt_ne (c : ByteArray) (hc : c.size = 32) : (c.toList == eB.toList) = false := by
  rw [beqA, decide_eq_false_iff_not]
  rintro rfl
  have : eB.size = 0 := rfl
  omega

theorem rt_ne2 (c : ByteArray) (hc : c.size = 32) : ¬ c.toList = [] := fun e => by
  have := rt_ne c hc
  rw [e] at this
  simp [eB, ByteArray.toList_eq] at this

theorem rt_ne3 (c : ByteArray) (hc : c.size = 32) : c.toList.isEmpty = false := by
  have := rt_ne2 c hc
  cases h : c.toList with
  | nil => exact absurd h this
  | cons _ _ => rfl

set_option maxRecDepth 100000 in
set_option maxHeartbeats 16000000 in
theorem own_c (seed f n o q : ByteArray) (a : Option Addr) (nn c : Nat) (cs : List ByteArray) (w : World) (hk : Kc w) (hp : Strs w a nn cs) (hnc : nn ≤ c) (hac : a = none → c = 0) (hs : seed.size ≤ 2305843009213693952) (hf : f.size ≤ 9223372036854775807) (hn : n.size ≤ 9223372036854775807) (ho : o.size ≤ 9223372036854775807) (hps : ∀ (j : Nat) (p : ByteArray), cs[j]? = some p → p.size ≤ 9223372036854775807) :
    Calls Tryd.prog 6 #[.string seed, .slice a nn c, .agg #[.string f, .string n, .string o, .string q]] w fun e w' => e = .returned (.bool true) ∧ w.grownBy w' none := by
  have HK : Keep (Kc w) := ⟨hk⟩
  have h0 := hk.lt
  have HP : Keep (Strs w a nn cs) := ⟨hp⟩
  have HPS : Keep (∀ (j : Nat) (p : ByteArray), cs[j]? = some p → p.size ≤ 9223372036854775807) := ⟨hps⟩
  have HBX : Keep (Has (w.alloc (.cells #[.string f, .string n, .string o, .string q] 43)) w.heap.size [.string f, .string n, .string o, .string q] 43) := ⟨Has.newA _ _ _⟩
  have G0 : Keep (w.grownBy (w.alloc (.cells #[.string f, .string n, .string o, .string q] 43)) none) := ⟨World.grownBy_alloc _ _ _⟩
  clear hk hp hps
  go_enter Tryd.func6, Tryd.ntmps6
  go_wp2_with fail
  generalize w.alloc (.cells #[.string f, .string n, .string o, .string q] 43) = w0 at HBX G0 ⊢
  refine (alive_c _ (HK.out.kept G0.out (by simp))).mono ?_
  rintro e w1 ⟨rfl, g1⟩
  have H1 : Keep (w.grownBy w1 none ∧ Kc w1 ∧ Has w1 w.heap.size [.string f, .string n, .string o, .string q] 43) := ⟨G0.out.trans g1, HK.out.kept (G0.out.trans g1) (by simp), HBX.out.kept g1 (by simp)⟩
  clear g1 HBX G0
  go_wp2_with fail
  refine (few_c a nn c 40 _ hnc (by decide) hac).mono ?_
  rintro e w2 ⟨rfl, g2⟩
  have H2 : Keep (w.grownBy w2 none ∧ Kc w2 ∧ Has w2 w.heap.size [.string f, .string n, .string o, .string q] 43) := ⟨H1.out.1.trans g2, H1.out.2.1.kept g2 (by simp), H1.out.2.2.kept g2 (by simp)⟩
  obtain ⟨m, hm⟩ : ∃ m, m = min nn 40 := ⟨_, rfl⟩
  rw [← hm]
  have hm60 : m ≤ 40 := by omega
  have hmn : m ≤ nn := by omega
  clear g2 H1 hm
  go_wp2_with fail
  have gd := gr_drewN w2 1 none
  refine wp_region_held_drew (S := fun w' => Has w' w.heap.size [.string f, .string n, .string o, .string q] 43) (by kernel_rfl) (H2.out.2.2.kept gd (by simp)) (fun hHeld => ?_)
  change w2.grownBy w2.drew none at gd
  generalize w2.drew = w2d at gd hHeld ⊢
  have H2d : Keep (w.grownBy w2d none ∧ Kc w2d) := ⟨H2.out.1.trans gd, H2.out.2.1.kept gd (by simp)⟩
  clear H2 gd
  refine wpAnyH_take (i := 0) (oi := _) (v := ?_) rfl (by kernel_rfl) (by kernel_rfl) (by kernel_rfl) (fun _ _ _ h => h) (Or.inl ⟨by rfl, ?_⟩) (by assumption) ?_
  rotate_left
  · (intro w hSw; go_simp; first | done | (with_reducible rfl))
  simp only [Act.put, List.getElem_toArray, List.getElem_cons_zero, List.setIfInBounds_toArray, List.set_cons_zero, List.set_cons_succ]
  refine wpAnyH_take (i := 1) (oi := _) (v := ?_) rfl (by kernel_rfl) (by kernel_rfl) (by kernel_rfl) (fun _ _ _ h => h) (Or.inl ⟨by rfl, ?_⟩) (by assumption) ?_
  rotate_left
  · (intro w hSw; have x0 := hSw.cellv 0 _ rfl; have x1 := hSw.cellv 1 _ rfl; have x2 := hSw.cellv 2 _ rfl; have x3 := hSw.cellv 3 _ rfl; go_simp; first | done | (with_reducible rfl))
  simp only [Act.put, List.getElem_toArray, List.getElem_cons_succ, List.getElem_cons_zero, List.setIfInBounds_toArray, List.set_cons_zero, List.set_cons_succ]
  refine wpAnyH_take (i := 2) (oi := _) (v := ?_) rfl (by kernel_rfl) (by kernel_rfl) (by kernel_rfl) (fun _ _ _ h => h) (Or.inl ⟨by rfl, ?_⟩) (by assumption) ?_
  rotate_left
  · (intro w hSw; go_simp; first | done | (with_reducible rfl))
  simp only [Act.put, List.getElem_toArray, List.getElem_cons_succ, List.getElem_cons_zero, List.setIfInBounds_toArray, List.set_cons_zero, List.set_cons_succ]
  refine wpAnyH_take (i := 3) (oi := _) (v := ?_) rfl (by kernel_rfl) (by kernel_rfl) (by kernel_rfl) (fun _ _ _ h => h) (Or.inl ⟨by rfl, ?_⟩) (by assumption) ?_
  rotate_left
  · (intro w hSw; have x0 := hSw.cellv 0 _ rfl; have x1 := hSw.cellv 1 _ rfl; have x2 := hSw.cellv 2 _ rfl; have x3 := hSw.cellv 3 _ rfl; go_simp; first | done | (with_reducible rfl))
  simp only [Act.put, List.getElem_toArray, List.getElem_cons_succ, List.getElem_cons_zero, List.setIfInBounds_toArray, List.set_cons_zero, List.set_cons_succ]
  refine wpAnyH_take (i := 4) (oi := _) (v := ?_) rfl (by kernel_rfl) (by kernel_rfl) (by kernel_rfl) (fun _ _ _ h => h) (Or.inl ⟨by rfl, ?_⟩) (by assumption) ?_
  rotate_left
  · (intro w hSw; go_simp; first | done | (with_reducible rfl))
  simp only [Act.put, List.getElem_toArray, List.getElem_cons_succ, List.getElem_cons_zero, List.setIfInBounds_toArray, List.set_cons_zero, List.set_cons_succ]
  refine wpAnyH_take (i := 5) (oi := _) (v := ?_) rfl (by kernel_rfl) (by kernel_rfl) (by kernel_rfl) (fun _ _ _ h => h) (Or.inl ⟨by rfl, ?_⟩) (by assumption) ?_
  rotate_left
  · (intro w hSw; have x0 := hSw.cellv 0 _ rfl; have x1 := hSw.cellv 1 _ rfl; have x2 := hSw.cellv 2 _ rfl; have x3 := hSw.cellv 3 _ rfl; go_simp; first | done | (with_reducible rfl))
  simp only [Act.put, List.getElem_toArray, List.getElem_cons_succ, List.getElem_cons_zero, List.setIfInBounds_toArray, List.set_cons_zero, List.set_cons_succ]
  refine wpAnyH_take (i := 6) (oi := _) (v := ?_) rfl (by kernel_rfl) (by kernel_rfl) (by kernel_rfl) (fun _ _ _ h => h) (Or.inl ⟨by rfl, ?_⟩) (by assumption) ?_
  rotate_left
  · (intro w hSw; go_simp; first | done | (with_reducible rfl))
  simp only [Act.put, List.getElem_toArray, List.getElem_cons_succ, List.getElem_cons_zero, List.setIfInBounds_toArray, List.set_cons_zero, List.set_cons_succ]
  refine wpAnyH_take (i := 7) (oi := _) (v := ?_) rfl (by kernel_rfl) (by kernel_rfl) (by kernel_rfl) (fun _ _ _ h => h) (Or.inl ⟨by rfl, ?_⟩) (by assumption) ?_
  rotate_left
  · (intro w hSw; have x0 := hSw.cellv 0 _ rfl; have x1 := hSw.cellv 1 _ rfl; have x2 := hSw.cellv 2 _ rfl; have x3 := hSw.cellv 3 _ rfl; go_simp; first | done | (with_reducible rfl))
  simp only [Act.put, List.getElem_toArray, List.getElem_cons_succ, List.getElem_cons_zero, List.setIfInBounds_toArray, List.set_cons_zero, List.set_cons_succ]
  refine wpAnyH_ready (rs := [8]) (by kernel_rfl) (by simp) ?_
  refine AllReadyH.cons rfl (fun K hK => ?_) AllReadyH.nil
  go_simp
  go_wp2_with fail
  refine hK.out _ _ hHeld (fun hHeld => ?_)
  clear hK K
  refine wpAnyH_ready (rs := [9]) (by kernel_rfl) (by simp) ?_
  refine AllReadyH.cons rfl (fun K hK => ?_) AllReadyH.nil
  go_simp
  go_wp2_with fail
  refine hK.out _ _ hHeld (fun hHeld => ?_)
  clear hK K
  refine wpAnyH_ready (rs := [10]) (by kernel_rfl) (by simp) ?_
  refine AllReadyH.cons rfl (fun K hK => ?_) AllReadyH.nil
  go_simp
  go_wp2_with fail
  refine hK.out _ _ hHeld (fun hHeld => ?_)
  clear hK K
  refine wpAnyH_ready (rs := [11]) (by kernel_rfl) (by simp) ?_
  refine AllReadyH.cons rfl (fun K hK => ?_) AllReadyH.nil
  go_simp
  go_wp2_with fail
  refine hK.out _ _ hHeld (fun hHeld => ?_)
  clear hK K
  refine wpAnyH_done (by kernel_rfl) ?_ _
  clear hHeld
  go_wp2_with fail
  refine (new_c seed _ H2d.out.2 hs).mono ?_
  rintro e w3 ⟨b, rfl, h3, g3, hb⟩
  have HE : Keep (JW w w3 b seed cs 0 ∧ b < w3.heap.size) := ⟨⟨h3, H2d.out.1.trans g3, H2d.out.2.kept g3 (by simp), Nat.le_trans H2d.out.1.size hb, by have := H2d.out.1.size; omega⟩, h3.lt⟩
  clear h3 g3 hb H2d
  go_wp2_with fail
  refine (derive_gen seed cookieB none 0 0 [] _ HE.out.1.k (strs_nil _) hs (by decide) (by decide) (fun j p h => by simp at h)).mono ?_
  rintro e w4 ⟨rfl, g4⟩
  rw [← keyAt_zero seed cs]
  have HC : Keep (OC w (w4.alloc (.cells #[.string (keyAt seed cs 0)] 9)) b w4.heap.size seed cs (.slice (some ⟨w4.heap.size, 0, none⟩) 1 1) 0 1) := ⟨(HE.out.1.grow g4).grow (World.grownBy_alloc _ _ _), ⟨rfl, .inr ⟨_, 1, #[.string (keyAt seed cs 0)], rfl, Nat.le_refl _, Has.newA _ _ _, Nat.le_refl _, by decide, rfl, rfl⟩⟩, by have := HE.out.2; have := g4.size; omega, by rw [World.size_alloc]; omega⟩
  clear g4 HE
  generalize keyAt seed cs 0 = k0 at HC ⊢
  go_wp2_with fail
  generalize w4.alloc (.cells #[.string k0] 9) = w5 at HC ⊢
  generalize w4.heap.size = base at HC ⊢
  go_loopw [12, 13] (fun v t w' => ∃ i : Nat, i ≤ m + 1 ∧ t = .int .i64 i ∧ Keep (OC w w' b base seed cs v (min i m) (min i m + 1))) (fun _ t _ => m + 1 - (intOf t).toNat)
  case atStart => exact ⟨0, by omega, rfl, by rw [Nat.zero_min]; exact HC⟩
  case round =>
    obtain ⟨i, hi, rfl, hrel⟩ := hrel
    by_cases hli : i ≤ m
    · rw [Nat.min_eq_left hli] at hrel
      obtain ⟨g, cap, e1, hg1, hg2, _⟩ := own_str hrel.out.o (by omega)
      subst e1
      have HR := hrel
      clear hrel HC
      have hii : (i : Int) < (i : Int) + 1 := by omega
      have BI := Keep.mk (bake_at seed cs i (by omega))
      have N1 : Keep (((beN ((secAt seed cs i).take 8) : Nat) : Int) = (i : Int) + 1) := ⟨by rw [(ep_at seed cs i (by omega)).now]; omega⟩
      go_wp2_with fail
      have gg := gr_drewN wr 1 none
      refine wp_region_held_drew (S := fun w' => w'.cell? ⟨g, i, none⟩ = some (.string (keyAt seed cs i))) (by kernel_rfl) (gg.cell (HR.out.key i (by omega)) (by simp)) (fun hHeld => ?_)
      change wr.grownBy wr.drew none at gg
      generalize wr.drew = wa at gg hHeld ⊢
      have HR2 := Keep.mk (HR.out.grow gg)
      clear HR gg
      have HR := HR2
      clear HR2
      refine wpAnyH_take (i := 0) (oi := _) (v := ?_) rfl (by kernel_rfl) (by kernel_rfl) (by kernel_rfl) (fun _ _ _ h => h) (Or.inl ⟨by rfl, ?_⟩) (by assumption) ?_
      rotate_left
      · (intro w hSw; go_simp; first | done | (with_reducible rfl))
      simp only [Act.put, List.getElem_toArray, List.getElem_cons_zero, List.setIfInBounds_toArray, List.set_cons_zero, List.set_cons_succ]
      refine wpAnyH_take (i := 1) (oi := _) (v := ?_) rfl (by kernel_rfl) (by kernel_rfl) (by kernel_rfl) (fun _ _ _ h => h) (Or.inl ⟨by rfl, ?_⟩) (by assumption) ?_
      rotate_left
      · (intro w hSw; go_simp; first | done | (with_reducible rfl))
      simp only [Act.put, List.getElem_toArray, List.getElem_cons_succ, List.getElem_cons_zero, List.setIfInBounds_toArray, List.set_cons_zero, List.set_cons_succ]
      refine wpAnyH_take (i := 2) (oi := _) (v := ?_) rfl (by kernel_rfl) (by kernel_rfl) (by kernel_rfl) (fun _ _ _ h => h) (Or.inl ⟨by rfl, ?_⟩) (by assumption) ?_
      rotate_left
      · (intro w hSw; go_simp; first | done | (with_reducible rfl))
      simp only [Act.put, List.getElem_toArray, List.getElem_cons_succ, List.getElem_cons_zero, List.setIfInBounds_toArray, List.set_cons_zero, List.set_cons_succ]
      refine wpAnyH_take (i := 3) (oi := _) (v := ?_) rfl (by kernel_rfl) (by kernel_rfl) (by kernel_rfl) (fun _ _ _ h => h) (Or.inl ⟨by rfl, ?_⟩) (by assumption) ?_
      rotate_left
      · (intro w hSw; have x1 := hSw; go_simp; first | done | (with_reducible rfl))
      simp only [Act.put, List.getElem_toArray, List.getElem_cons_succ, List.getElem_cons_zero, List.setIfInBounds_toArray, List.set_cons_zero, List.set_cons_succ]
      refine wpAnyH_take (i := 4) (oi := _) (v := ?_) rfl (by kernel_rfl) (by kernel_rfl) (by kernel_rfl) (fun _ _ _ h => h) (Or.inl ⟨by rfl, ?_⟩) (by assumption) ?_
      rotate_left
      · (intro w hSw; go_simp; first | done | (with_reducible rfl))
      simp only [Act.put, List.getElem_toArray, List.getElem_cons_succ, List.getElem_cons_zero, List.setIfInBounds_toArray, List.set_cons_zero, List.set_cons_succ]
      refine wpAnyH_take (i := 5) (oi := _) (v := ?_) rfl (by kernel_rfl) (by kernel_rfl) (by kernel_rfl) (fun _ _ _ h => h) (Or.inl ⟨by rfl, ?_⟩) (by assumption) ?_
      rotate_left
      · (intro w hSw; go_simp; first | done | (with_reducible rfl))
      simp only [Act.put, List.getElem_toArray, List.getElem_cons_succ, List.getElem_cons_zero, List.setIfInBounds_toArray, List.set_cons_zero, List.set_cons_succ]
      refine wpAnyH_take (i := 6) (oi := _) (v := ?_) rfl (by kernel_rfl) (by kernel_rfl) (by kernel_rfl) (fun _ _ _ h => h) (Or.inl ⟨by rfl, ?_⟩) (by assumption) ?_
      rotate_left
      · (intro w hSw; go_simp; first | done | (with_reducible rfl))
      simp only [Act.put, List.getElem_toArray, List.getElem_cons_succ, List.getElem_cons_zero, List.setIfInBounds_toArray, List.set_cons_zero, List.set_cons_succ]
      refine wpAnyH_ready (rs := [7]) (by kernel_rfl) (by simp) ?_
      refine AllReadyH.cons rfl (fun K hK => ?_) AllReadyH.nil
      go_simp
      go_wp2_with fail
      refine (number_i (i + 1) _ _ (by omega)).mono ?_
      rintro e wb ⟨rfl, gg⟩
      refine hK.out _ _ (gg.cell hHeld (by simp)) (fun hHeld => ?_)
      clear hK K
      have HR2 := Keep.mk (HR.out.grow gg)
      clear HR gg
      have HR := HR2
      clear HR2
      refine wpAnyH_ready (rs := [8]) (by kernel_rfl) (by simp) ?_
      refine AllReadyH.cons rfl (fun K hK => ?_) AllReadyH.nil
      go_simp
      go_wp2_with fail
      have hT := strs_new wb [f, n, (ba (Mac.len8 (i + 1)))]
      change Strs (wb.alloc (.cells #[.string f, .string n, .string (ba (Mac.len8 (i + 1)))] 9)) (some ⟨wb.heap.size, 0, none⟩) 3 [f, n, (ba (Mac.len8 (i + 1)))] at hT
      have gg := World.grownBy_alloc wb (.cells #[.string f, .string n, .string (ba (Mac.len8 (i + 1)))] 9) none
      generalize wb.alloc (.cells #[.string f, .string n, .string (ba (Mac.len8 (i + 1)))] 9) = wc at hT gg ⊢
      have HT := Keep.mk hT
      clear hT
      refine hK.out _ _ (gg.cell hHeld (by simp)) (fun hHeld => ?_)
      clear hK K
      have HR2 := Keep.mk (HR.out.grow gg)
      clear HR gg
      have HR := HR2
      clear HR2
      refine wpAnyH_ready (rs := [9]) (by kernel_rfl) (by simp) ?_
      refine AllReadyH.cons rfl (fun K hK => ?_) AllReadyH.nil
      go_simp
      go_wp2_with fail
      refine (derive_gen (keyAt seed cs i) cookieB _ 3 3 [f, n, ba (Mac.len8 (i + 1))] _ HR.out.j.k HT.out (by rw [keyAt_size _ _ _ (by omega)]; decide) (by decide) (by decide) (three_le f n hf hn (i + 1))).mono ?_
      rintro e wd ⟨rfl, gg⟩
      refine hK.out _ _ (gg.cell hHeld (by simp)) (fun hHeld => ?_)
      clear hK K
      have HR2 := Keep.mk (HR.out.grow gg)
      clear HR gg HT
      have HR := HR2
      clear HR2
      rw [← BI.out f n]
      refine wpAnyH_ready (rs := [10]) (by kernel_rfl) (by simp) ?_
      refine AllReadyH.cons rfl (fun K hK => ?_) AllReadyH.nil
      go_simp
      go_wp2_with fail
      refine hK.out _ _ hHeld (fun hHeld => ?_)
      clear hK K
      refine wpAnyH_done (by kernel_rfl) ?_ _
      clear hHeld
      have hcs := bakeS_size (secAt seed cs i) f n
      generalize hck : bakeS (secAt seed cs i) f n = ck at hcs ⊢
      have HCK := Keep.mk hck
      clear hck
      have hadd := zB_add ck hcs
      go_wp2_with fail
      refine (jepoch_i b _ _ _ _ N1.out HR.out.j.j).mono ?_
      rintro e we ⟨rfl, gg⟩
      have HR2 := Keep.mk (HR.out.grow gg)
      clear HR gg
      have HR := HR2
      clear HR2
      go_wp2_with fail
      refine (jbake_i b _ _ f n ck _ HCK.out HR.out.j.j HR.out.j.k hf hn).mono ?_
      rintro e wf ⟨rfl, gg⟩
      have HR2 := Keep.mk (HR.out.grow gg)
      clear HR gg
      have HR := HR2
      clear HR2
      go_wp2_with fail
      go_loopw [16] (fun t w' => ∃ x : Nat, x ≤ i + 4 ∧ t = .int .u64 x ∧ Keep (OC w w' b base seed cs (.slice (some ⟨g, 0, none⟩) (i + 1) cap) i (i + 1))) (fun t _ => i + 4 - (intOf t).toNat)
      case atStart => exact ⟨0, by omega, rfl, HR⟩
      case round =>
        obtain ⟨x, hx, rfl, hin⟩ := hrel
        have HR := hin
        clear hin
        by_cases hlx : x ≤ i + 3
        · by_cases hval : 1 ≤ x ∧ x ≤ i + 1 ∧ i ≤ x
          · obtain ⟨kk, rfl⟩ : ∃ kk, x = kk + 1 := ⟨x - 1, by omega⟩
            have hkk : kk = i ∨ kk + 1 = i := by omega
            have hv1 : kk ≤ i := by omega
            have hik : (kk : Int) < (i : Int) + 1 := by omega
            have hwk : IntKind.u64.wrap (kk : Int) = (kk : Int) := by show (kk : Int) % 18446744073709551616 = _; omega
            have hv2 : i ≤ kk + 1 := by omega
            clear hval
            have BK := Keep.mk (bake_at seed cs kk (by omega))
            go_wp2_with fail
            have gg := gr_drewN wr 1 none
            refine wp_region_held_drew (S := fun w' => w'.cell? ⟨g, kk, none⟩ = some (.string (keyAt seed cs kk))) (by kernel_rfl) (gg.cell (HR.out.key kk (by omega)) (by simp)) (fun hHeld => ?_)
            change wr.grownBy wr.drew none at gg
            generalize wr.drew = wg at gg hHeld ⊢
            have HR2 := Keep.mk (HR.out.grow gg)
            clear HR gg
            have HR := HR2
            clear HR2
            refine wpAnyH_take (i := 0) (oi := _) (v := ?_) rfl (by kernel_rfl) (by kernel_rfl) (by kernel_rfl) (fun _ _ _ h => h) (Or.inl ⟨by rfl, ?_⟩) (by assumption) ?_
            rotate_left
            · (intro w hSw; go_simp; first | done | (with_reducible rfl))
            simp only [Act.put, List.getElem_toArray, List.getElem_cons_zero, List.setIfInBounds_toArray, List.set_cons_zero, List.set_cons_succ]
            refine wpAnyH_take (i := 1) (oi := _) (v := ?_) rfl (by kernel_rfl) (by kernel_rfl) (by kernel_rfl) (fun _ _ _ h => h) (Or.inl ⟨by rfl, ?_⟩) (by assumption) ?_
            rotate_left
            · (intro w hSw; go_simp; first | done | (with_reducible rfl))
            simp only [Act.put, List.getElem_toArray, List.getElem_cons_succ, List.getElem_cons_zero, List.setIfInBounds_toArray, List.set_cons_zero, List.set_cons_succ]
            refine wpAnyH_take (i := 2) (oi := _) (v := ?_) rfl (by kernel_rfl) (by kernel_rfl) (by kernel_rfl) (fun _ _ _ h => h) (Or.inl ⟨by rfl, ?_⟩) (by assumption) ?_
            rotate_left
            · (intro w hSw; go_simp; first | done | (with_reducible rfl))
            simp only [Act.put, List.getElem_toArray, List.getElem_cons_succ, List.getElem_cons_zero, List.setIfInBounds_toArray, List.set_cons_zero, List.set_cons_succ]
            refine wpAnyH_take (i := 3) (oi := _) (v := ?_) rfl (by kernel_rfl) (by kernel_rfl) (by kernel_rfl) (fun _ _ _ h => h) (Or.inl ⟨by rfl, ?_⟩) (by assumption) ?_
            rotate_left
            · (intro w hSw; go_simp; first | done | (with_reducible rfl))
            simp only [Act.put, List.getElem_toArray, List.getElem_cons_succ, List.getElem_cons_zero, List.setIfInBounds_toArray, List.set_cons_zero, List.set_cons_succ]
            refine wpAnyH_take (i := 4) (oi := _) (v := ?_) rfl (by kernel_rfl) (by kernel_rfl) (by kernel_rfl) (fun _ _ _ h => h) (Or.inl ⟨by rfl, ?_⟩) (by assumption) ?_
            rotate_left
            · (intro w hSw; have x1 := hSw; go_simp; first | done | (with_reducible rfl))
            simp only [Act.put, List.getElem_toArray, List.getElem_cons_succ, List.getElem_cons_zero, List.setIfInBounds_toArray, List.set_cons_zero, List.set_cons_succ]
            refine wpAnyH_take (i := 5) (oi := _) (v := ?_) rfl (by kernel_rfl) (by kernel_rfl) (by kernel_rfl) (fun _ _ _ h => h) (Or.inl ⟨by rfl, ?_⟩) (by assumption) ?_
            rotate_left
            · (intro w hSw; go_simp; first | done | (with_reducible rfl))
            simp only [Act.put, List.getElem_toArray, List.getElem_cons_succ, List.getElem_cons_zero, List.setIfInBounds_toArray, List.set_cons_zero, List.set_cons_succ]
            refine wpAnyH_take (i := 6) (oi := _) (v := ?_) rfl (by kernel_rfl) (by kernel_rfl) (by kernel_rfl) (fun _ _ _ h => h) (Or.inl ⟨by rfl, ?_⟩) (by assumption) ?_
            rotate_left
            · (intro w hSw; go_simp; first | done | (with_reducible rfl))
            simp only [Act.put, List.getElem_toArray, List.getElem_cons_succ, List.getElem_cons_zero, List.setIfInBounds_toArray, List.set_cons_zero, List.set_cons_succ]
            refine wpAnyH_take (i := 7) (oi := _) (v := ?_) rfl (by kernel_rfl) (by kernel_rfl) (by kernel_rfl) (fun _ _ _ h => h) (Or.inl ⟨by rfl, ?_⟩) (by assumption) ?_
            rotate_left
            · (intro w hSw; go_simp; first | done | (with_reducible rfl))
            simp only [Act.put, List.getElem_toArray, List.getElem_cons_succ, List.getElem_cons_zero, List.setIfInBounds_toArray, List.set_cons_zero, List.set_cons_succ]
            refine wpAnyH_ready (rs := [8]) (by kernel_rfl) (by simp) ?_
            refine AllReadyH.cons rfl (fun K hK => ?_) AllReadyH.nil
            go_simp
            go_wp2_with fail
            refine (number_i (kk + 1) _ _ (by omega)).mono ?_
            rintro e wh ⟨rfl, gg⟩
            refine hK.out _ _ (gg.cell hHeld (by simp)) (fun hHeld => ?_)
            clear hK K
            have HR2 := Keep.mk (HR.out.grow gg)
            clear HR gg
            have HR := HR2
            clear HR2
            refine wpAnyH_ready (rs := [9]) (by kernel_rfl) (by simp) ?_
            refine AllReadyH.cons rfl (fun K hK => ?_) AllReadyH.nil
            go_simp
            go_wp2_with fail
            have hT := strs_new wh [f, n, (ba (Mac.len8 (kk + 1)))]
            change Strs (wh.alloc (.cells #[.string f, .string n, .string (ba (Mac.len8 (kk + 1)))] 9)) (some ⟨wh.heap.size, 0, none⟩) 3 [f, n, (ba (Mac.len8 (kk + 1)))] at hT
            have gg := World.grownBy_alloc wh (.cells #[.string f, .string n, .string (ba (Mac.len8 (kk + 1)))] 9) none
            generalize wh.alloc (.cells #[.string f, .string n, .string (ba (Mac.len8 (kk + 1)))] 9) = wi at hT gg ⊢
            have HT := Keep.mk hT
            clear hT
            refine hK.out _ _ (gg.cell hHeld (by simp)) (fun hHeld => ?_)
            clear hK K
            have HR2 := Keep.mk (HR.out.grow gg)
            clear HR gg
            have HR := HR2
            clear HR2
            refine wpAnyH_ready (rs := [10]) (by kernel_rfl) (by simp) ?_
            refine AllReadyH.cons rfl (fun K hK => ?_) AllReadyH.nil
            go_simp
            go_wp2_with fail
            refine (derive_gen (keyAt seed cs kk) cookieB _ 3 3 [f, n, ba (Mac.len8 (kk + 1))] _ HR.out.j.k HT.out (by rw [keyAt_size _ _ _ (by omega)]; decide) (by decide) (by decide) (three_le f n hf hn (kk + 1))).mono ?_
            rintro e wj ⟨rfl, gg⟩
            refine hK.out _ _ (gg.cell hHeld (by simp)) (fun hHeld => ?_)
            clear hK K
            have HR2 := Keep.mk (HR.out.grow gg)
            clear HR gg HT
            have HR := HR2
            clear HR2
            rw [← BK.out f n]
            refine wpAnyH_ready (rs := [11]) (by kernel_rfl) (by simp) ?_
            refine AllReadyH.cons rfl (fun K hK => ?_) AllReadyH.nil
            go_simp
            go_wp2_with fail
            refine hK.out _ _ hHeld (fun hHeld => ?_)
            clear hK K
            refine wpAnyH_done (by kernel_rfl) ?_ _
            clear hHeld
            have hrs := bakeS_size (secAt seed cs kk) f n
            generalize hrt : bakeS (secAt seed cs kk) f n = rt at hrs ⊢
            have HRT := Keep.mk hrt
            clear hrt
            have hne := rt_ne rt hrs
            have hne2 := rt_ne2 rt hrs
            have hne3 := rt_ne3 rt hrs
            go_wp2_with fail
            have gg := gr_drewN wj 1 none
            refine wp_region_held_drew (S := fun w' => w'.cell? ⟨g, i, none⟩ = some (.string (keyAt seed cs i))) (by kernel_rfl) (gg.cell (HR.out.key i (by omega)) (by simp)) (fun hHeld => ?_)
            change wj.grownBy wj.drew none at gg
            generalize wj.drew = wd1 at gg hHeld ⊢
            have HR2 := Keep.mk (HR.out.grow gg)
            clear HR gg
            have HR := HR2
            clear HR2
            refine wpAnyH_take (i := 0) (oi := _) (v := ?_) rfl (by kernel_rfl) (by kernel_rfl) (by kernel_rfl) (fun _ _ _ h => h) (Or.inl ⟨by rfl, ?_⟩) (by assumption) ?_
            rotate_left
            · (intro w hSw; go_simp; first | done | (with_reducible rfl))
            simp only [Act.put, List.getElem_toArray, List.getElem_cons_zero, List.setIfInBounds_toArray, List.set_cons_zero, List.set_cons_succ]
            refine wpAnyH_take (i := 1) (oi := _) (v := ?_) rfl (by kernel_rfl) (by kernel_rfl) (by kernel_rfl) (fun _ _ _ h => h) (Or.inl ⟨by rfl, ?_⟩) (by assumption) ?_
            rotate_left
            · (intro w hSw; go_simp; first | done | (with_reducible rfl))
            simp only [Act.put, List.getElem_toArray, List.getElem_cons_succ, List.getElem_cons_zero, List.setIfInBounds_toArray, List.set_cons_zero, List.set_cons_succ]
            refine wpAnyH_take (i := 2) (oi := _) (v := ?_) rfl (by kernel_rfl) (by kernel_rfl) (by kernel_rfl) (fun _ _ _ h => h) (Or.inl ⟨by rfl, ?_⟩) (by assumption) ?_
            rotate_left
            · (intro w hSw; go_simp; first | done | (with_reducible rfl))
            simp only [Act.put, List.getElem_toArray, List.getElem_cons_succ, List.getElem_cons_zero, List.setIfInBounds_toArray, List.set_cons_zero, List.set_cons_succ]
            refine wpAnyH_take (i := 3) (oi := _) (v := ?_) rfl (by kernel_rfl) (by kernel_rfl) (by kernel_rfl) (fun _ _ _ h => h) (Or.inl ⟨by rfl, ?_⟩) (by assumption) ?_
            rotate_left
            · (intro w hSw; go_simp; first | done | (with_reducible rfl))
            simp only [Act.put, List.getElem_toArray, List.getElem_cons_succ, List.getElem_cons_zero, List.setIfInBounds_toArray, List.set_cons_zero, List.set_cons_succ]
            refine wpAnyH_take (i := 4) (oi := _) (v := ?_) rfl (by kernel_rfl) (by kernel_rfl) (by kernel_rfl) (fun _ _ _ h => h) (Or.inl ⟨by rfl, ?_⟩) (by assumption) ?_
            rotate_left
            · (intro w hSw; go_simp; first | done | (with_reducible rfl))
            simp only [Act.put, List.getElem_toArray, List.getElem_cons_succ, List.getElem_cons_zero, List.setIfInBounds_toArray, List.set_cons_zero, List.set_cons_succ]
            refine wpAnyH_take (i := 5) (oi := _) (v := ?_) rfl (by kernel_rfl) (by kernel_rfl) (by kernel_rfl) (fun _ _ _ h => h) (Or.inl ⟨by rfl, ?_⟩) (by assumption) ?_
            rotate_left
            · (intro w hSw; go_simp; first | done | (with_reducible rfl))
            simp only [Act.put, List.getElem_toArray, List.getElem_cons_succ, List.getElem_cons_zero, List.setIfInBounds_toArray, List.set_cons_zero, List.set_cons_succ]
            refine wpAnyH_take (i := 6) (oi := _) (v := ?_) rfl (by kernel_rfl) (by kernel_rfl) (by kernel_rfl) (fun _ _ _ h => h) (Or.inl ⟨by rfl, ?_⟩) (by assumption) ?_
            rotate_left
            · (intro w hSw; have x1 := hSw; go_simp; first | done | (with_reducible rfl))
            simp only [Act.put, List.getElem_toArray, List.getElem_cons_succ, List.getElem_cons_zero, List.setIfInBounds_toArray, List.set_cons_zero, List.set_cons_succ]
            refine wpAnyH_take (i := 7) (oi := _) (v := ?_) rfl (by kernel_rfl) (by kernel_rfl) (by kernel_rfl) (fun _ _ _ h => h) (Or.inl ⟨by rfl, ?_⟩) (by assumption) ?_
            rotate_left
            · (intro w hSw; go_simp; first | done | (with_reducible rfl))
            simp only [Act.put, List.getElem_toArray, List.getElem_cons_succ, List.getElem_cons_zero, List.setIfInBounds_toArray, List.set_cons_zero, List.set_cons_succ]
            refine wpAnyH_take (i := 8) (oi := _) (v := ?_) rfl (by kernel_rfl) (by kernel_rfl) (by kernel_rfl) (fun _ _ _ h => h) (Or.inl ⟨by rfl, ?_⟩) (by assumption) ?_
            rotate_left
            · (intro w hSw; go_simp; first | done | (with_reducible rfl))
            simp only [Act.put, List.getElem_toArray, List.getElem_cons_succ, List.getElem_cons_zero, List.setIfInBounds_toArray, List.set_cons_zero, List.set_cons_succ]
            refine wpAnyH_take (i := 9) (oi := _) (v := ?_) rfl (by kernel_rfl) (by kernel_rfl) (by kernel_rfl) (fun _ _ _ h => h) (Or.inl ⟨by rfl, ?_⟩) (by assumption) ?_
            rotate_left
            · (intro w hSw; go_simp; first | done | (with_reducible rfl))
            simp only [Act.put, List.getElem_toArray, List.getElem_cons_succ, List.getElem_cons_zero, List.setIfInBounds_toArray, List.set_cons_zero, List.set_cons_succ]
            refine wpAnyH_take (i := 13) (oi := _) (v := ?_) rfl (by kernel_rfl) (by kernel_rfl) (by kernel_rfl) (fun _ _ _ h => h) (Or.inl ⟨by rfl, ?_⟩) (by assumption) ?_
            rotate_left
            · (intro w hSw; go_simp; first | done | (with_reducible rfl))
            simp only [Act.put, List.getElem_toArray, List.getElem_cons_succ, List.getElem_cons_zero, List.setIfInBounds_toArray, List.set_cons_zero, List.set_cons_succ]
            refine wpAnyH_take (i := 14) (oi := _) (v := ?_) rfl (by kernel_rfl) (by kernel_rfl) (by kernel_rfl) (fun _ _ _ h => h) (Or.inl ⟨by rfl, ?_⟩) (by assumption) ?_
            rotate_left
            · (intro w hSw; go_simp; first | done | (with_reducible rfl))
            simp only [Act.put, List.getElem_toArray, List.getElem_cons_succ, List.getElem_cons_zero, List.setIfInBounds_toArray, List.set_cons_zero, List.set_cons_succ]
            refine wpAnyH_ready (rs := [10]) (by kernel_rfl) (by simp) ?_
            refine AllReadyH.cons rfl (fun K hK => ?_) AllReadyH.nil
            go_simp
            go_wp2_with fail
            refine (number_i (i + 1) _ _ (by omega)).mono ?_
            rintro e wd2 ⟨rfl, gg⟩
            refine hK.out _ _ (gg.cell hHeld (by simp)) (fun hHeld => ?_)
            clear hK K
            have HR2 := Keep.mk (HR.out.grow gg)
            clear HR gg
            have HR := HR2
            clear HR2
            refine wpAnyH_ready (rs := [11]) (by kernel_rfl) (by simp) ?_
            refine AllReadyH.cons rfl (fun K hK => ?_) AllReadyH.nil
            go_simp
            go_wp2_with fail
            have hT := strs_new wd2 [o, n, (ba (Mac.len8 (i + 1)))]
            change Strs (wd2.alloc (.cells #[.string o, .string n, .string (ba (Mac.len8 (i + 1)))] 9)) (some ⟨wd2.heap.size, 0, none⟩) 3 [o, n, (ba (Mac.len8 (i + 1)))] at hT
            have gg := World.grownBy_alloc wd2 (.cells #[.string o, .string n, .string (ba (Mac.len8 (i + 1)))] 9) none
            generalize wd2.alloc (.cells #[.string o, .string n, .string (ba (Mac.len8 (i + 1)))] 9) = wd3 at hT gg ⊢
            have HT := Keep.mk hT
            clear hT
            refine hK.out _ _ (gg.cell hHeld (by simp)) (fun hHeld => ?_)
            clear hK K
            have HR2 := Keep.mk (HR.out.grow gg)
            clear HR gg
            have HR := HR2
            clear HR2
            refine wpAnyH_ready (rs := [12]) (by kernel_rfl) (by simp) ?_
            refine AllReadyH.cons rfl (fun K hK => ?_) AllReadyH.nil
            go_simp
            go_wp2_with fail
            refine (derive_gen (keyAt seed cs i) cookieB _ 3 3 [o, n, ba (Mac.len8 (i + 1))] _ HR.out.j.k HT.out (by rw [keyAt_size _ _ _ (by omega)]; decide) (by decide) (by decide) (three_le o n ho hn (i + 1))).mono ?_
            rintro e wd4 ⟨rfl, gg⟩
            refine hK.out _ _ (gg.cell hHeld (by simp)) (fun hHeld => ?_)
            clear hK K
            have HR2 := Keep.mk (HR.out.grow gg)
            clear HR gg HT
            have HR := HR2
            clear HR2
            generalize deriveB (keyAt seed cs i) cookieB _ = od
            refine wpAnyH_ready (rs := [15]) (by kernel_rfl) (by simp) ?_
            refine AllReadyH.cons rfl (fun K hK => ?_) AllReadyH.nil
            go_simp
            go_wp2_with fail
            have hT : Has (wd4.alloc (.cells #[.string ck, .string rt, .string q, .string od, .string { data := #[] }, .string (ck ++ { data := #[0] })] 9)) wd4.heap.size ([ck, rt, q, od, eB, ck ++ zB].map .string) 9 := Has.newA _ _ _
            have gg := World.grownBy_alloc wd4 (.cells #[.string ck, .string rt, .string q, .string od, .string { data := #[] }, .string (ck ++ { data := #[0] })] 9) none
            generalize wd4.alloc (.cells #[.string ck, .string rt, .string q, .string od, .string { data := #[] }, .string (ck ++ { data := #[0] })] 9) = wd5 at hT gg ⊢
            have hTL : [ck, rt, q, od, eB, ck ++ zB].length = 6 := rfl
            generalize [ck, rt, q, od, eB, ck ++ zB] = TL at hT hTL
            generalize wd4.heap.size = T at hT ⊢
            have HT := Keep.mk hT
            clear hT
            refine hK.out _ _ (gg.cell hHeld (by simp)) (fun hHeld => ?_)
            clear hK K
            have HR2 := Keep.mk (HR.out.grow gg)
            clear HR gg
            have HR := HR2
            clear HR2
            refine wpAnyH_ready (rs := [16]) (by kernel_rfl) (by simp) ?_
            refine AllReadyH.cons rfl (fun K hK => ?_) AllReadyH.nil
            go_simp
            go_wp2_with fail
            refine hK.out _ _ hHeld (fun hHeld => ?_)
            clear hK K
            refine wpAnyH_done (by kernel_rfl) ?_ _
            clear hHeld
            go_wp2_with fail
            go_loopw [20] (fun t w' => ∃ y : Nat, y ≤ 6 ∧ t = .int .i64 y ∧ Keep (OC w w' b base seed cs (.slice (some ⟨g, 0, none⟩) (i + 1) cap) i (i + 1) ∧ Has w' T (TL.map .string) 9)) (fun t _ => 6 - (intOf t).toNat)
            case atStart => exact ⟨0, by omega, rfl, ⟨HR.out, HT.out⟩⟩
            case round =>
              obtain ⟨y, hy, rfl, hin⟩ := hrel
              by_cases hly : y < 6
              · obtain ⟨p, hp⟩ : ∃ p, TL[y]? = some p := ⟨_, List.getElem?_eq_getElem (by omega)⟩
                have hc : wr.cell? ⟨T, y, none⟩ = some (.string p) := hin.out.2.cellv y _ (by rw [List.getElem?_map, hp]; rfl)
                have HPY := Keep.mk hp
                clear hp
                by_cases hpr : p = rt
                · have hq1 : (p.toList == rt.toList) = true := by rw [beqA]; exact decide_eq_true hpr
                  have HX : Keep (chkS (secAt seed cs i) (aheadAt seed cs i) f n (kk + 1) p = 0) := ⟨by rw [own_chk seed cs f n p i kk (by omega) hkk, HRT.out, if_pos hpr]⟩
                  clear hpr
                  go_wp2_with fail
                  refine (check_i b (kk + 1) _ _ _ f n p _ _ (by omega) HX.out hin.out.1.j.j hin.out.1.j.k hf hn).mono ?_
                  rintro e w7 ⟨rfl, g7⟩
                  have H7 := Keep.mk (And.intro (hin.out.1.grow g7) (hin.out.2.kept g7 (by simp)))
                  have hc2 : w7.cell? ⟨T, y, none⟩ = some (.string p) := H7.out.2.cellv y _ (by rw [List.getElem?_map, HPY.out]; rfl)
                  clear hin g7 HX hc
                  go_wp2_with fail
                  refine ⟨⟨y + 1, by omega, by go_num, H7⟩, ?_⟩
                  simp [intOf] <;> omega
                · have hq1 : (p.toList == rt.toList) = false := by rw [beqA]; exact decide_eq_false hpr
                  have HX : Keep (chkS (secAt seed cs i) (aheadAt seed cs i) f n (kk + 1) p = 101) := ⟨by rw [own_chk seed cs f n p i kk (by omega) hkk, HRT.out, if_neg hpr]⟩
                  go_wp2_with fail
                  refine (check_i b (kk + 1) _ _ _ f n p _ _ (by omega) HX.out hin.out.1.j.j hin.out.1.j.k hf hn).mono ?_
                  rintro e w7 ⟨rfl, g7⟩
                  have H7 := Keep.mk (And.intro (hin.out.1.grow g7) (hin.out.2.kept g7 (by simp)))
                  have hc2 : w7.cell? ⟨T, y, none⟩ = some (.string p) := H7.out.2.cellv y _ (by rw [List.getElem?_map, HPY.out]; rfl)
                  clear hin g7 HX hc
                  go_wp2_with fail
                  refine ⟨⟨y + 1, by omega, by go_num, H7⟩, ?_⟩
                  simp [intOf] <;> omega
              · have HR3 := Keep.mk hin.out.1
                clear hin HR HT
                go_wp2_with fail
                refine ⟨⟨kk + 1 + 1, by omega, by go_num, HR3⟩, ?_⟩
                simp [intOf] <;> omega
          · by_cases hx0 : x = 0
            · subst hx0
              go_wp2_with fail
              have gg := gr_drewN wr 1 none
              refine wp_region_held_drew (S := fun w' => w'.cell? ⟨g, i, none⟩ = some (.string (keyAt seed cs i))) (by kernel_rfl) (gg.cell (HR.out.key i (by omega)) (by simp)) (fun hHeld => ?_)
              change wr.grownBy wr.drew none at gg
              generalize wr.drew = wd1 at gg hHeld ⊢
              have HR2 := Keep.mk (HR.out.grow gg)
              clear HR gg
              have HR := HR2
              clear HR2
              refine wpAnyH_take (i := 0) (oi := _) (v := ?_) rfl (by kernel_rfl) (by kernel_rfl) (by kernel_rfl) (fun _ _ _ h => h) (Or.inl ⟨by rfl, ?_⟩) (by assumption) ?_
              rotate_left
              · (intro w hSw; go_simp; first | done | (with_reducible rfl))
              simp only [Act.put, List.getElem_toArray, List.getElem_cons_zero, List.setIfInBounds_toArray, List.set_cons_zero, List.set_cons_succ]
              refine wpAnyH_take (i := 1) (oi := _) (v := ?_) rfl (by kernel_rfl) (by kernel_rfl) (by kernel_rfl) (fun _ _ _ h => h) (Or.inl ⟨by rfl, ?_⟩) (by assumption) ?_
              rotate_left
              · (intro w hSw; go_simp; first | done | (with_reducible rfl))
              simp only [Act.put, List.getElem_toArray, List.getElem_cons_succ, List.getElem_cons_zero, List.setIfInBounds_toArray, List.set_cons_zero, List.set_cons_succ]
              refine wpAnyH_take (i := 2) (oi := _) (v := ?_) rfl (by kernel_rfl) (by kernel_rfl) (by kernel_rfl) (fun _ _ _ h => h) (Or.inl ⟨by rfl, ?_⟩) (by assumption) ?_
              rotate_left
              · (intro w hSw; go_simp; first | done | (with_reducible rfl))
              simp only [Act.put, List.getElem_toArray, List.getElem_cons_succ, List.getElem_cons_zero, List.setIfInBounds_toArray, List.set_cons_zero, List.set_cons_succ]
              refine wpAnyH_take (i := 3) (oi := _) (v := ?_) rfl (by kernel_rfl) (by kernel_rfl) (by kernel_rfl) (fun _ _ _ h => h) (Or.inl ⟨by rfl, ?_⟩) (by assumption) ?_
              rotate_left
              · (intro w hSw; go_simp; first | done | (with_reducible rfl))
              simp only [Act.put, List.getElem_toArray, List.getElem_cons_succ, List.getElem_cons_zero, List.setIfInBounds_toArray, List.set_cons_zero, List.set_cons_succ]
              refine wpAnyH_take (i := 4) (oi := _) (v := ?_) rfl (by kernel_rfl) (by kernel_rfl) (by kernel_rfl) (fun _ _ _ h => h) (Or.inl ⟨by rfl, ?_⟩) (by assumption) ?_
              rotate_left
              · (intro w hSw; go_simp; first | done | (with_reducible rfl))
              simp only [Act.put, List.getElem_toArray, List.getElem_cons_succ, List.getElem_cons_zero, List.setIfInBounds_toArray, List.set_cons_zero, List.set_cons_succ]
              refine wpAnyH_take (i := 5) (oi := _) (v := ?_) rfl (by kernel_rfl) (by kernel_rfl) (by kernel_rfl) (fun _ _ _ h => h) (Or.inl ⟨by rfl, ?_⟩) (by assumption) ?_
              rotate_left
              · (intro w hSw; go_simp; first | done | (with_reducible rfl))
              simp only [Act.put, List.getElem_toArray, List.getElem_cons_succ, List.getElem_cons_zero, List.setIfInBounds_toArray, List.set_cons_zero, List.set_cons_succ]
              refine wpAnyH_take (i := 6) (oi := _) (v := ?_) rfl (by kernel_rfl) (by kernel_rfl) (by kernel_rfl) (fun _ _ _ h => h) (Or.inl ⟨by rfl, ?_⟩) (by assumption) ?_
              rotate_left
              · (intro w hSw; have x1 := hSw; go_simp; first | done | (with_reducible rfl))
              simp only [Act.put, List.getElem_toArray, List.getElem_cons_succ, List.getElem_cons_zero, List.setIfInBounds_toArray, List.set_cons_zero, List.set_cons_succ]
              refine wpAnyH_take (i := 7) (oi := _) (v := ?_) rfl (by kernel_rfl) (by kernel_rfl) (by kernel_rfl) (fun _ _ _ h => h) (Or.inl ⟨by rfl, ?_⟩) (by assumption) ?_
              rotate_left
              · (intro w hSw; go_simp; first | done | (with_reducible rfl))
              simp only [Act.put, List.getElem_toArray, List.getElem_cons_succ, List.getElem_cons_zero, List.setIfInBounds_toArray, List.set_cons_zero, List.set_cons_succ]
              refine wpAnyH_take (i := 8) (oi := _) (v := ?_) rfl (by kernel_rfl) (by kernel_rfl) (by kernel_rfl) (fun _ _ _ h => h) (Or.inl ⟨by rfl, ?_⟩) (by assumption) ?_
              rotate_left
              · (intro w hSw; go_simp; first | done | (with_reducible rfl))
              simp only [Act.put, List.getElem_toArray, List.getElem_cons_succ, List.getElem_cons_zero, List.setIfInBounds_toArray, List.set_cons_zero, List.set_cons_succ]
              refine wpAnyH_take (i := 9) (oi := _) (v := ?_) rfl (by kernel_rfl) (by kernel_rfl) (by kernel_rfl) (fun _ _ _ h => h) (Or.inl ⟨by rfl, ?_⟩) (by assumption) ?_
              rotate_left
              · (intro w hSw; go_simp; first | done | (with_reducible rfl))
              simp only [Act.put, List.getElem_toArray, List.getElem_cons_succ, List.getElem_cons_zero, List.setIfInBounds_toArray, List.set_cons_zero, List.set_cons_succ]
              refine wpAnyH_take (i := 13) (oi := _) (v := ?_) rfl (by kernel_rfl) (by kernel_rfl) (by kernel_rfl) (fun _ _ _ h => h) (Or.inl ⟨by rfl, ?_⟩) (by assumption) ?_
              rotate_left
              · (intro w hSw; go_simp; first | done | (with_reducible rfl))
              simp only [Act.put, List.getElem_toArray, List.getElem_cons_succ, List.getElem_cons_zero, List.setIfInBounds_toArray, List.set_cons_zero, List.set_cons_succ]
              refine wpAnyH_take (i := 14) (oi := _) (v := ?_) rfl (by kernel_rfl) (by kernel_rfl) (by kernel_rfl) (fun _ _ _ h => h) (Or.inl ⟨by rfl, ?_⟩) (by assumption) ?_
              rotate_left
              · (intro w hSw; go_simp; first | done | (with_reducible rfl))
              simp only [Act.put, List.getElem_toArray, List.getElem_cons_succ, List.getElem_cons_zero, List.setIfInBounds_toArray, List.set_cons_zero, List.set_cons_succ]
              refine wpAnyH_ready (rs := [10]) (by kernel_rfl) (by simp) ?_
              refine AllReadyH.cons rfl (fun K hK => ?_) AllReadyH.nil
              go_simp
              go_wp2_with fail
              refine (number_i (i + 1) _ _ (by omega)).mono ?_
              rintro e wd2 ⟨rfl, gg⟩
              refine hK.out _ _ (gg.cell hHeld (by simp)) (fun hHeld => ?_)
              clear hK K
              have HR2 := Keep.mk (HR.out.grow gg)
              clear HR gg
              have HR := HR2
              clear HR2
              refine wpAnyH_ready (rs := [11]) (by kernel_rfl) (by simp) ?_
              refine AllReadyH.cons rfl (fun K hK => ?_) AllReadyH.nil
              go_simp
              go_wp2_with fail
              have hT := strs_new wd2 [o, n, (ba (Mac.len8 (i + 1)))]
              change Strs (wd2.alloc (.cells #[.string o, .string n, .string (ba (Mac.len8 (i + 1)))] 9)) (some ⟨wd2.heap.size, 0, none⟩) 3 [o, n, (ba (Mac.len8 (i + 1)))] at hT
              have gg := World.grownBy_alloc wd2 (.cells #[.string o, .string n, .string (ba (Mac.len8 (i + 1)))] 9) none
              generalize wd2.alloc (.cells #[.string o, .string n, .string (ba (Mac.len8 (i + 1)))] 9) = wd3 at hT gg ⊢
              have HT := Keep.mk hT
              clear hT
              refine hK.out _ _ (gg.cell hHeld (by simp)) (fun hHeld => ?_)
              clear hK K
              have HR2 := Keep.mk (HR.out.grow gg)
              clear HR gg
              have HR := HR2
              clear HR2
              refine wpAnyH_ready (rs := [12]) (by kernel_rfl) (by simp) ?_
              refine AllReadyH.cons rfl (fun K hK => ?_) AllReadyH.nil
              go_simp
              go_wp2_with fail
              refine (derive_gen (keyAt seed cs i) cookieB _ 3 3 [o, n, ba (Mac.len8 (i + 1))] _ HR.out.j.k HT.out (by rw [keyAt_size _ _ _ (by omega)]; decide) (by decide) (by decide) (three_le o n ho hn (i + 1))).mono ?_
              rintro e wd4 ⟨rfl, gg⟩
              refine hK.out _ _ (gg.cell hHeld (by simp)) (fun hHeld => ?_)
              clear hK K
              have HR2 := Keep.mk (HR.out.grow gg)
              clear HR gg HT
              have HR := HR2
              clear HR2
              generalize deriveB (keyAt seed cs i) cookieB _ = od
              refine wpAnyH_ready (rs := [15]) (by kernel_rfl) (by simp) ?_
              refine AllReadyH.cons rfl (fun K hK => ?_) AllReadyH.nil
              go_simp
              go_wp2_with fail
              have hT : Has (wd4.alloc (.cells #[.string ck, .string { data := #[] }, .string q, .string od, .string { data := #[] }, .string (ck ++ { data := #[0] })] 9)) wd4.heap.size ([ck, eB, q, od, eB, ck ++ zB].map .string) 9 := Has.newA _ _ _
              have gg := World.grownBy_alloc wd4 (.cells #[.string ck, .string { data := #[] }, .string q, .string od, .string { data := #[] }, .string (ck ++ { data := #[0] })] 9) none
              generalize wd4.alloc (.cells #[.string ck, .string { data := #[] }, .string q, .string od, .string { data := #[] }, .string (ck ++ { data := #[0] })] 9) = wd5 at hT gg ⊢
              have hTL : [ck, eB, q, od, eB, ck ++ zB].length = 6 := rfl
              generalize [ck, eB, q, od, eB, ck ++ zB] = TL at hT hTL
              generalize wd4.heap.size = T at hT ⊢
              have HT := Keep.mk hT
              clear hT
              refine hK.out _ _ (gg.cell hHeld (by simp)) (fun hHeld => ?_)
              clear hK K
              have HR2 := Keep.mk (HR.out.grow gg)
              clear HR gg
              have HR := HR2
              clear HR2
              refine wpAnyH_ready (rs := [16]) (by kernel_rfl) (by simp) ?_
              refine AllReadyH.cons rfl (fun K hK => ?_) AllReadyH.nil
              go_simp
              go_wp2_with fail
              refine hK.out _ _ hHeld (fun hHeld => ?_)
              clear hK K
              refine wpAnyH_done (by kernel_rfl) ?_ _
              clear hHeld
              go_wp2_with fail
              go_loopw [20] (fun t w' => ∃ y : Nat, y ≤ 6 ∧ t = .int .i64 y ∧ Keep (OC w w' b base seed cs (.slice (some ⟨g, 0, none⟩) (i + 1) cap) i (i + 1) ∧ Has w' T (TL.map .string) 9)) (fun t _ => 6 - (intOf t).toNat)
              case atStart => exact ⟨0, by omega, rfl, ⟨HR.out, HT.out⟩⟩
              case round =>
                obtain ⟨y, hy, rfl, hin⟩ := hrel
                by_cases hly : y < 6
                · obtain ⟨p, hp⟩ : ∃ p, TL[y]? = some p := ⟨_, List.getElem?_eq_getElem (by omega)⟩
                  have hc : wr.cell? ⟨T, y, none⟩ = some (.string p) := hin.out.2.cellv y _ (by rw [List.getElem?_map, hp]; rfl)
                  have HPY := Keep.mk hp
                  clear hp
                  have HX : Keep (chkS (secAt seed cs i) (aheadAt seed cs i) f n (0) p = 100) := ⟨own_chk_no seed cs f n p i 0 (by omega) (by omega)⟩
                  go_wp2_with fail
                  refine (check_i b (0) _ _ _ f n p _ _ (by omega) HX.out hin.out.1.j.j hin.out.1.j.k hf hn).mono ?_
                  rintro e w7 ⟨rfl, g7⟩
                  have H7 := Keep.mk (And.intro (hin.out.1.grow g7) (hin.out.2.kept g7 (by simp)))
                  have hc2 : w7.cell? ⟨T, y, none⟩ = some (.string p) := H7.out.2.cellv y _ (by rw [List.getElem?_map, HPY.out]; rfl)
                  clear hin g7 HX hc
                  go_wp2_with fail
                  refine ⟨⟨y + 1, by omega, by go_num, H7⟩, ?_⟩
                  simp [intOf] <;> omega
                · have HR3 := Keep.mk hin.out.1
                  clear hin HR HT
                  go_wp2_with fail
                  refine ⟨⟨0 + 1, by omega, by go_num, HR3⟩, ?_⟩
                  simp [intOf] <;> omega
            · by_cases hx1 : x ≤ i + 1
              · have hx2 : x < i := by omega
                clear hval
                go_wp2_with fail
                have gg := gr_drewN wr 1 none
                refine wp_region_held_drew (S := fun w' => w'.cell? ⟨g, i, none⟩ = some (.string (keyAt seed cs i))) (by kernel_rfl) (gg.cell (HR.out.key i (by omega)) (by simp)) (fun hHeld => ?_)
                change wr.grownBy wr.drew none at gg
                generalize wr.drew = wd1 at gg hHeld ⊢
                have HR2 := Keep.mk (HR.out.grow gg)
                clear HR gg
                have HR := HR2
                clear HR2
                refine wpAnyH_take (i := 0) (oi := _) (v := ?_) rfl (by kernel_rfl) (by kernel_rfl) (by kernel_rfl) (fun _ _ _ h => h) (Or.inl ⟨by rfl, ?_⟩) (by assumption) ?_
                rotate_left
                · (intro w hSw; go_simp; first | done | (with_reducible rfl))
                simp only [Act.put, List.getElem_toArray, List.getElem_cons_zero, List.setIfInBounds_toArray, List.set_cons_zero, List.set_cons_succ]
                refine wpAnyH_take (i := 1) (oi := _) (v := ?_) rfl (by kernel_rfl) (by kernel_rfl) (by kernel_rfl) (fun _ _ _ h => h) (Or.inl ⟨by rfl, ?_⟩) (by assumption) ?_
                rotate_left
                · (intro w hSw; go_simp; first | done | (with_reducible rfl))
                simp only [Act.put, List.getElem_toArray, List.getElem_cons_succ, List.getElem_cons_zero, List.setIfInBounds_toArray, List.set_cons_zero, List.set_cons_succ]
                refine wpAnyH_take (i := 2) (oi := _) (v := ?_) rfl (by kernel_rfl) (by kernel_rfl) (by kernel_rfl) (fun _ _ _ h => h) (Or.inl ⟨by rfl, ?_⟩) (by assumption) ?_
                rotate_left
                · (intro w hSw; go_simp; first | done | (with_reducible rfl))
                simp only [Act.put, List.getElem_toArray, List.getElem_cons_succ, List.getElem_cons_zero, List.setIfInBounds_toArray, List.set_cons_zero, List.set_cons_succ]
                refine wpAnyH_take (i := 3) (oi := _) (v := ?_) rfl (by kernel_rfl) (by kernel_rfl) (by kernel_rfl) (fun _ _ _ h => h) (Or.inl ⟨by rfl, ?_⟩) (by assumption) ?_
                rotate_left
                · (intro w hSw; go_simp; first | done | (with_reducible rfl))
                simp only [Act.put, List.getElem_toArray, List.getElem_cons_succ, List.getElem_cons_zero, List.setIfInBounds_toArray, List.set_cons_zero, List.set_cons_succ]
                refine wpAnyH_take (i := 4) (oi := _) (v := ?_) rfl (by kernel_rfl) (by kernel_rfl) (by kernel_rfl) (fun _ _ _ h => h) (Or.inl ⟨by rfl, ?_⟩) (by assumption) ?_
                rotate_left
                · (intro w hSw; go_simp; first | done | (with_reducible rfl))
                simp only [Act.put, List.getElem_toArray, List.getElem_cons_succ, List.getElem_cons_zero, List.setIfInBounds_toArray, List.set_cons_zero, List.set_cons_succ]
                refine wpAnyH_take (i := 5) (oi := _) (v := ?_) rfl (by kernel_rfl) (by kernel_rfl) (by kernel_rfl) (fun _ _ _ h => h) (Or.inl ⟨by rfl, ?_⟩) (by assumption) ?_
                rotate_left
                · (intro w hSw; go_simp; first | done | (with_reducible rfl))
                simp only [Act.put, List.getElem_toArray, List.getElem_cons_succ, List.getElem_cons_zero, List.setIfInBounds_toArray, List.set_cons_zero, List.set_cons_succ]
                refine wpAnyH_take (i := 6) (oi := _) (v := ?_) rfl (by kernel_rfl) (by kernel_rfl) (by kernel_rfl) (fun _ _ _ h => h) (Or.inl ⟨by rfl, ?_⟩) (by assumption) ?_
                rotate_left
                · (intro w hSw; have x1 := hSw; go_simp; first | done | (with_reducible rfl))
                simp only [Act.put, List.getElem_toArray, List.getElem_cons_succ, List.getElem_cons_zero, List.setIfInBounds_toArray, List.set_cons_zero, List.set_cons_succ]
                refine wpAnyH_take (i := 7) (oi := _) (v := ?_) rfl (by kernel_rfl) (by kernel_rfl) (by kernel_rfl) (fun _ _ _ h => h) (Or.inl ⟨by rfl, ?_⟩) (by assumption) ?_
                rotate_left
                · (intro w hSw; go_simp; first | done | (with_reducible rfl))
                simp only [Act.put, List.getElem_toArray, List.getElem_cons_succ, List.getElem_cons_zero, List.setIfInBounds_toArray, List.set_cons_zero, List.set_cons_succ]
                refine wpAnyH_take (i := 8) (oi := _) (v := ?_) rfl (by kernel_rfl) (by kernel_rfl) (by kernel_rfl) (fun _ _ _ h => h) (Or.inl ⟨by rfl, ?_⟩) (by assumption) ?_
                rotate_left
                · (intro w hSw; go_simp; first | done | (with_reducible rfl))
                simp only [Act.put, List.getElem_toArray, List.getElem_cons_succ, List.getElem_cons_zero, List.setIfInBounds_toArray, List.set_cons_zero, List.set_cons_succ]
                refine wpAnyH_take (i := 9) (oi := _) (v := ?_) rfl (by kernel_rfl) (by kernel_rfl) (by kernel_rfl) (fun _ _ _ h => h) (Or.inl ⟨by rfl, ?_⟩) (by assumption) ?_
                rotate_left
                · (intro w hSw; go_simp; first | done | (with_reducible rfl))
                simp only [Act.put, List.getElem_toArray, List.getElem_cons_succ, List.getElem_cons_zero, List.setIfInBounds_toArray, List.set_cons_zero, List.set_cons_succ]
                refine wpAnyH_take (i := 13) (oi := _) (v := ?_) rfl (by kernel_rfl) (by kernel_rfl) (by kernel_rfl) (fun _ _ _ h => h) (Or.inl ⟨by rfl, ?_⟩) (by assumption) ?_
                rotate_left
                · (intro w hSw; go_simp; first | done | (with_reducible rfl))
                simp only [Act.put, List.getElem_toArray, List.getElem_cons_succ, List.getElem_cons_zero, List.setIfInBounds_toArray, List.set_cons_zero, List.set_cons_succ]
                refine wpAnyH_take (i := 14) (oi := _) (v := ?_) rfl (by kernel_rfl) (by kernel_rfl) (by kernel_rfl) (fun _ _ _ h => h) (Or.inl ⟨by rfl, ?_⟩) (by assumption) ?_
                rotate_left
                · (intro w hSw; go_simp; first | done | (with_reducible rfl))
                simp only [Act.put, List.getElem_toArray, List.getElem_cons_succ, List.getElem_cons_zero, List.setIfInBounds_toArray, List.set_cons_zero, List.set_cons_succ]
                refine wpAnyH_ready (rs := [10]) (by kernel_rfl) (by simp) ?_
                refine AllReadyH.cons rfl (fun K hK => ?_) AllReadyH.nil
                go_simp
                go_wp2_with fail
                refine (number_i (i + 1) _ _ (by omega)).mono ?_
                rintro e wd2 ⟨rfl, gg⟩
                refine hK.out _ _ (gg.cell hHeld (by simp)) (fun hHeld => ?_)
                clear hK K
                have HR2 := Keep.mk (HR.out.grow gg)
                clear HR gg
                have HR := HR2
                clear HR2
                refine wpAnyH_ready (rs := [11]) (by kernel_rfl) (by simp) ?_
                refine AllReadyH.cons rfl (fun K hK => ?_) AllReadyH.nil
                go_simp
                go_wp2_with fail
                have hT := strs_new wd2 [o, n, (ba (Mac.len8 (i + 1)))]
                change Strs (wd2.alloc (.cells #[.string o, .string n, .string (ba (Mac.len8 (i + 1)))] 9)) (some ⟨wd2.heap.size, 0, none⟩) 3 [o, n, (ba (Mac.len8 (i + 1)))] at hT
                have gg := World.grownBy_alloc wd2 (.cells #[.string o, .string n, .string (ba (Mac.len8 (i + 1)))] 9) none
                generalize wd2.alloc (.cells #[.string o, .string n, .string (ba (Mac.len8 (i + 1)))] 9) = wd3 at hT gg ⊢
                have HT := Keep.mk hT
                clear hT
                refine hK.out _ _ (gg.cell hHeld (by simp)) (fun hHeld => ?_)
                clear hK K
                have HR2 := Keep.mk (HR.out.grow gg)
                clear HR gg
                have HR := HR2
                clear HR2
                refine wpAnyH_ready (rs := [12]) (by kernel_rfl) (by simp) ?_
                refine AllReadyH.cons rfl (fun K hK => ?_) AllReadyH.nil
                go_simp
                go_wp2_with fail
                refine (derive_gen (keyAt seed cs i) cookieB _ 3 3 [o, n, ba (Mac.len8 (i + 1))] _ HR.out.j.k HT.out (by rw [keyAt_size _ _ _ (by omega)]; decide) (by decide) (by decide) (three_le o n ho hn (i + 1))).mono ?_
                rintro e wd4 ⟨rfl, gg⟩
                refine hK.out _ _ (gg.cell hHeld (by simp)) (fun hHeld => ?_)
                clear hK K
                have HR2 := Keep.mk (HR.out.grow gg)
                clear HR gg HT
                have HR := HR2
                clear HR2
                generalize deriveB (keyAt seed cs i) cookieB _ = od
                refine wpAnyH_ready (rs := [15]) (by kernel_rfl) (by simp) ?_
                refine AllReadyH.cons rfl (fun K hK => ?_) AllReadyH.nil
                go_simp
                go_wp2_with fail
                have hT : Has (wd4.alloc (.cells #[.string ck, .string { data := #[] }, .string q, .string od, .string { data := #[] }, .string (ck ++ { data := #[0] })] 9)) wd4.heap.size ([ck, eB, q, od, eB, ck ++ zB].map .string) 9 := Has.newA _ _ _
                have gg := World.grownBy_alloc wd4 (.cells #[.string ck, .string { data := #[] }, .string q, .string od, .string { data := #[] }, .string (ck ++ { data := #[0] })] 9) none
                generalize wd4.alloc (.cells #[.string ck, .string { data := #[] }, .string q, .string od, .string { data := #[] }, .string (ck ++ { data := #[0] })] 9) = wd5 at hT gg ⊢
                have hTL : [ck, eB, q, od, eB, ck ++ zB].length = 6 := rfl
                generalize [ck, eB, q, od, eB, ck ++ zB] = TL at hT hTL
                generalize wd4.heap.size = T at hT ⊢
                have HT := Keep.mk hT
                clear hT
                refine hK.out _ _ (gg.cell hHeld (by simp)) (fun hHeld => ?_)
                clear hK K
                have HR2 := Keep.mk (HR.out.grow gg)
                clear HR gg
                have HR := HR2
                clear HR2
                refine wpAnyH_ready (rs := [16]) (by kernel_rfl) (by simp) ?_
                refine AllReadyH.cons rfl (fun K hK => ?_) AllReadyH.nil
                go_simp
                go_wp2_with fail
                refine hK.out _ _ hHeld (fun hHeld => ?_)
                clear hK K
                refine wpAnyH_done (by kernel_rfl) ?_ _
                clear hHeld
                go_wp2_with fail
                go_loopw [20] (fun t w' => ∃ y : Nat, y ≤ 6 ∧ t = .int .i64 y ∧ Keep (OC w w' b base seed cs (.slice (some ⟨g, 0, none⟩) (i + 1) cap) i (i + 1) ∧ Has w' T (TL.map .string) 9)) (fun t _ => 6 - (intOf t).toNat)
                case atStart => exact ⟨0, by omega, rfl, ⟨HR.out, HT.out⟩⟩
                case round =>
                  obtain ⟨y, hy, rfl, hin⟩ := hrel
                  by_cases hly : y < 6
                  · obtain ⟨p, hp⟩ : ∃ p, TL[y]? = some p := ⟨_, List.getElem?_eq_getElem (by omega)⟩
                    have hc : wr.cell? ⟨T, y, none⟩ = some (.string p) := hin.out.2.cellv y _ (by rw [List.getElem?_map, hp]; rfl)
                    have HPY := Keep.mk hp
                    clear hp
                    have HX : Keep (chkS (secAt seed cs i) (aheadAt seed cs i) f n (x) p = 100) := ⟨own_chk_no seed cs f n p i x (by omega) (by omega)⟩
                    go_wp2_with fail
                    refine (check_i b (x) _ _ _ f n p _ _ (by omega) HX.out hin.out.1.j.j hin.out.1.j.k hf hn).mono ?_
                    rintro e w7 ⟨rfl, g7⟩
                    have H7 := Keep.mk (And.intro (hin.out.1.grow g7) (hin.out.2.kept g7 (by simp)))
                    have hc2 : w7.cell? ⟨T, y, none⟩ = some (.string p) := H7.out.2.cellv y _ (by rw [List.getElem?_map, HPY.out]; rfl)
                    clear hin g7 HX hc
                    go_wp2_with fail
                    refine ⟨⟨y + 1, by omega, by go_num, H7⟩, ?_⟩
                    simp [intOf] <;> omega
                  · have HR3 := Keep.mk hin.out.1
                    clear hin HR HT
                    go_wp2_with fail
                    refine ⟨⟨x + 1, by omega, by go_num, HR3⟩, ?_⟩
                    simp [intOf] <;> omega
              · clear hval
                go_wp2_with fail
                have gg := gr_drewN wr 1 none
                refine wp_region_held_drew (S := fun w' => w'.cell? ⟨g, i, none⟩ = some (.string (keyAt seed cs i))) (by kernel_rfl) (gg.cell (HR.out.key i (by omega)) (by simp)) (fun hHeld => ?_)
                change wr.grownBy wr.drew none at gg
                generalize wr.drew = wd1 at gg hHeld ⊢
                have HR2 := Keep.mk (HR.out.grow gg)
                clear HR gg
                have HR := HR2
                clear HR2
                refine wpAnyH_take (i := 0) (oi := _) (v := ?_) rfl (by kernel_rfl) (by kernel_rfl) (by kernel_rfl) (fun _ _ _ h => h) (Or.inl ⟨by rfl, ?_⟩) (by assumption) ?_
                rotate_left
                · (intro w hSw; go_simp; first | done | (with_reducible rfl))
                simp only [Act.put, List.getElem_toArray, List.getElem_cons_zero, List.setIfInBounds_toArray, List.set_cons_zero, List.set_cons_succ]
                refine wpAnyH_take (i := 1) (oi := _) (v := ?_) rfl (by kernel_rfl) (by kernel_rfl) (by kernel_rfl) (fun _ _ _ h => h) (Or.inl ⟨by rfl, ?_⟩) (by assumption) ?_
                rotate_left
                · (intro w hSw; go_simp; first | done | (with_reducible rfl))
                simp only [Act.put, List.getElem_toArray, List.getElem_cons_succ, List.getElem_cons_zero, List.setIfInBounds_toArray, List.set_cons_zero, List.set_cons_succ]
                refine wpAnyH_take (i := 2) (oi := _) (v := ?_) rfl (by kernel_rfl) (by kernel_rfl) (by kernel_rfl) (fun _ _ _ h => h) (Or.inl ⟨by rfl, ?_⟩) (by assumption) ?_
                rotate_left
                · (intro w hSw; go_simp; first | done | (with_reducible rfl))
                simp only [Act.put, List.getElem_toArray, List.getElem_cons_succ, List.getElem_cons_zero, List.setIfInBounds_toArray, List.set_cons_zero, List.set_cons_succ]
                refine wpAnyH_take (i := 3) (oi := _) (v := ?_) rfl (by kernel_rfl) (by kernel_rfl) (by kernel_rfl) (fun _ _ _ h => h) (Or.inl ⟨by rfl, ?_⟩) (by assumption) ?_
                rotate_left
                · (intro w hSw; go_simp; first | done | (with_reducible rfl))
                simp only [Act.put, List.getElem_toArray, List.getElem_cons_succ, List.getElem_cons_zero, List.setIfInBounds_toArray, List.set_cons_zero, List.set_cons_succ]
                refine wpAnyH_take (i := 4) (oi := _) (v := ?_) rfl (by kernel_rfl) (by kernel_rfl) (by kernel_rfl) (fun _ _ _ h => h) (Or.inl ⟨by rfl, ?_⟩) (by assumption) ?_
                rotate_left
                · (intro w hSw; go_simp; first | done | (with_reducible rfl))
                simp only [Act.put, List.getElem_toArray, List.getElem_cons_succ, List.getElem_cons_zero, List.setIfInBounds_toArray, List.set_cons_zero, List.set_cons_succ]
                refine wpAnyH_take (i := 5) (oi := _) (v := ?_) rfl (by kernel_rfl) (by kernel_rfl) (by kernel_rfl) (fun _ _ _ h => h) (Or.inl ⟨by rfl, ?_⟩) (by assumption) ?_
                rotate_left
                · (intro w hSw; go_simp; first | done | (with_reducible rfl))
                simp only [Act.put, List.getElem_toArray, List.getElem_cons_succ, List.getElem_cons_zero, List.setIfInBounds_toArray, List.set_cons_zero, List.set_cons_succ]
                refine wpAnyH_take (i := 6) (oi := _) (v := ?_) rfl (by kernel_rfl) (by kernel_rfl) (by kernel_rfl) (fun _ _ _ h => h) (Or.inl ⟨by rfl, ?_⟩) (by assumption) ?_
                rotate_left
                · (intro w hSw; have x1 := hSw; go_simp; first | done | (with_reducible rfl))
                simp only [Act.put, List.getElem_toArray, List.getElem_cons_succ, List.getElem_cons_zero, List.setIfInBounds_toArray, List.set_cons_zero, List.set_cons_succ]
                refine wpAnyH_take (i := 7) (oi := _) (v := ?_) rfl (by kernel_rfl) (by kernel_rfl) (by kernel_rfl) (fun _ _ _ h => h) (Or.inl ⟨by rfl, ?_⟩) (by assumption) ?_
                rotate_left
                · (intro w hSw; go_simp; first | done | (with_reducible rfl))
                simp only [Act.put, List.getElem_toArray, List.getElem_cons_succ, List.getElem_cons_zero, List.setIfInBounds_toArray, List.set_cons_zero, List.set_cons_succ]
                refine wpAnyH_take (i := 8) (oi := _) (v := ?_) rfl (by kernel_rfl) (by kernel_rfl) (by kernel_rfl) (fun _ _ _ h => h) (Or.inl ⟨by rfl, ?_⟩) (by assumption) ?_
                rotate_left
                · (intro w hSw; go_simp; first | done | (with_reducible rfl))
                simp only [Act.put, List.getElem_toArray, List.getElem_cons_succ, List.getElem_cons_zero, List.setIfInBounds_toArray, List.set_cons_zero, List.set_cons_succ]
                refine wpAnyH_take (i := 9) (oi := _) (v := ?_) rfl (by kernel_rfl) (by kernel_rfl) (by kernel_rfl) (fun _ _ _ h => h) (Or.inl ⟨by rfl, ?_⟩) (by assumption) ?_
                rotate_left
                · (intro w hSw; go_simp; first | done | (with_reducible rfl))
                simp only [Act.put, List.getElem_toArray, List.getElem_cons_succ, List.getElem_cons_zero, List.setIfInBounds_toArray, List.set_cons_zero, List.set_cons_succ]
                refine wpAnyH_take (i := 13) (oi := _) (v := ?_) rfl (by kernel_rfl) (by kernel_rfl) (by kernel_rfl) (fun _ _ _ h => h) (Or.inl ⟨by rfl, ?_⟩) (by assumption) ?_
                rotate_left
                · (intro w hSw; go_simp; first | done | (with_reducible rfl))
                simp only [Act.put, List.getElem_toArray, List.getElem_cons_succ, List.getElem_cons_zero, List.setIfInBounds_toArray, List.set_cons_zero, List.set_cons_succ]
                refine wpAnyH_take (i := 14) (oi := _) (v := ?_) rfl (by kernel_rfl) (by kernel_rfl) (by kernel_rfl) (fun _ _ _ h => h) (Or.inl ⟨by rfl, ?_⟩) (by assumption) ?_
                rotate_left
                · (intro w hSw; go_simp; first | done | (with_reducible rfl))
                simp only [Act.put, List.getElem_toArray, List.getElem_cons_succ, List.getElem_cons_zero, List.setIfInBounds_toArray, List.set_cons_zero, List.set_cons_succ]
                refine wpAnyH_ready (rs := [10]) (by kernel_rfl) (by simp) ?_
                refine AllReadyH.cons rfl (fun K hK => ?_) AllReadyH.nil
                go_simp
                go_wp2_with fail
                refine (number_i (i + 1) _ _ (by omega)).mono ?_
                rintro e wd2 ⟨rfl, gg⟩
                refine hK.out _ _ (gg.cell hHeld (by simp)) (fun hHeld => ?_)
                clear hK K
                have HR2 := Keep.mk (HR.out.grow gg)
                clear HR gg
                have HR := HR2
                clear HR2
                refine wpAnyH_ready (rs := [11]) (by kernel_rfl) (by simp) ?_
                refine AllReadyH.cons rfl (fun K hK => ?_) AllReadyH.nil
                go_simp
                go_wp2_with fail
                have hT := strs_new wd2 [o, n, (ba (Mac.len8 (i + 1)))]
                change Strs (wd2.alloc (.cells #[.string o, .string n, .string (ba (Mac.len8 (i + 1)))] 9)) (some ⟨wd2.heap.size, 0, none⟩) 3 [o, n, (ba (Mac.len8 (i + 1)))] at hT
                have gg := World.grownBy_alloc wd2 (.cells #[.string o, .string n, .string (ba (Mac.len8 (i + 1)))] 9) none
                generalize wd2.alloc (.cells #[.string o, .string n, .string (ba (Mac.len8 (i + 1)))] 9) = wd3 at hT gg ⊢
                have HT := Keep.mk hT
                clear hT
                refine hK.out _ _ (gg.cell hHeld (by simp)) (fun hHeld => ?_)
                clear hK K
                have HR2 := Keep.mk (HR.out.grow gg)
                clear HR gg
                have HR := HR2
                clear HR2
                refine wpAnyH_ready (rs := [12]) (by kernel_rfl) (by simp) ?_
                refine AllReadyH.cons rfl (fun K hK => ?_) AllReadyH.nil
                go_simp
                go_wp2_with fail
                refine (derive_gen (keyAt seed cs i) cookieB _ 3 3 [o, n, ba (Mac.len8 (i + 1))] _ HR.out.j.k HT.out (by rw [keyAt_size _ _ _ (by omega)]; decide) (by decide) (by decide) (three_le o n ho hn (i + 1))).mono ?_
                rintro e wd4 ⟨rfl, gg⟩
                refine hK.out _ _ (gg.cell hHeld (by simp)) (fun hHeld => ?_)
                clear hK K
                have HR2 := Keep.mk (HR.out.grow gg)
                clear HR gg HT
                have HR := HR2
                clear HR2
                generalize deriveB (keyAt seed cs i) cookieB _ = od
                refine wpAnyH_ready (rs := [15]) (by kernel_rfl) (by simp) ?_
                refine AllReadyH.cons rfl (fun K hK => ?_) AllReadyH.nil
                go_simp
                go_wp2_with fail
                have hT : Has (wd4.alloc (.cells #[.string ck, .string { data := #[] }, .string q, .string od, .string { data := #[] }, .string (ck ++ { data := #[0] })] 9)) wd4.heap.size ([ck, eB, q, od, eB, ck ++ zB].map .string) 9 := Has.newA _ _ _
                have gg := World.grownBy_alloc wd4 (.cells #[.string ck, .string { data := #[] }, .string q, .string od, .string { data := #[] }, .string (ck ++ { data := #[0] })] 9) none
                generalize wd4.alloc (.cells #[.string ck, .string { data := #[] }, .string q, .string od, .string { data := #[] }, .string (ck ++ { data := #[0] })] 9) = wd5 at hT gg ⊢
                have hTL : [ck, eB, q, od, eB, ck ++ zB].length = 6 := rfl
                generalize [ck, eB, q, od, eB, ck ++ zB] = TL at hT hTL
                generalize wd4.heap.size = T at hT ⊢
                have HT := Keep.mk hT
                clear hT
                refine hK.out _ _ (gg.cell hHeld (by simp)) (fun hHeld => ?_)
                clear hK K
                have HR2 := Keep.mk (HR.out.grow gg)
                clear HR gg
                have HR := HR2
                clear HR2
                refine wpAnyH_ready (rs := [16]) (by kernel_rfl) (by simp) ?_
                refine AllReadyH.cons rfl (fun K hK => ?_) AllReadyH.nil
                go_simp
                go_wp2_with fail
                refine hK.out _ _ hHeld (fun hHeld => ?_)
                clear hK K
                refine wpAnyH_done (by kernel_rfl) ?_ _
                clear hHeld
                go_wp2_with fail
                go_loopw [20] (fun t w' => ∃ y : Nat, y ≤ 6 ∧ t = .int .i64 y ∧ Keep (OC w w' b base seed cs (.slice (some ⟨g, 0, none⟩) (i + 1) cap) i (i + 1) ∧ Has w' T (TL.map .string) 9)) (fun t _ => 6 - (intOf t).toNat)
                case atStart => exact ⟨0, by omega, rfl, ⟨HR.out, HT.out⟩⟩
                case round =>
                  obtain ⟨y, hy, rfl, hin⟩ := hrel
                  by_cases hly : y < 6
                  · obtain ⟨p, hp⟩ : ∃ p, TL[y]? = some p := ⟨_, List.getElem?_eq_getElem (by omega)⟩
                    have hc : wr.cell? ⟨T, y, none⟩ = some (.string p) := hin.out.2.cellv y _ (by rw [List.getElem?_map, hp]; rfl)
                    have HPY := Keep.mk hp
                    clear hp
                    have HX : Keep (chkS (secAt seed cs i) (aheadAt seed cs i) f n (x) p = 100) := ⟨own_chk_no seed cs f n p i x (by omega) (by omega)⟩
                    go_wp2_with fail
                    refine (check_i b (x) _ _ _ f n p _ _ (by omega) HX.out hin.out.1.j.j hin.out.1.j.k hf hn).mono ?_
                    rintro e w7 ⟨rfl, g7⟩
                    have H7 := Keep.mk (And.intro (hin.out.1.grow g7) (hin.out.2.kept g7 (by simp)))
                    have hc2 : w7.cell? ⟨T, y, none⟩ = some (.string p) := H7.out.2.cellv y _ (by rw [List.getElem?_map, HPY.out]; rfl)
                    clear hin g7 HX hc
                    go_wp2_with fail
                    refine ⟨⟨y + 1, by omega, by go_num, H7⟩, ?_⟩
                    simp [intOf] <;> omega
                  · have HR3 := Keep.mk hin.out.1
                    clear hin HR HT
                    go_wp2_with fail
                    refine ⟨⟨x + 1, by omega, by go_num, HR3⟩, ?_⟩
                    simp [intOf] <;> omega
        · have F1 : Keep (chkS (secAt seed cs i) (aheadAt seed cs i) f n 9223372036854775808 ck = 100) := ⟨own_chk_no seed cs f n ck i _ (by omega) (by omega)⟩
          have F2 : Keep (chkS (secAt seed cs i) (aheadAt seed cs i) f n 0 ck = 100) := ⟨own_chk_no seed cs f n ck i _ (by omega) (by omega)⟩
          go_wp2_with fail
          refine (check_i b 9223372036854775808 _ _ _ f n ck _ _ rfl F1.out HR.out.j.j HR.out.j.k hf hn).mono ?_
          rintro e wk ⟨rfl, gg⟩
          have HR2 := Keep.mk (HR.out.grow gg)
          clear HR gg
          have HR := HR2
          clear HR2
          go_wp2_with fail
          refine (check_i b 0 _ _ _ f n ck _ _ rfl F2.out HR.out.j.j HR.out.j.k hf hn).mono ?_
          rintro e wl ⟨rfl, gg⟩
          have HR2 := Keep.mk (HR.out.grow gg)
          clear HR gg
          have HR := HR2
          clear HR2
          by_cases hlm : i < m
          · obtain ⟨B, oo, rfl, hat⟩ := HP.out.at_ (by omega)
            have hpl := HP.out.len
            obtain ⟨p, hp⟩ : ∃ p, cs[i]? = some p := ⟨_, List.getElem?_eq_getElem (by omega)⟩
            have hc : wl.cell? ⟨B, oo + i, none⟩ = some (.string p) := HR.out.j.g.cell (hat i p hp) (by simp)
            have NL : Keep (beN ((secAt seed cs i).take 8) < 18446744073709551615) := ⟨by rw [(ep_at seed cs i (by omega)).now]; omega⟩
            have HAT := Keep.mk (hat i p hp)
            have HCC := Keep.mk hp
            have KS := Keep.mk (keyAt_succ seed cs i p hp)
            clear hat hp
            go_wp2_with fail
            refine (turn_c b _ _ p _ HR.out.j.j HR.out.j.k NL.out (HPS.out i p HCC.out)).mono ?_
            rintro e wm ⟨rfl, h6, g6⟩
            have HR2 := Keep.mk (HR.out.turned HCC.out h6 g6)
            clear HR h6 g6 hc
            have HR := HR2
            clear HR2
            go_wp2_with fail
            have gg := gr_drewN wm 1 none
            refine wp_region_held_drew (S := fun _ => True) (by kernel_rfl) trivial (fun hHeld => ?_)
            change wm.grownBy wm.drew none at gg
            generalize wm.drew = wn at gg ⊢
            have HR2 := Keep.mk (HR.out.grow gg)
            clear HR gg
            have HR := HR2
            clear HR2
            refine wpAnyH_take (i := 0) (oi := _) (v := ?_) rfl (by kernel_rfl) (by kernel_rfl) (by kernel_rfl) (fun _ _ _ h => h) (Or.inl ⟨by rfl, ?_⟩) (by assumption) ?_
            rotate_left
            · (intro w hSw; go_simp; first | done | (with_reducible rfl))
            simp only [Act.put, List.getElem_toArray, List.getElem_cons_zero, List.setIfInBounds_toArray, List.set_cons_zero, List.set_cons_succ]
            refine wpAnyH_take (i := 1) (oi := _) (v := ?_) rfl (by kernel_rfl) (by kernel_rfl) (by kernel_rfl) (fun _ _ _ h => h) (Or.inl ⟨by rfl, ?_⟩) (by assumption) ?_
            rotate_left
            · (intro w hSw; go_simp; first | done | (with_reducible rfl))
            simp only [Act.put, List.getElem_toArray, List.getElem_cons_succ, List.getElem_cons_zero, List.setIfInBounds_toArray, List.set_cons_zero, List.set_cons_succ]
            refine wpAnyH_take (i := 2) (oi := _) (v := ?_) rfl (by kernel_rfl) (by kernel_rfl) (by kernel_rfl) (fun _ _ _ h => h) (Or.inl ⟨by rfl, ?_⟩) (by assumption) ?_
            rotate_left
            · (intro w hSw; go_simp; first | done | (with_reducible rfl))
            simp only [Act.put, List.getElem_toArray, List.getElem_cons_succ, List.getElem_cons_zero, List.setIfInBounds_toArray, List.set_cons_zero, List.set_cons_succ]
            refine wpAnyH_take (i := 3) (oi := _) (v := ?_) rfl (by kernel_rfl) (by kernel_rfl) (by kernel_rfl) (fun _ _ _ h => h) (Or.inl ⟨by rfl, ?_⟩) (by assumption) ?_
            rotate_left
            · (intro w hSw; go_simp; first | done | (with_reducible rfl))
            simp only [Act.put, List.getElem_toArray, List.getElem_cons_succ, List.getElem_cons_zero, List.setIfInBounds_toArray, List.set_cons_zero, List.set_cons_succ]
            refine wpAnyH_take (i := 5) (oi := _) (v := ?_) rfl (by kernel_rfl) (by kernel_rfl) (by kernel_rfl) (fun _ _ _ h => h) (Or.inl ⟨by rfl, ?_⟩) (by assumption) ?_
            rotate_left
            · (intro w hSw; go_simp; first | done | (with_reducible rfl))
            simp only [Act.put, List.getElem_toArray, List.getElem_cons_succ, List.getElem_cons_zero, List.setIfInBounds_toArray, List.set_cons_zero, List.set_cons_succ]
            refine wpAnyH_take (i := 6) (oi := _) (v := ?_) rfl (by kernel_rfl) (by kernel_rfl) (by kernel_rfl) (fun _ _ _ h => h) (Or.inl ⟨by rfl, ?_⟩) (by assumption) ?_
            rotate_left
            · (intro w hSw; go_simp; first | done | (with_reducible rfl))
            simp only [Act.put, List.getElem_toArray, List.getElem_cons_succ, List.getElem_cons_zero, List.setIfInBounds_toArray, List.set_cons_zero, List.set_cons_succ]
            refine wpAnyH_take (i := 7) (oi := _) (v := ?_) rfl (by kernel_rfl) (by kernel_rfl) (by kernel_rfl) (fun _ _ _ h => h) (Or.inl ⟨by rfl, ?_⟩) (by assumption) ?_
            rotate_left
            · (intro w hSw; go_simp; first | done | (with_reducible rfl))
            simp only [Act.put, List.getElem_toArray, List.getElem_cons_succ, List.getElem_cons_zero, List.setIfInBounds_toArray, List.set_cons_zero, List.set_cons_succ]
            refine wpAnyH_ready (rs := [4, 8]) (by kernel_rfl) (by simp) ?_
            refine AllReadyH.cons rfl (fun K hK => ?_) ?_
            · have x1 := HR.out.key i (by omega)
              go_simp
              go_wp2_with fail
              clear x1
              refine hK.out _ _ trivial (fun _ => ?_)
              clear hK K
              refine wpAnyH_ready (rs := [8]) (by kernel_rfl) (by simp) ?_
              refine AllReadyH.cons rfl (fun K hK => ?_) AllReadyH.nil
              have x2 := HR.out.j.g.cell HAT.out (by simp)
              go_simp
              go_wp2_with fail
              clear x2
              refine hK.out _ _ trivial (fun _ => ?_)
              clear hK K
              refine wpAnyH_ready (rs := [9]) (by kernel_rfl) (by simp) ?_
              refine AllReadyH.cons rfl (fun K hK => ?_) AllReadyH.nil
              go_simp
              go_wp2_with fail
              have hT := strs_new wn [p]
              change Strs (wn.alloc (.cells #[.string p] 9)) (some ⟨wn.heap.size, 0, none⟩) 1 [p] at hT
              have gg := World.grownBy_alloc wn (.cells #[.string p] 9) none
              generalize wn.alloc (.cells #[.string p] 9) = wo at hT gg ⊢
              have HT := Keep.mk hT
              clear hT
              refine hK.out _ _ trivial (fun _ => ?_)
              clear hK K
              have HR2 := Keep.mk (HR.out.grow gg)
              clear HR gg
              have HR := HR2
              clear HR2
              refine wpAnyH_ready (rs := [10]) (by kernel_rfl) (by simp) ?_
              refine AllReadyH.cons rfl (fun K hK => ?_) AllReadyH.nil
              go_simp
              go_wp2_with fail
              refine (derive_gen (keyAt seed cs i) turnB _ 1 1 [p] _ HR.out.j.k HT.out (by rw [keyAt_size _ _ _ (by omega)]; decide) (by decide) (by decide) (fun j r hr => by match j, hr with | 0, hr => (obtain rfl : p = r := by simpa using hr); exact HPS.out i p HCC.out | j + 1, hr => simp at hr)).mono ?_
              rintro e wp ⟨rfl, gg⟩
              rw [← KS.out]
              refine hK.out _ _ trivial (fun _ => ?_)
              clear hK K
              have HR2 := Keep.mk (HR.out.grow gg)
              clear HR gg HT
              have HR := HR2
              clear HR2
              refine wpAnyH_ready (rs := [11]) (by kernel_rfl) (by simp) ?_
              refine AllReadyH.cons rfl (fun K hK => ?_) AllReadyH.nil
              obtain ⟨a', c', wq, r1, h5⟩ := HR.out.app (by omega) h0
              have HAP := Keep.mk r1
              have H5 := Keep.mk h5
              clear r1 h5 HR
              generalize keyAt seed cs (i + 1) = kn at HAP ⊢
              go_simp
              go_wp2_with fail
              refine hK.out _ _ trivial (fun _ => ?_)
              clear hK K
              refine wpAnyH_ready (rs := [12]) (by kernel_rfl) (by simp) ?_
              refine AllReadyH.cons rfl (fun K hK => ?_) AllReadyH.nil
              rw [if_pos (by rfl)]
              refine wp_append_run _ _ 22 rfl _ _ rfl rfl HAP.out ?_
              refine hK.out _ _ trivial (fun _ => ?_)
              clear hK K
              refine wpAnyH_ready (rs := [13]) (by kernel_rfl) (by simp) ?_
              refine AllReadyH.cons rfl (fun K hK => ?_) AllReadyH.nil
              go_simp
              go_wp2_with fail
              refine hK.out _ _ trivial (fun _ => ?_)
              clear hK K
              refine wpAnyH_done (by kernel_rfl) ?_ _
              go_wp2_with fail
              refine ⟨⟨i + 1, by omega, by go_num, by rw [Nat.min_eq_left (by omega)]; exact H5⟩, ?_⟩
              simp [intOf] <;> omega
            refine AllReadyH.cons rfl (fun K hK => ?_) AllReadyH.nil
            have x2 := HR.out.j.g.cell HAT.out (by simp)
            go_simp
            go_wp2_with fail
            clear x2
            refine hK.out _ _ trivial (fun _ => ?_)
            clear hK K
            refine wpAnyH_ready (rs := [4, 9]) (by kernel_rfl) (by simp) ?_
            refine AllReadyH.cons rfl (fun K hK => ?_) ?_
            · have x1 := HR.out.key i (by omega)
              go_simp
              go_wp2_with fail
              clear x1
              refine hK.out _ _ trivial (fun _ => ?_)
              clear hK K
              refine wpAnyH_ready (rs := [9]) (by kernel_rfl) (by simp) ?_
              refine AllReadyH.cons rfl (fun K hK => ?_) AllReadyH.nil
              go_simp
              go_wp2_with fail
              have hT := strs_new wn [p]
              change Strs (wn.alloc (.cells #[.string p] 9)) (some ⟨wn.heap.size, 0, none⟩) 1 [p] at hT
              have gg := World.grownBy_alloc wn (.cells #[.string p] 9) none
              generalize wn.alloc (.cells #[.string p] 9) = wo at hT gg ⊢
              have HT := Keep.mk hT
              clear hT
              refine hK.out _ _ trivial (fun _ => ?_)
              clear hK K
              have HR2 := Keep.mk (HR.out.grow gg)
              clear HR gg
              have HR := HR2
              clear HR2
              refine wpAnyH_ready (rs := [10]) (by kernel_rfl) (by simp) ?_
              refine AllReadyH.cons rfl (fun K hK => ?_) AllReadyH.nil
              go_simp
              go_wp2_with fail
              refine (derive_gen (keyAt seed cs i) turnB _ 1 1 [p] _ HR.out.j.k HT.out (by rw [keyAt_size _ _ _ (by omega)]; decide) (by decide) (by decide) (fun j r hr => by match j, hr with | 0, hr => (obtain rfl : p = r := by simpa using hr); exact HPS.out i p HCC.out | j + 1, hr => simp at hr)).mono ?_
              rintro e wp ⟨rfl, gg⟩
              rw [← KS.out]
              refine hK.out _ _ trivial (fun _ => ?_)
              clear hK K
              have HR2 := Keep.mk (HR.out.grow gg)
              clear HR gg HT
              have HR := HR2
              clear HR2
              refine wpAnyH_ready (rs := [11]) (by kernel_rfl) (by simp) ?_
              refine AllReadyH.cons rfl (fun K hK => ?_) AllReadyH.nil
              obtain ⟨a', c', wq, r1, h5⟩ := HR.out.app (by omega) h0
              have HAP := Keep.mk r1
              have H5 := Keep.mk h5
              clear r1 h5 HR
              generalize keyAt seed cs (i + 1) = kn at HAP ⊢
              go_simp
              go_wp2_with fail
              refine hK.out _ _ trivial (fun _ => ?_)
              clear hK K
              refine wpAnyH_ready (rs := [12]) (by kernel_rfl) (by simp) ?_
              refine AllReadyH.cons rfl (fun K hK => ?_) AllReadyH.nil
              rw [if_pos (by rfl)]
              refine wp_append_run _ _ 22 rfl _ _ rfl rfl HAP.out ?_
              refine hK.out _ _ trivial (fun _ => ?_)
              clear hK K
              refine wpAnyH_ready (rs := [13]) (by kernel_rfl) (by simp) ?_
              refine AllReadyH.cons rfl (fun K hK => ?_) AllReadyH.nil
              go_simp
              go_wp2_with fail
              refine hK.out _ _ trivial (fun _ => ?_)
              clear hK K
              refine wpAnyH_done (by kernel_rfl) ?_ _
              go_wp2_with fail
              refine ⟨⟨i + 1, by omega, by go_num, by rw [Nat.min_eq_left (by omega)]; exact H5⟩, ?_⟩
              simp [intOf] <;> omega
            refine AllReadyH.cons rfl (fun K hK => ?_) AllReadyH.nil
            go_simp
            go_wp2_with fail
            have hT := strs_new wn [p]
            change Strs (wn.alloc (.cells #[.string p] 9)) (some ⟨wn.heap.size, 0, none⟩) 1 [p] at hT
            have gg := World.grownBy_alloc wn (.cells #[.string p] 9) none
            generalize wn.alloc (.cells #[.string p] 9) = wo at hT gg ⊢
            have HT := Keep.mk hT
            clear hT
            refine hK.out _ _ trivial (fun _ => ?_)
            clear hK K
            have HR2 := Keep.mk (HR.out.grow gg)
            clear HR gg
            have HR := HR2
            clear HR2
            refine wpAnyH_ready (rs := [4]) (by kernel_rfl) (by simp) ?_
            refine AllReadyH.cons rfl (fun K hK => ?_) AllReadyH.nil
            have x1 := HR.out.key i (by omega)
            go_simp
            go_wp2_with fail
            clear x1
            refine hK.out _ _ trivial (fun _ => ?_)
            clear hK K
            refine wpAnyH_ready (rs := [10]) (by kernel_rfl) (by simp) ?_
            refine AllReadyH.cons rfl (fun K hK => ?_) AllReadyH.nil
            go_simp
            go_wp2_with fail
            refine (derive_gen (keyAt seed cs i) turnB _ 1 1 [p] _ HR.out.j.k HT.out (by rw [keyAt_size _ _ _ (by omega)]; decide) (by decide) (by decide) (fun j r hr => by match j, hr with | 0, hr => (obtain rfl : p = r := by simpa using hr); exact HPS.out i p HCC.out | j + 1, hr => simp at hr)).mono ?_
            rintro e wp ⟨rfl, gg⟩
            rw [← KS.out]
            refine hK.out _ _ trivial (fun _ => ?_)
            clear hK K
            have HR2 := Keep.mk (HR.out.grow gg)
            clear HR gg HT
            have HR := HR2
            clear HR2
            refine wpAnyH_ready (rs := [11]) (by kernel_rfl) (by simp) ?_
            refine AllReadyH.cons rfl (fun K hK => ?_) AllReadyH.nil
            obtain ⟨a', c', wq, r1, h5⟩ := HR.out.app (by omega) h0
            have HAP := Keep.mk r1
            have H5 := Keep.mk h5
            clear r1 h5 HR
            generalize keyAt seed cs (i + 1) = kn at HAP ⊢
            go_simp
            go_wp2_with fail
            refine hK.out _ _ trivial (fun _ => ?_)
            clear hK K
            refine wpAnyH_ready (rs := [12]) (by kernel_rfl) (by simp) ?_
            refine AllReadyH.cons rfl (fun K hK => ?_) AllReadyH.nil
            rw [if_pos (by rfl)]
            refine wp_append_run _ _ 22 rfl _ _ rfl rfl HAP.out ?_
            refine hK.out _ _ trivial (fun _ => ?_)
            clear hK K
            refine wpAnyH_ready (rs := [13]) (by kernel_rfl) (by simp) ?_
            refine AllReadyH.cons rfl (fun K hK => ?_) AllReadyH.nil
            go_simp
            go_wp2_with fail
            refine hK.out _ _ trivial (fun _ => ?_)
            clear hK K
            refine wpAnyH_done (by kernel_rfl) ?_ _
            go_wp2_with fail
            refine ⟨⟨i + 1, by omega, by go_num, by rw [Nat.min_eq_left (by omega)]; exact H5⟩, ?_⟩
            simp [intOf] <;> omega
          · go_wp2_with fail
            refine ⟨⟨i + 1, by omega, by go_num, by rw [show min (i + 1) m = i by omega]; exact HR⟩, ?_⟩
            simp [intOf] <;> omega
    · have HG := Keep.mk hrel.out.j.g
      clear hrel
      go_wp2_with fail
      go_ret
      exact ⟨rfl, HG.out⟩
end Go.Proofs.YtbmnlhmelbhjeaaDoor
