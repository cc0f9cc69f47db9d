/- view: ViewEquals -/
import Derived.Test.YtgedlabmndlooaaGreatEC
namespace Go.Proofs.YtgedlabmndlooaaGreat
open Go Go.RowKit Go.Maps Go.Shelf Go.Lib Go.Sort

theorem app_nn (c : Nat) (W : World) (v : Value) (hv : ∃ a n k, v = .slice a n k) (n : Nat) (L : List Value) (h : W.ownsRow 0 33 5 v n L) : (Builtin.append_ #[27, 27] 27 #[v, .slice none 0 c]).run Tryz.prog W = .ok v W := by
  obtain ⟨i, i1, _⟩ := infoBN
  have ht : Tryz.prog.underlying 27 = some (.slice 33) := undN
  rcases h.2 with ⟨rfl, rfl⟩ | ⟨g, cap, cur, rfl, _, _, hnc, _⟩
  · simp [Builtin.append_, run_underlying ht, sizeOf, typeInfo, i1, Builtin.lenOf, Builtin.firstCells]
  · simp [Builtin.append_, run_underlying ht, sizeOf, typeInfo, i1, Builtin.lenOf, Builtin.firstCells, hnc, storeCells]
theorem fl_oneN (L : List Sn) : ∀ u ∈ fl snv L, u.oneCell' = true := by
  intro u hu
  obtain ⟨x, _, h⟩ := List.mem_flatMap.1 hu
  exact snv_one x u h
set_option maxRecDepth 100000 in
/-- a list is appended to a row of things that are seen -/
theorem Sep.appLs {w0 W : World} {l : List As} {v va : Value} {L A : List Sn} (h : Sep w0 W (rowV 33 5 v L.length (fl snv L) :: l)) (hA : Ls snv 5 W va A) (hn : (L.length + A.length) * 40 ≤ 140737488355328) :
    ∃ v' W', (Builtin.append_ #[27, 27] 27 #[v, va]).run Tryz.prog W = .ok v' W' ∧ Sep w0 W' (rowV 33 5 v' (L ++ A).length (fl snv (L ++ A)) :: l) := by
  obtain ⟨a, cap, rfl, hv⟩ := hA
  cases a with
  | none =>
    have h0 : A = [] := by
      cases A with
      | nil => rfl
      | cons x r => obtain ⟨g, o, e, _⟩ := hv (by simp); cases e
    subst h0
    obtain ⟨a, c, e⟩ := own_slice (h.rowGet k0m)
    refine ⟨v, W, app_nn cap W v ⟨_, _, _, e⟩ _ _ (h.rowGet k0m), ?_⟩
    rw [List.append_nil]
    exact h
  | some p =>
    obtain ⟨i, i1, i2, i3, i4⟩ := infoBN
    obtain ⟨v', W', r1, S2⟩ := Sep.appF (t := 27) undN i1 i4 i2 i3 rfl (by decide) h p A.length cap (fl snv A) (fl_len snv_len A) (fun j u hu => by
      have hj := (List.getElem?_eq_some_iff.1 hu).1
      rw [fl_len snv_len] at hj
      obtain ⟨g, o, e, q⟩ := hv (by omega)
      injection e with e
      subst e
      have hjk : j / 5 < A.length := by omega
      have q2 := q (j / 5) A[j / 5] (List.getElem?_eq_getElem hjk) (j % 5) u (by
        have hr : j % 5 < (snv A[j / 5]).length := by rw [snv_len]; omega
        rw [List.getElem?_eq_getElem hr]
        have q3 := fl_get snv_len A (j / 5) A[j / 5] (j % 5) _ (List.getElem?_eq_getElem hjk) (List.getElem?_eq_getElem hr)
        rw [show j / 5 * 5 + j % 5 = j by omega, hu] at q3
        exact q3.symm)
      rw [Addr.add_mid, show o + j = o + j / 5 * 5 + j % 5 by omega]
      exact q2) (fl_oneN A) hn
    refine ⟨v', W', r1, ?_⟩
    rw [fl_app, List.length_append]
    exact S2
theorem eq_s (W : World) (ta : Int) (a : Cr) (va : Value) (A : List Sn) (ha : Ls snv 5 W va A) (hn : A.length ≤ 281474976710656) : Calls Tryz.prog 9 #[vlV ta a va, vlV ta a va] W fun e W' => e = .returned (.bool true) ∧ W.grownBy W' none := by
  refine (eq_c W ta ta a a va va A A ha ha hn).mono ?_
  rintro e W' ⟨rfl, g⟩
  exact ⟨by simp, g⟩
theorem eq_t (W : World) (ta tb : Int) (a b : Cr) (va vb : Value) (A B : List Sn) (ha : Ls snv 5 W va A) (hb : Ls snv 5 W vb B) (hn : A.length ≤ 281474976710656) (hf : ta = tb ∧ a = b ∧ A = B) : Calls Tryz.prog 9 #[vlV ta a va, vlV tb b vb] W fun e W' => e = .returned (.bool true) ∧ W.grownBy W' none := by
  refine (eq_c W ta tb a b va vb A B ha hb hn).mono ?_
  rintro e W' ⟨rfl, g⟩
  exact ⟨by rw [decide_eq_true hf], g⟩
theorem eq_f (W : World) (ta tb : Int) (a b : Cr) (va vb : Value) (A B : List Sn) (ha : Ls snv 5 W va A) (hb : Ls snv 5 W vb B) (hn : A.length ≤ 281474976710656) (hf : ¬ (ta = tb ∧ a = b ∧ A = B)) : Calls Tryz.prog 9 #[vlV ta a va, vlV tb b vb] W fun e W' => e = .returned (.bool false) ∧ W.grownBy W' none := by
  refine (eq_c W ta tb a b va vb A B ha hb hn).mono ?_
  rintro e W' ⟨rfl, g⟩
  exact ⟨by rw [decide_eq_false hf], g⟩
theorem built33z : Tryz.prog.built 33 [] = some (snv zN).toArray := by kernel_rfl
theorem row_cap {W : World} {e : TypeId} {s g n c : Nat} {xs : List Value} (h : W.ownsRow 0 e s (sl g n c) n xs) : n ≤ c := by
  rcases h.2 with ⟨q, _⟩ | ⟨g', cap, cur, q, _, _, h3, _⟩
  · cases q
  · injection q with _ _ e3
    omega
def U64 (x : Int) : Prop := 0 ≤ x ∧ x ≤ 18446744073709551615
set_option maxRecDepth 100000 in
set_option maxHeartbeats 16000000 in
theorem equals_c (W : World) (ta tb : Int) (a b : Cr) (va vb : Value) (A B : List Sn) (ht : U64 ta) (ha : Ls snv 5 W va A) (hb : Ls snv 5 W vb B) (hn : (A.length + 1) * 40 ≤ 140737488355328) (hm : B.length ≤ 281474976710656) :
    Calls Tryz.prog 3 #[vlV ta a va, vlV tb b vb] W fun e W' => e = .returned (.bool true) ∧ W.grownBy W' none := by
  have S1 := ((Sep.nil W).newBox #[.int .u64 ta, iv a.pl, .string a.nm, iv a.x, iv a.y, iv a.sx, iv a.sy, iv a.hd, iv a.he, iv a.en, iv a.am, iv a.co, iv a.wa, iv a.sp, iv a.sc, va] 29).newBox #[.int .u64 tb, iv b.pl, .string b.nm, iv b.x, iv b.y, iv b.sx, iv b.sy, iv b.hd, iv b.he, iv b.en, iv b.am, iv b.co, iv b.wa, iv b.sp, iv b.sc, vb] 29
  simp only [World.size_alloc] at S1
  obtain ⟨b2, hb2⟩ : ∃ b, W.heap.size = b := ⟨_, rfl⟩
  obtain ⟨b3, hb3⟩ : ∃ b, b2 + 1 = b := ⟨_, rfl⟩
  obtain ⟨W1, hW1⟩ : ∃ w, (W.alloc (.cells #[.int .u64 ta, iv a.pl, .string a.nm, iv a.x, iv a.y, iv a.sx, iv a.sy, iv a.hd, iv a.he, iv a.en, iv a.am, iv a.co, iv a.wa, iv a.sp, iv a.sc, va] 29)).alloc (.cells #[.int .u64 tb, iv b.pl, .string b.nm, iv b.x, iv b.y, iv b.sx, iv b.sy, iv b.hd, iv b.he, iv b.en, iv b.am, iv b.co, iv b.wa, iv b.sp, iv b.sc, vb] 29) = w := ⟨_, rfl⟩
  rw [hW1, hb2, hb3] at S1
  have HB : Keep (Sep W W1 (boxA b3 (vwv tb b vb) 29 :: boxA b2 (vwv ta a va) 29 :: [])) := ⟨S1⟩
  have HLA := Keep.mk ha
  have HLB := Keep.mk hb
  have HT := Keep.mk ht
  have HNN := Keep.mk hn
  have HN : Keep (A.length ≤ 281474976710656 ∧ B.length ≤ 281474976710656) := ⟨⟨by omega, hm⟩⟩
  have HSV : Keep ((∃ a n c, va = .slice a n c) ∧ ∃ a n c, vb = .slice a n c) := ⟨⟨by obtain ⟨a, c, e, _⟩ := ha; exact ⟨_, _, _, e⟩, by obtain ⟨a, c, e, _⟩ := hb; exact ⟨_, _, _, e⟩⟩⟩
  obtain ⟨dv, hdv⟩ := under29
  clear S1 ha hb hn hm ht
  go_enter Tryz.func3, Tryz.ntmps3
  go_wp2_with fail
  clear hW1 hb2 hb3
  refine region_Y (S := fun w' => Sep W w' (boxA b3 (vwv tb b vb) 29 :: boxA b2 (vwv ta a va) 29 :: [])) [] (by kernel_rfl) ?_
  obtain ⟨W0, hW0⟩ : ∃ W_, W1.drew = W_ := ⟨_, rfl⟩
  replace HB := Keep.mk (HB.out.grown (gr_drew _ none))
  rw [hW0] at HB ⊢
  clear hW0
  have hHeld : (fun w' => Sep W w' (boxA b3 (vwv tb b vb) 29 :: boxA b2 (vwv ta a va) 29 :: [])) W0 := HB.out
  refine wpAnyY_take (i := 0) (oi := _) (v := .agg (vwv ta a va).toArray) rfl (by kernel_rfl) (by kernel_rfl) (by kernel_rfl) (by kernel_rfl) (by kernel_rfl) (fun _ _ _ h => h) (yieldsIf_load_mid (by rfl) 29 _ rfl _ _ rfl _ _ (fun w hSw => (hSw.boxGet k1m).range) hdv.1 hdv.2 info29) (by assumption) ?_
  simp only [Act.put, List.getElem_toArray, List.getElem_cons_zero, List.setIfInBounds_toArray, List.set_cons_zero, List.set_cons_succ]
  refine wpAnyY_take (i := 1) (oi := _) (v := .agg (vwv tb b vb).toArray) rfl (by kernel_rfl) (by kernel_rfl) (by kernel_rfl) (by kernel_rfl) (by kernel_rfl) (fun _ _ _ h => h) (yieldsIf_load_mid (by rfl) 29 _ rfl _ _ rfl _ _ (fun w hSw => (hSw.boxGet k0m).range) hdv.1 hdv.2 info29) (by assumption) ?_
  simp only [Act.put, List.getElem_toArray, List.getElem_cons_succ, List.getElem_cons_zero, List.setIfInBounds_toArray, List.set_cons_zero, List.set_cons_succ]
  refine wpAnyY_take (i := 3) (oi := _) (v := .agg (vwv ta a va).toArray) rfl (by kernel_rfl) (by kernel_rfl) (by kernel_rfl) (by kernel_rfl) (by kernel_rfl) (fun _ _ _ h => h) (yieldsIf_load_mid (by rfl) 29 _ rfl _ _ rfl _ _ (fun w hSw => (hSw.boxGet k1m).range) hdv.1 hdv.2 info29) (by assumption) ?_
  simp only [Act.put, List.getElem_toArray, List.getElem_cons_succ, List.getElem_cons_zero, List.setIfInBounds_toArray, List.set_cons_zero, List.set_cons_succ]
  refine wpAnyY_take (i := 4) (oi := _) (v := .agg (vwv tb b vb).toArray) rfl (by kernel_rfl) (by kernel_rfl) (by kernel_rfl) (by kernel_rfl) (by kernel_rfl) (fun _ _ _ h => h) (yieldsIf_load_mid (by rfl) 29 _ rfl _ _ rfl _ _ (fun w hSw => (hSw.boxGet k0m).range) hdv.1 hdv.2 info29) (by assumption) ?_
  simp only [Act.put, List.getElem_toArray, List.getElem_cons_succ, List.getElem_cons_zero, List.setIfInBounds_toArray, List.set_cons_zero, List.set_cons_succ]
  refine wpAnyY_one (i := 2) (by kernel_rfl) rfl (fun K hK => ?_)
  go_simp
  refine (eq_c _ ta tb a b va vb A B (HLA.out.kept HB.out.g) (HLB.out.kept HB.out.g) HN.out.1).mono ?_
  rintro e wc1 ⟨rfl, g_⟩
  replace HB := Keep.mk (HB.out.grown g_)
  refine hK.out _ _ (fun h => h.grown g_) ?_
  clear hK K g_
  have hHeld : (fun w' => Sep W w' (boxA b3 (vwv tb b vb) 29 :: boxA b2 (vwv ta a va) 29 :: [])) wc1 := HB.out
  obtain ⟨r1, hr1⟩ : ∃ r, decide (ta = tb ∧ a = b ∧ A = B) = r := ⟨_, rfl⟩
  rw [hr1]
  have HR1 := Keep.mk hr1
  clear hr1
  refine wpAnyY_one (i := 5) (by kernel_rfl) rfl (fun K hK => ?_)
  go_simp
  refine (req_c _ ta tb a b va vb A B (HLA.out.kept HB.out.g) (HLB.out.kept HB.out.g) HN.out.1).mono ?_
  rintro e wc2 ⟨rfl, g_⟩
  replace HB := Keep.mk (HB.out.grown g_)
  refine hK.out _ _ (fun h => h.grown g_) ?_
  clear hK K g_
  have hHeld : (fun w' => Sep W w' (boxA b3 (vwv tb b vb) 29 :: boxA b2 (vwv ta a va) 29 :: [])) wc2 := HB.out
  rw [HR1.out]
  refine wpAnyY_pure (i := 6) (oi := _) (v := .bool false) rfl (by kernel_rfl) (by kernel_rfl) (by kernel_rfl) (by kernel_rfl) (fun _ _ _ h => h) (Or.inl ⟨by rfl, ?_⟩) ?_
  · (intro w hSw; go_simp; first | done | rfl | (simp; done) | trace_state)
  simp only [Act.put, List.getElem_toArray, List.getElem_cons_succ, List.getElem_cons_zero, List.setIfInBounds_toArray, List.set_cons_zero, List.set_cons_succ]
  refine wpAnyY_pure (i := 7) (oi := _) (v := ?_) rfl (by kernel_rfl) (by kernel_rfl) (by kernel_rfl) (by kernel_rfl) (fun _ _ _ h => h) (Or.inl ⟨by rfl, ?_⟩) ?_
  rotate_left
  · (intro w hSw; go_simp; first | done | (with_reducible rfl))
  simp only [Act.put, List.getElem_toArray, List.getElem_cons_succ, List.getElem_cons_zero, List.setIfInBounds_toArray, List.set_cons_zero, List.set_cons_succ]
  refine wpAnyY_take (i := 8) (oi := _) (v := .agg (vwv ta a va).toArray) rfl (by kernel_rfl) (by kernel_rfl) (by kernel_rfl) (by kernel_rfl) (by kernel_rfl) (fun _ _ _ h => h) (yieldsIf_load_mid (by rfl) 29 _ rfl _ _ rfl _ _ (fun w hSw => (hSw.boxGet k1m).range) hdv.1 hdv.2 info29) (by assumption) ?_
  simp only [Act.put, List.getElem_toArray, List.getElem_cons_succ, List.getElem_cons_zero, List.setIfInBounds_toArray, List.set_cons_zero, List.set_cons_succ]
  refine wpAnyY_take (i := 9) (oi := _) (v := .agg (vwv ta a va).toArray) rfl (by kernel_rfl) (by kernel_rfl) (by kernel_rfl) (by kernel_rfl) (by kernel_rfl) (fun _ _ _ h => h) (yieldsIf_load_mid (by rfl) 29 _ rfl _ _ rfl _ _ (fun w hSw => (hSw.boxGet k1m).range) hdv.1 hdv.2 info29) (by assumption) ?_
  simp only [Act.put, List.getElem_toArray, List.getElem_cons_succ, List.getElem_cons_zero, List.setIfInBounds_toArray, List.set_cons_zero, List.set_cons_succ]
  refine wpAnyY_one (i := 10) (by kernel_rfl) rfl (fun K hK => ?_)
  go_simp
  refine (eq_s _ ta a va A (HLA.out.kept HB.out.g) HN.out.1).mono ?_
  rintro e wc3 ⟨rfl, g_⟩
  replace HB := Keep.mk (HB.out.grown g_)
  refine hK.out _ _ (fun h => h.grown g_) ?_
  clear hK K g_
  have hHeld : (fun w' => Sep W w' (boxA b3 (vwv tb b vb) 29 :: boxA b2 (vwv ta a va) 29 :: [])) wc3 := HB.out
  refine wpAnyY_pure (i := 11) (oi := _) (v := ?_) rfl (by kernel_rfl) (by kernel_rfl) (by kernel_rfl) (by kernel_rfl) (fun _ _ _ h => h) (Or.inl ⟨by rfl, ?_⟩) ?_
  rotate_left
  · (intro w hSw; go_simp; first | done | (with_reducible rfl))
  simp only [Act.put, List.getElem_toArray, List.getElem_cons_succ, List.getElem_cons_zero, List.setIfInBounds_toArray, List.set_cons_zero, List.set_cons_succ]
  refine wpAnyY_pure (i := 12) (oi := _) (v := ?_) rfl (by kernel_rfl) (by kernel_rfl) (by kernel_rfl) (by kernel_rfl) (fun _ _ _ h => h) (Or.inl ⟨by rfl, ?_⟩) ?_
  rotate_left
  · (intro w hSw; go_simp; first | done | (with_reducible rfl))
  simp only [Act.put, List.getElem_toArray, List.getElem_cons_succ, List.getElem_cons_zero, List.setIfInBounds_toArray, List.set_cons_zero, List.set_cons_succ]
  refine wpAnyY_pure (i := 13) (oi := _) (v := ?_) rfl (by kernel_rfl) (by kernel_rfl) (by kernel_rfl) (by kernel_rfl) (fun _ _ _ h => h) (Or.inl ⟨by rfl, ?_⟩) ?_
  rotate_left
  · (intro w hSw; go_simp; first | done | (with_reducible rfl))
  simp only [Act.put, List.getElem_toArray, List.getElem_cons_succ, List.getElem_cons_zero, List.setIfInBounds_toArray, List.set_cons_zero, List.set_cons_succ]
  refine wpAnyY_take (i := 14) (oi := _) (v := .agg (vwv tb b vb).toArray) rfl (by kernel_rfl) (by kernel_rfl) (by kernel_rfl) (by kernel_rfl) (by kernel_rfl) (fun _ _ _ h => h) (yieldsIf_load_mid (by rfl) 29 _ rfl _ _ rfl _ _ (fun w hSw => (hSw.boxGet k0m).range) hdv.1 hdv.2 info29) (by assumption) ?_
  simp only [Act.put, List.getElem_toArray, List.getElem_cons_succ, List.getElem_cons_zero, List.setIfInBounds_toArray, List.set_cons_zero, List.set_cons_succ]
  refine wpAnyY_take (i := 15) (oi := _) (v := .agg (vwv tb b vb).toArray) rfl (by kernel_rfl) (by kernel_rfl) (by kernel_rfl) (by kernel_rfl) (by kernel_rfl) (fun _ _ _ h => h) (yieldsIf_load_mid (by rfl) 29 _ rfl _ _ rfl _ _ (fun w hSw => (hSw.boxGet k0m).range) hdv.1 hdv.2 info29) (by assumption) ?_
  simp only [Act.put, List.getElem_toArray, List.getElem_cons_succ, List.getElem_cons_zero, List.setIfInBounds_toArray, List.set_cons_zero, List.set_cons_succ]
  refine wpAnyY_one (i := 16) (by kernel_rfl) rfl (fun K hK => ?_)
  go_simp
  refine (eq_s _ tb b vb B (HLB.out.kept HB.out.g) HN.out.2).mono ?_
  rintro e wc4 ⟨rfl, g_⟩
  replace HB := Keep.mk (HB.out.grown g_)
  refine hK.out _ _ (fun h => h.grown g_) ?_
  clear hK K g_
  have hHeld : (fun w' => Sep W w' (boxA b3 (vwv tb b vb) 29 :: boxA b2 (vwv ta a va) 29 :: [])) wc4 := HB.out
  refine wpAnyY_pure (i := 17) (oi := _) (v := ?_) rfl (by kernel_rfl) (by kernel_rfl) (by kernel_rfl) (by kernel_rfl) (fun _ _ _ h => h) (Or.inl ⟨by rfl, ?_⟩) ?_
  rotate_left
  · (intro w hSw; go_simp; first | done | (with_reducible rfl))
  simp only [Act.put, List.getElem_toArray, List.getElem_cons_succ, List.getElem_cons_zero, List.setIfInBounds_toArray, List.set_cons_zero, List.set_cons_succ]
  refine wpAnyY_pure (i := 18) (oi := _) (v := ?_) rfl (by kernel_rfl) (by kernel_rfl) (by kernel_rfl) (by kernel_rfl) (fun _ _ _ h => h) (Or.inl ⟨by rfl, ?_⟩) ?_
  rotate_left
  · (intro w hSw; go_simp; first | done | (with_reducible rfl))
  simp only [Act.put, List.getElem_toArray, List.getElem_cons_succ, List.getElem_cons_zero, List.setIfInBounds_toArray, List.set_cons_zero, List.set_cons_succ]
  refine wpAnyY_pure (i := 19) (oi := _) (v := ?_) rfl (by kernel_rfl) (by kernel_rfl) (by kernel_rfl) (by kernel_rfl) (fun _ _ _ h => h) (Or.inl ⟨by rfl, ?_⟩) ?_
  rotate_left
  · (intro w hSw; go_simp; first | done | (with_reducible rfl))
  simp only [Act.put, List.getElem_toArray, List.getElem_cons_succ, List.getElem_cons_zero, List.setIfInBounds_toArray, List.set_cons_zero, List.set_cons_succ]
  refine wpAnyY_one (i := 20) (by kernel_rfl) rfl (fun K hK => ?_)
  go_simp
  refine (alive_c _).mono ?_
  rintro e wc5 ⟨rfl, g_⟩
  replace HB := Keep.mk (HB.out.grown g_)
  refine hK.out _ _ (fun h => h.grown g_) ?_
  clear hK K g_
  have hHeld : (fun w' => Sep W w' (boxA b3 (vwv tb b vb) 29 :: boxA b2 (vwv ta a va) 29 :: [])) wc5 := HB.out
  refine wpAnyY_pure (i := 21) (oi := _) (v := ?_) rfl (by kernel_rfl) (by kernel_rfl) (by kernel_rfl) (by kernel_rfl) (fun _ _ _ h => h) (Or.inl ⟨by rfl, ?_⟩) ?_
  rotate_left
  · (intro w hSw; go_simp; first | done | (with_reducible rfl))
  simp only [Act.put, List.getElem_toArray, List.getElem_cons_succ, List.getElem_cons_zero, List.setIfInBounds_toArray, List.set_cons_zero, List.set_cons_succ]
  refine wpAnyY_pure (i := 22) (oi := _) (v := ?_) rfl (by kernel_rfl) (by kernel_rfl) (by kernel_rfl) (by kernel_rfl) (fun _ _ _ h => h) (Or.inl ⟨by rfl, ?_⟩) ?_
  rotate_left
  · (intro w hSw; go_simp; first | done | (with_reducible rfl))
  simp only [Act.put, List.getElem_toArray, List.getElem_cons_succ, List.getElem_cons_zero, List.setIfInBounds_toArray, List.set_cons_zero, List.set_cons_succ]
  refine wpAnyY_done (by kernel_rfl) ?_ _
  clear hHeld
  have HRA := Keep.mk ((HB.out.boxGet k1m).range)
  have HON := Keep.mk (vwv_one ta a va HSV.out.1)
  go_wp2_with (first
    | (with_reducible show wpList _ _ _ ({ dst := some 29, op := Op.load 29 _, type := _, pos := _, after := _, guard := _ } :: _) _ _
       refine wpList_load_mid rfl 29 _ rfl _ _ rfl (vwv ta a va) _ HRA.out hdv.1 hdv.2 info29 ?_)
    | (with_reducible show wpList _ _ _ ({ dst := _, op := Op.store 29 _ _, type := _, pos := _, after := _, guard := _ } :: _) _ _
       refine store_new wc5 (vwv ta a va) 29 rfl rfl rfl rfl rfl info29 HON.out ?_))
  intro w6 hS6 g6
  obtain ⟨cb, hcb⟩ : ∃ b, wc5.heap.size = b := ⟨_, rfl⟩
  have S6 := hS6 _ _ HB.out
  rw [hcb] at S6 ⊢
  have f15 := (S6.boxGet k0m).cellv 15 _ rfl
  have y15 := (S6.boxGet k0m).frozen 15
  have S7 := S6.boxPut 15 (.slice none 0 0)
  obtain ⟨W2, hW2⟩ : ∃ w, w6.setCell ⟨cb, 15, none⟩ (.slice none 0 0) = w := ⟨_, rfl⟩
  rw [hW2] at S7
  have S7 : Sep W W2 (boxA cb (vwv ta a (.slice none 0 0)) 29 :: boxA b3 (vwv tb b vb) 29 :: boxA b2 (vwv ta a va) 29 :: []) := S7
  have d15 := (S7.boxGet k0m).cellv 15 _ rfl
  have e15 := (S7.boxGet k2m).cellv 15 _ rfl
  obtain ⟨v3, W3, ap, S8⟩ := Sep.appLs (L := []) (S7.nilV 33 5) (HLA.out.kept S7.g) (by have := HNN.out; simp only [List.length_nil]; omega)
  rw [List.nil_append] at S8
  obtain ⟨a3, c3, rfl⟩ := own_slice (S8.rowGet k0m)
  obtain ⟨n, hn⟩ : ∃ n, A.length = n := ⟨_, rfl⟩
  have HLN := Keep.mk hn
  rw [hn] at S8 ap
  have AP := Keep.mk ap
  have z15 := (S8.boxGet k1m).cellv 15 _ rfl
  have x15 := (S8.boxGet k1m).frozen 15
  have S9 := S8.swap.boxPut 15 (.slice a3 n c3)
  obtain ⟨W4, hW4⟩ : ∃ w, W3.setCell ⟨cb, 15, none⟩ (.slice a3 n c3) = w := ⟨_, rfl⟩
  rw [hW4] at S9
  have S9 : Sep W W4 (boxA cb (vwv ta a (.slice a3 n c3)) 29 :: rowV 33 5 (.slice a3 n c3) n (fl snv A) :: boxA b3 (vwv tb b vb) 29 :: boxA b2 (vwv ta a va) 29 :: []) := S9
  have H9 := Keep.mk S9
  have HRC := Keep.mk ((S9.boxGet k0m).range)
  have HRB := Keep.mk ((S9.boxGet k3m).range)
  have HEC := Keep.mk (eq_t W4 ta ta a a va (.slice a3 n c3) A A (HLA.out.kept S9.g) (by have q := Ls.own snv_len S9 (L := A) (v := .slice a3 n c3) (e := 33) (by rw [hn]; exact k1m); exact q) HN.out.1 ⟨rfl, rfl, rfl⟩)
  clear S6 S7 S8 S9 hS6 g6 HB hcb HRA hn ap
  go_wp2_with (first
    | (with_reducible show wpList _ _ _ ({ dst := some 35, op := Op.call { callee := Callee.builtin Builtin.append, args := _, argTypes := _ }, type := _, pos := _, after := _, guard := _ } :: _) _ _
       refine wpList_append_run _ rfl (.tmp 32) (.tmp 34) 27 rfl _ _ rfl rfl AP.out ?_)
    | (with_reducible show wpList _ _ _ ({ dst := some 37, op := Op.load 29 _, type := _, pos := _, after := _, guard := _ } :: _) _ _
       refine wpList_load_mid rfl 29 _ rfl _ _ rfl (vwv ta a va) _ HRB.out hdv.1 hdv.2 info29 ?_)
    | (with_reducible show wpList _ _ _ ({ dst := some 38, op := Op.load 29 _, type := _, pos := _, after := _, guard := _ } :: _) _ _
       refine wpList_load_mid rfl 29 _ rfl _ _ rfl (vwv ta a (.slice a3 n c3)) _ HRC.out hdv.1 hdv.2 info29 ?_))
  clear hW2 hW4 f15 y15 d15 e15 z15 x15
  refine HEC.out.mono ?_
  rintro e W5 ⟨rfl, g5⟩
  have S5 := H9.out.grown g5
  have HS5 := Keep.mk S5
  have f15 := (S5.boxGet k0m).cellv 15 _ rfl
  obtain ⟨g9, c9, W6, ap, S6⟩ := Sep.appN (L := A) zN (v := .slice a3 n c3) (by rw [HLN.out]; exact S5.swap) HNN.out
  rw [HLN.out] at ap
  obtain ⟨LL, hLL⟩ : ∃ LL, A ++ [zN] = LL := ⟨_, rfl⟩
  have hN1 : LL.length = n + 1 := by rw [← hLL, List.length_append, HLN.out]; rfl
  rw [HLN.out, hLL] at S6
  have AP := Keep.mk ap
  have HG := Keep.mk (bsN zN)
  have HBZ := Keep.mk built33z
  have z15 := (S6.boxGet k1m).cellv 15 _ rfl
  have x15 := (S6.boxGet k1m).frozen 15
  have S7 := S6.swap.boxPut 15 (sl g9 (n + 1) c9)
  obtain ⟨W7, hW7⟩ : ∃ w, W6.setCell ⟨cb, 15, none⟩ (sl g9 (n + 1) c9) = w := ⟨_, rfl⟩
  rw [hW7, hN1] at S7
  obtain ⟨N, hN⟩ : ∃ N, n + 1 = N := ⟨_, rfl⟩
  obtain ⟨vc, hvc⟩ : ∃ v, sl g9 (n + 1) c9 = v := ⟨_, rfl⟩
  have HB : Keep (Sep W W7 (boxA cb (vwv ta a vc) 29 :: boxA b3 (vwv tb b vb) 29 :: boxA b2 (vwv ta a va) 29 :: rowV 33 5 vc N (fl snv LL) :: [])) := ⟨by
    have q : Sep W W7 (boxA cb (vwv ta a (sl g9 (n + 1) c9)) 29 :: rowV 33 5 (sl g9 (n + 1) c9) (n + 1) (fl snv LL) :: boxA b3 (vwv tb b vb) 29 :: boxA b2 (vwv ta a va) 29 :: []) := S7
    rw [hvc, hN] at q
    exact bk1 [_, _, _] q.swap⟩
  have HLC : Keep (∀ {w : World}, Sep W w (boxA cb (vwv ta a vc) 29 :: boxA b3 (vwv tb b vb) 29 :: boxA b2 (vwv ta a va) 29 :: rowV 33 5 vc N (fl snv LL) :: []) → Ls snv 5 w vc LL) := ⟨fun {w} h => by
    rw [← hN, ← hN1] at h
    exact Ls.own snv_len h k3m⟩
  have HNL : Keep (LL.length ≤ 281474976710656) := ⟨by rw [hN1]; have := HNN.out; have := HLN.out; omega⟩
  have HNE : Keep (A ≠ LL) := ⟨fun h => by
    have q := congrArg List.length h
    rw [hN1, HLN.out] at q
    omega⟩
  have HNV : Keep (n + 1 = N ∧ sl g9 (n + 1) c9 = vc ∧ A ++ [zN] = LL) := ⟨⟨hN, hvc, hLL⟩⟩
  have HQA := Keep.mk ((HB.out.boxGet k2m).range)
  have HQC : Keep (W7.rangeAt cb 0 (vwv ta a (sl g9 (n + 1) c9))) := ⟨by rw [hvc]; exact (HB.out.boxGet k0m).range⟩
  clear S5 S6 S7 H9 HRC HRB HEC g5 ap hN1 hLL hN hvc
  go_wp2_with (first
    | (with_reducible show wpList _ _ _ ({ dst := some 43, op := Op.build 33 _, type := _, pos := _, after := _, guard := _ } :: _) _ _
       refine wpList_build rfl 33 _ rfl (snv zN).toArray ((congrArg (Tryz.prog.built 33) (by simp only [List.map_toArray, List.map_nil])).trans HBZ.out) ?_)
    | (with_reducible show wpList _ _ _ ({ dst := some 44, op := Op.buildSlice 27 _ _, type := _, pos := _, after := _, guard := _ } :: _) _ _
       refine wpList_bs_run rfl (.tmp 43) 27 rfl _ rfl (HG.out _) ?_)
    | (with_reducible show wpList _ _ _ ({ dst := some 45, op := Op.call { callee := Callee.builtin Builtin.append, args := _, argTypes := _ }, type := _, pos := _, after := _, guard := _ } :: _) _ _
       refine wpList_append_run _ rfl (.tmp 42) (.tmp 44) 27 rfl _ _ rfl rfl AP.out ?_)
    | (with_reducible show wpList _ _ _ ({ dst := some 47, op := Op.load 29 _, type := _, pos := _, after := _, guard := _ } :: _) _ _
       refine wpList_load_mid rfl 29 _ rfl _ _ rfl (vwv ta a va) _ HQA.out hdv.1 hdv.2 info29 ?_)
    | (with_reducible show wpList _ _ _ ({ dst := some 48, op := Op.load 29 _, type := _, pos := _, after := _, guard := _ } :: _) _ _
       refine wpList_load_mid rfl 29 _ rfl _ _ rfl (vwv ta a (sl g9 (n + 1) c9)) _ HQC.out hdv.1 hdv.2 info29 ?_))
  clear hW7 f15 z15 x15 AP HG HS5
  rw [HNV.out.2.1]
  refine (eq_f _ ta ta a a va vc A LL (HLA.out.kept HB.out.g) (HLC.out HB.out) HN.out.1 (fun h => HNE.out h.2.2)).mono ?_
  rintro e wc6 ⟨rfl, g_⟩
  replace HB := Keep.mk (HB.out.grown g_)
  clear g_ HQA HQC
  have HQA := Keep.mk ((HB.out.boxGet k2m).range)
  have HQC := Keep.mk ((HB.out.boxGet k0m).range)
  go_wp2_with (first
    | (with_reducible show wpList _ _ _ ({ dst := some 51, op := Op.load 29 _, type := _, pos := _, after := _, guard := _ } :: _) _ _
       refine load_g rfl 29 _ rfl _ _ rfl (vwv ta a vc) _ HQC.out hdv.1 hdv.2 info29 ?_)
    | (with_reducible show wpList _ _ _ ({ dst := some 52, op := Op.load 29 _, type := _, pos := _, after := _, guard := _ } :: _) _ _
       refine load_g rfl 29 _ rfl _ _ rfl (vwv ta a va) _ HQA.out hdv.1 hdv.2 info29 ?_))
  refine (eq_f _ ta ta a a vc va LL A (HLC.out HB.out) (HLA.out.kept HB.out.g) HNL.out (fun h => HNE.out h.2.2.symm)).mono ?_
  rintro e wc7 ⟨rfl, g_⟩
  replace HB := Keep.mk (HB.out.grown g_)
  clear g_ HQA HQC
  have HSL : Keep (Sep W wc7 (boxA cb (vwv ta a (sl g9 (n + 1) c9)) 29 :: rowV 33 5 (sl g9 (n + 1) c9) (n + 1) (fl snv LL) :: boxA b3 (vwv tb b vb) 29 :: boxA b2 (vwv ta a va) 29 :: [])) := ⟨by
    have q := HB.out
    rw [← HNV.out.2.1, ← HNV.out.1] at q
    exact (fr1 [_, _, _] q).swap⟩
  rw [← HNV.out.2.1]
  have f15 := (HSL.out.boxGet k0m).cellv 15 _ rfl
  have e15 := (HSL.out.boxGet k3m).cellv 15 _ rfl
  have y15 := (HSL.out.boxGet k0m).frozen 15
  have hcap := row_cap (HSL.out.rowGet k1m)
  have le1 : (n : Int) ≤ (c9 : Int) := by omega
  have le2 : n ≤ c9 := by omega
  have S8 := (HSL.out.swap.rowCutV n (by omega)).swap.boxPut 15 (sl g9 n c9)
  obtain ⟨W8, hW8⟩ : ∃ w, wc7.setCell ⟨cb, 15, none⟩ (sl g9 n c9) = w := ⟨_, rfl⟩
  rw [hW8] at S8
  have S8 : Sep W W8 (boxA cb (vwv ta a (sl g9 n c9)) 29 :: rowV 33 5 (sl g9 n c9) n ((fl snv LL).take (n * 5)) :: boxA b3 (vwv tb b vb) 29 :: boxA b2 (vwv ta a va) 29 :: []) := S8
  have d0 := (S8.boxGet k0m).cellv 0 _ rfl
  have x0 := (S8.boxGet k0m).frozen 0
  obtain ⟨t2, ht2⟩ : ∃ t, IntKind.u64.wrap (ta + 1) = t := ⟨_, rfl⟩
  have HT2 : Keep (ta ≠ t2) := ⟨by
    have := HT.out
    unfold U64 at this
    rw [← ht2]
    simp only [IntKind.wrap, IntKind.signed, IntKind.bits]
    omega⟩
  have S9 := S8.boxPut 0 (.int .u64 t2)
  obtain ⟨W9, hW9⟩ : ∃ w, W8.setCell ⟨cb, 0, none⟩ (.int .u64 t2) = w := ⟨_, rfl⟩
  rw [hW9] at S9
  obtain ⟨sv, hsv⟩ : ∃ v, va = v := ⟨_, rfl⟩
  obtain ⟨aA, cA, hva⟩ : ∃ a c, va = .slice a n c := by
    obtain ⟨a, c, e, _⟩ := HLA.out
    exact ⟨a, c, by rw [e, HLN.out]⟩
  have HB9 : Keep (Sep W W9 (boxA cb (vwv t2 a (sl g9 n c9)) 29 :: rowV 33 5 (sl g9 n c9) n (fl snv A) :: boxA b3 (vwv tb b vb) 29 :: boxA b2 (vwv ta a va) 29 :: [])) := ⟨by
    have q : Sep W W9 (boxA cb (vwv t2 a (sl g9 n c9)) 29 :: rowV 33 5 (sl g9 n c9) n ((fl snv LL).take (n * 5)) :: boxA b3 (vwv tb b vb) 29 :: boxA b2 (vwv ta a va) 29 :: []) := S9
    rw [← HNV.out.2.2, fl_app, List.take_append_of_le_length (by rw [fl_len snv_len, HLN.out]; exact Nat.le_refl _), List.take_of_length_le (by rw [fl_len snv_len, HLN.out]; exact Nat.le_refl _)] at q
    exact q⟩
  clear S8 S9 HSL HB HLC HNE HNL hcap hsv sv
  have HVA := Keep.mk hva
  rw [hva] at e15
  clear hva
  have HQA := Keep.mk ((HB9.out.boxGet k3m).range)
  have HQC := Keep.mk ((HB9.out.boxGet k0m).range)
  go_wp2_with (first
    | (with_reducible show wpList _ _ _ ({ dst := some 66, op := Op.load 29 _, type := _, pos := _, after := _, guard := _ } :: _) _ _
       refine wpList_load_mid rfl 29 _ rfl _ _ rfl (vwv ta a va) _ HQA.out hdv.1 hdv.2 info29 ?_)
    | (with_reducible show wpList _ _ _ ({ dst := some 67, op := Op.load 29 _, type := _, pos := _, after := _, guard := _ } :: _) _ _
       refine wpList_load_mid rfl 29 _ rfl _ _ rfl (vwv t2 a (sl g9 n c9)) _ HQC.out hdv.1 hdv.2 info29 ?_))
  clear hW8 hW9 f15 e15 y15 d0 x0 ht2 le1 le2
  obtain ⟨vc, hvc⟩ : ∃ v, sl g9 n c9 = v := ⟨_, rfl⟩
  have HB : Keep (Sep W W9 (boxA cb (vwv t2 a vc) 29 :: boxA b3 (vwv tb b vb) 29 :: boxA b2 (vwv ta a va) 29 :: rowV 33 5 vc n (fl snv A) :: [])) := ⟨by
    have q := HB9.out
    rw [hvc] at q
    exact bk1 [_, _, _] q.swap⟩
  have HLC : Keep (∀ {w : World}, Sep W w (boxA cb (vwv t2 a vc) 29 :: boxA b3 (vwv tb b vb) 29 :: boxA b2 (vwv ta a va) 29 :: rowV 33 5 vc n (fl snv A) :: []) → Ls snv 5 w vc A) := ⟨fun {w} h => by
    rw [← HLN.out] at h
    exact Ls.own snv_len h k3m⟩
  rw [hvc]
  clear HB9 hvc
  refine (eq_f _ ta t2 a a va vc A A (HLA.out.kept HB.out.g) (HLC.out HB.out) HN.out.1 (fun h => HT2.out h.1)).mono ?_
  rintro e wc8 ⟨rfl, g_⟩
  replace HB := Keep.mk (HB.out.grown g_)
  clear g_ HQA HQC
  have HQA := Keep.mk ((HB.out.boxGet k2m).range)
  have HQC := Keep.mk ((HB.out.boxGet k0m).range)
  go_wp2_with (first
    | (with_reducible show wpList _ _ _ ({ dst := some 71, op := Op.load 29 _, type := _, pos := _, after := _, guard := _ } :: _) _ _
       refine load_g rfl 29 _ rfl _ _ rfl (vwv t2 a vc) _ HQC.out hdv.1 hdv.2 info29 ?_)
    | (with_reducible show wpList _ _ _ ({ dst := some 72, op := Op.load 29 _, type := _, pos := _, after := _, guard := _ } :: _) _ _
       refine load_g rfl 29 _ rfl _ _ rfl (vwv t2 a vc) _ HQC.out hdv.1 hdv.2 info29 ?_))
  refine (eq_s _ t2 a vc A (HLC.out HB.out) HN.out.1).mono ?_
  rintro e wc9 ⟨rfl, g_⟩
  replace HB := Keep.mk (HB.out.grown g_)
  clear g_ HQA HQC
  go_wp2_with fail
  go_ret
  exact ⟨rfl, HB.out.g⟩
end Go.Proofs.YtgedlabmndlooaaGreat
