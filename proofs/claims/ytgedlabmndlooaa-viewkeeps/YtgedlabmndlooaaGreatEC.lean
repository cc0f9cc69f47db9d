/- view: the reference's Equal -/
import Derived.Test.YtgedlabmndlooaaGreatEB
namespace Go.Proofs.YtgedlabmndlooaaGreat
open Go Go.RowKit Go.Maps Go.Shelf Go.Lib Go.Sort

set_option maxRecDepth 100000 in
set_option maxHeartbeats 16000000 in
theorem req_c (W : World) (ta tb : Int) (a b : Cr) (va vb : Value) (A B : List Sn) (ha : Ls snv 5 W va A) (hb : Ls snv 5 W vb B) (hn : A.length ≤ 281474976710656) :
    Calls Tryz.prog 10 #[vlV ta a va, vlV tb b vb] W fun e W' => e = .returned (.bool (decide (ta = tb ∧ a = b ∧ A = B))) ∧ W.grownBy W' none := by
  obtain ⟨res, hres⟩ : ∃ r, decide (ta = tb ∧ a = b ∧ A = B) = r := ⟨_, rfl⟩
  rw [hres]
  have HRES := Keep.mk hres
  clear hres
  obtain ⟨a1, c1, rfl, ha⟩ := ha
  obtain ⟨a2, c2, rfl, hb⟩ := hb
  obtain ⟨m, hma⟩ : ∃ n, A.length = n := ⟨_, rfl⟩
  obtain ⟨n, hnb⟩ : ∃ n, B.length = n := ⟨_, rfl⟩
  have HA := Keep.mk ha
  have HB0 := Keep.mk hb
  rw [hma] at hn ⊢
  rw [hnb]
  have HMA := Keep.mk hma
  have HNB := Keep.mk hnb
  have S1 := ((Sep.nil W).newBox #[.int .u64 ta, iv a.pl, .string a.nm, iv a.x, iv a.y, iv a.sx, iv a.sy, iv a.hd, iv a.he, iv a.en, iv a.am, iv a.co, iv a.wa, iv a.sp, iv a.sc, .slice a1 m c1] 29).newBox #[.int .u64 tb, iv b.pl, .string b.nm, iv b.x, iv b.y, iv b.sx, iv b.sy, iv b.hd, iv b.he, iv b.en, iv b.am, iv b.co, iv b.wa, iv b.sp, iv b.sc, .slice a2 n c2] 29
  simp only [World.size_alloc] at S1
  obtain ⟨b1, hb1⟩ : ∃ b, W.heap.size = b := ⟨_, rfl⟩
  obtain ⟨b2, hb2⟩ : ∃ b, b1 + 1 = b := ⟨_, rfl⟩
  obtain ⟨W1, hW1⟩ : ∃ w, (W.alloc (.cells #[.int .u64 ta, iv a.pl, .string a.nm, iv a.x, iv a.y, iv a.sx, iv a.sy, iv a.hd, iv a.he, iv a.en, iv a.am, iv a.co, iv a.wa, iv a.sp, iv a.sc, .slice a1 m c1] 29)).alloc (.cells #[.int .u64 tb, iv b.pl, .string b.nm, iv b.x, iv b.y, iv b.sx, iv b.sy, iv b.hd, iv b.he, iv b.en, iv b.am, iv b.co, iv b.wa, iv b.sp, iv b.sc, .slice a2 n c2] 29) = w := ⟨_, rfl⟩
  rw [hW1, hb1, hb2] at S1
  have HB : Keep (Sep W W1 [boxA b2 (vwv tb b (.slice a2 n c2)) 29, boxA b1 (vwv ta a (.slice a1 m c1)) 29]) := ⟨S1⟩
  have HR1 := Keep.mk (vwv_car (HB.out.boxGet k1m))
  have HR2 := Keep.mk (vwv_car (HB.out.boxGet k0m))
  have c10 := (HB.out.boxGet k1m).cellv 0 _ rfl
  have c20 := (HB.out.boxGet k0m).cellv 0 _ rfl
  have c1f := (HB.out.boxGet k1m).cellv 15 _ rfl
  have c2f := (HB.out.boxGet k0m).cellv 15 _ rfl
  obtain ⟨dc, hdc⟩ := under26
  obtain ⟨du, hdu⟩ := under33
  clear S1 ha hb hma hnb
  by_cases ht : ta = tb
  · have t1 : (ta == tb) = true := by simp [ht]
    have t2 : decide (ta = tb) = true := by simp [ht]
    have t3 : (ta != tb) = false := by simp [ht]
    have HT := Keep.mk ht
    clear ht
    by_cases hab : a = b
    · have HE : Keep (∀ w, (Op.equalIn 10000 26 (.agg (crv a).toArray) (.agg (crv b).toArray)).run Tryz.prog w = .ok true w) := ⟨fun w => by rw [eqC, decide_eq_true hab]⟩
      have hE := HE.out
      have HAB := Keep.mk hab
      clear hab
      by_cases hmn : m = n
      · subst hmn
        go_enter Tryz.func10, Tryz.ntmps10
        go_wp2_with (first
          | (with_reducible show wpList _ _ _ ({ dst := some 13, op := Op.load 26 _, type := _, pos := _, after := _, guard := _ } :: _) _ _
             refine load_g rfl 26 _ rfl b1 1 rfl (crv a) _ HR1.out hdc.1 hdc.2 info26 ?_)
          | (with_reducible show wpList _ _ _ ({ dst := some 15, op := Op.load 26 _, type := _, pos := _, after := _, guard := _ } :: _) _ _
             refine load_g rfl 26 _ rfl b2 1 rfl (crv b) _ HR2.out hdc.1 hdc.2 info26 ?_))
        clear hW1 hb1 hb2 hE c10 c20 c1f c2f t1 t2 t3
        go_loopw [5] (fun u5 wr => ∃ i : Nat, i ≤ m ∧ u5 = iv i ∧ Keep (A.take i = B.take i) ∧ Keep (Sep W wr [boxA b2 (vwv tb b (.slice a2 m c2)) 29, boxA b1 (vwv ta a (.slice a1 m c1)) 29])) (fun u5 _ => (m - intOf u5).toNat)
        case atStart => exact ⟨0, by omega, rfl, ⟨rfl⟩, HB⟩
        case round =>
          clear HB
          obtain ⟨i, hi, rfl, HI, HB⟩ := hrel
          have d1 := (HB.out.boxGet k1m).cellv 15 _ rfl
          by_cases hlt : i < m
          · have hlt1 : (i : Int) < (m : Int) := by omega
            have hi0 : (0 : Int) ≤ (i : Int) := by omega
            have hit : ((i : Nat) : Int).toNat = i := by omega
            have hiw : IntKind.i64.wrap ((i : Int) + 1) = ((i + 1 : Nat) : Int) := by rw [IntKind.wrap_i64]; omega
            obtain ⟨x, hx⟩ : ∃ x, A[i]? = some x := ⟨_, List.getElem?_eq_getElem (by rw [HMA.out]; exact hlt)⟩
            obtain ⟨y, hy⟩ : ∃ y, B[i]? = some y := ⟨_, List.getElem?_eq_getElem (by rw [HNB.out]; exact hlt)⟩
            obtain ⟨g1, o1, e1, q1⟩ := HA.out (by rw [HMA.out]; omega)
            obtain ⟨g2, o2, e2, q2⟩ := HB0.out (by rw [HNB.out]; omega)
            subst e1 e2
            have HX : Keep (W.rangeAt g1 (o1 + i * 5) (snv x)) := ⟨q1 i x hx⟩
            have HY : Keep (W.rangeAt g2 (o2 + i * 5) (snv y)) := ⟨q2 i y hy⟩
            obtain ⟨bb, hbb⟩ : ∃ bb, decide (x = y) = bb := ⟨_, rfl⟩
            have HNE : Keep (∀ w, (Op.equalIn 10000 33 (.agg (snv x).toArray) (.agg (snv y).toArray)).run Tryz.prog w = .ok bb w) := ⟨fun w => by rw [← hbb]; exact eqN x y w⟩
            have HTk : Keep (A.take (i + 1) = A.take i ++ [x] ∧ B.take (i + 1) = B.take i ++ [y]) := ⟨⟨by rw [List.take_add_one, hx]; rfl, by rw [List.take_add_one, hy]; rfl⟩⟩
            have HF : Keep (bb = false → A ≠ B) := ⟨fun h e => by
              rw [h] at hbb
              have := of_decide_eq_false hbb
              subst e
              rw [hx] at hy
              injection hy with hy
              exact this hy⟩
            have HTr : Keep (bb = true → A.take (i + 1) = B.take (i + 1)) := ⟨fun h => by
              rw [h] at hbb
              rw [HTk.out.1, HTk.out.2, HI.out, of_decide_eq_true hbb]⟩
            have HIN : Keep (i < m) := ⟨hlt⟩
            clear q1 q2 hx hy hbb hlt hi
            go_wp2_with fail
            clear d1
            refine region_Y (S := fun w' => Sep W w' [boxA b2 (vwv tb b (.slice (some ⟨g2, o2, none⟩) m c2)) 29, boxA b1 (vwv ta a (.slice (some ⟨g1, o1, none⟩) m c1)) 29]) [] (by kernel_rfl) ?_
            obtain ⟨W0, hW0⟩ : ∃ W_, wr.drew = W_ := ⟨_, rfl⟩
            replace HB := Keep.mk (HB.out.grown (gr_drew _ none))
            rw [hW0] at HB ⊢
            clear hW0
            have hHeld : (fun w' => Sep W w' [boxA b2 (vwv tb b (.slice (some ⟨g2, o2, none⟩) m c2)) 29, boxA b1 (vwv ta a (.slice (some ⟨g1, o1, none⟩) m c1)) 29]) W0 := HB.out
            refine wpAnyY_pure (i := 0) (oi := _) (v := ?_) rfl (by kernel_rfl) (by kernel_rfl) (by kernel_rfl) (by kernel_rfl) (fun _ _ _ h => h) (Or.inl ⟨by rfl, ?_⟩) ?_
            rotate_left
            · (intro w hSw; go_simp; first | done | (with_reducible rfl))
            simp only [Act.put, List.getElem_toArray, List.getElem_cons_zero, List.setIfInBounds_toArray, List.set_cons_zero, List.set_cons_succ]
            refine wpAnyY_take (i := 1) (oi := _) (v := ?_) rfl (by kernel_rfl) (by kernel_rfl) (by kernel_rfl) (by kernel_rfl) (by kernel_rfl) (fun _ _ _ h => h) (Or.inl ⟨by rfl, ?_⟩) (by assumption) ?_
            rotate_left
            · (intro w hSw; have q := (hSw.boxGet k1m).cellv 15 _ rfl; go_simp; first | done | (with_reducible rfl))
            simp only [Act.put, List.getElem_toArray, List.getElem_cons_succ, List.getElem_cons_zero, List.setIfInBounds_toArray, List.set_cons_zero, List.set_cons_succ]
            refine wpAnyY_pure (i := 2) (oi := _) (v := ?_) rfl (by kernel_rfl) (by kernel_rfl) (by kernel_rfl) (by kernel_rfl) (fun _ _ _ h => h) (Or.inl ⟨by rfl, ?_⟩) ?_
            rotate_left
            · (intro w hSw; go_simp; first | done | (with_reducible rfl))
            simp only [Act.put, List.getElem_toArray, List.getElem_cons_succ, List.getElem_cons_zero, List.setIfInBounds_toArray, List.set_cons_zero, List.set_cons_succ]
            refine wpAnyY_pure (i := 3) (oi := _) (v := ?_) rfl (by kernel_rfl) (by kernel_rfl) (by kernel_rfl) (by kernel_rfl) (fun _ _ _ h => h) (Or.inl ⟨by rfl, ?_⟩) ?_
            rotate_left
            · (intro w hSw; go_simp; first | done | (with_reducible rfl))
            simp only [Act.put, List.getElem_toArray, List.getElem_cons_succ, List.getElem_cons_zero, List.setIfInBounds_toArray, List.set_cons_zero, List.set_cons_succ]
            refine wpAnyY_take (i := 4) (oi := _) (v := .agg (snv x).toArray) rfl (by kernel_rfl) (by kernel_rfl) (by kernel_rfl) (by kernel_rfl) (by kernel_rfl) (fun _ _ _ h => h) (yieldsIf_load_mid (by rfl) 33 _ rfl _ _ rfl _ _ (fun w hSw => fun r u hu => hSw.g.cell (HX.out r u hu) (by simp)) hdu.1 hdu.2 info33) (by assumption) ?_
            simp only [Act.put, List.getElem_toArray, List.getElem_cons_succ, List.getElem_cons_zero, List.setIfInBounds_toArray, List.set_cons_zero, List.set_cons_succ]
            refine wpAnyY_pure (i := 5) (oi := _) (v := ?_) rfl (by kernel_rfl) (by kernel_rfl) (by kernel_rfl) (by kernel_rfl) (fun _ _ _ h => h) (Or.inl ⟨by rfl, ?_⟩) ?_
            rotate_left
            · (intro w hSw; go_simp; first | done | (with_reducible rfl))
            simp only [Act.put, List.getElem_toArray, List.getElem_cons_succ, List.getElem_cons_zero, List.setIfInBounds_toArray, List.set_cons_zero, List.set_cons_succ]
            refine wpAnyY_take (i := 6) (oi := _) (v := ?_) rfl (by kernel_rfl) (by kernel_rfl) (by kernel_rfl) (by kernel_rfl) (by kernel_rfl) (fun _ _ _ h => h) (Or.inl ⟨by rfl, ?_⟩) (by assumption) ?_
            rotate_left
            · (intro w hSw; have q := (hSw.boxGet k0m).cellv 15 _ rfl; go_simp; first | done | (with_reducible rfl))
            simp only [Act.put, List.getElem_toArray, List.getElem_cons_succ, List.getElem_cons_zero, List.setIfInBounds_toArray, List.set_cons_zero, List.set_cons_succ]
            refine wpAnyY_pure (i := 7) (oi := _) (v := ?_) rfl (by kernel_rfl) (by kernel_rfl) (by kernel_rfl) (by kernel_rfl) (fun _ _ _ h => h) (Or.inl ⟨by rfl, ?_⟩) ?_
            rotate_left
            · (intro w hSw; go_simp; first | done | (with_reducible rfl))
            simp only [Act.put, List.getElem_toArray, List.getElem_cons_succ, List.getElem_cons_zero, List.setIfInBounds_toArray, List.set_cons_zero, List.set_cons_succ]
            refine wpAnyY_pure (i := 8) (oi := _) (v := ?_) rfl (by kernel_rfl) (by kernel_rfl) (by kernel_rfl) (by kernel_rfl) (fun _ _ _ h => h) (Or.inl ⟨by rfl, ?_⟩) ?_
            rotate_left
            · (intro w hSw; go_simp; first | done | (with_reducible rfl))
            simp only [Act.put, List.getElem_toArray, List.getElem_cons_succ, List.getElem_cons_zero, List.setIfInBounds_toArray, List.set_cons_zero, List.set_cons_succ]
            refine wpAnyY_take (i := 9) (oi := _) (v := .agg (snv y).toArray) rfl (by kernel_rfl) (by kernel_rfl) (by kernel_rfl) (by kernel_rfl) (by kernel_rfl) (fun _ _ _ h => h) (yieldsIf_load_mid (by rfl) 33 _ rfl _ _ rfl _ _ (fun w hSw => fun r u hu => hSw.g.cell (HY.out r u hu) (by simp)) hdu.1 hdu.2 info33) (by assumption) ?_
            simp only [Act.put, List.getElem_toArray, List.getElem_cons_succ, List.getElem_cons_zero, List.setIfInBounds_toArray, List.set_cons_zero, List.set_cons_succ]
            refine wpAnyY_pure (i := 10) (oi := _) (v := .bool (!bb)) rfl (by kernel_rfl) (by kernel_rfl) (by kernel_rfl) (by kernel_rfl) (fun _ _ _ h => h) (Or.inl ⟨by rfl, ?_⟩) ?_
            · (intro w hSw; have q := HNE.out w; go_simp; first | done | rfl | (simp; done) | trace_state)
            simp only [Act.put, List.getElem_toArray, List.getElem_cons_succ, List.getElem_cons_zero, List.setIfInBounds_toArray, List.set_cons_zero, List.set_cons_succ]
            refine wpAnyY_done (by kernel_rfl) ?_ _
            clear hHeld
            cases bb
            · have HE2 : Keep (decide (ta = tb ∧ a = b ∧ A = B) = false) := ⟨decide_eq_false (fun h => HF.out rfl h.2.2)⟩
              go_wp2_with fail
              go_ret
              exact ⟨by rw [← HRES.out, HE2.out]; rfl, HB.out.g⟩
            · have HI2 := Keep.mk (HTr.out rfl)
              go_wp2_with fail
              go_roundw
              case rel => exact ⟨i + 1, HIN.out, rfl, HI2, HB⟩
              case measure => simp [intOf]; have := HIN.out; omega
          · have hlt1 : ¬ (i : Int) < (m : Int) := by omega
            have HE2 : Keep (decide (ta = tb ∧ a = b ∧ A = B) = true) := ⟨decide_eq_true ⟨HT.out, HAB.out, by
              have q := HI.out
              rw [show i = A.length by rw [HMA.out]; omega, List.take_length, show A.length = B.length by rw [HMA.out, HNB.out], List.take_length] at q
              exact q⟩⟩
            clear hlt hi
            go_wp2_with fail
            go_ret
            exact ⟨by rw [← HRES.out, HE2.out]; rfl, HB.out.g⟩
      · have m1 : ((m : Int) == (n : Int)) = false := by simp; omega
        have m2 : ((m : Int) != (n : Int)) = true := by rw [bne, m1]; rfl
        have m3 : decide ((m : Int) = (n : Int)) = false := by simp; omega
        have m4 : (m == n) = false := by simp [hmn]
        have m5 : decide (m = n) = false := by simp [hmn]
        have HF : Keep (decide (ta = tb ∧ a = b ∧ A = B) = false) := ⟨decide_eq_false (fun h => hmn (by rw [← HMA.out, ← HNB.out, h.2.2]))⟩
        clear hmn
        go_enter Tryz.func10, Tryz.ntmps10
        go_wp2_with (first
          | (with_reducible show wpList _ _ _ ({ dst := some 13, op := Op.load 26 _, type := _, pos := _, after := _, guard := _ } :: _) _ _
             refine load_g rfl 26 _ rfl b1 1 rfl (crv a) _ HR1.out hdc.1 hdc.2 info26 ?_)
          | (with_reducible show wpList _ _ _ ({ dst := some 15, op := Op.load 26 _, type := _, pos := _, after := _, guard := _ } :: _) _ _
             refine load_g rfl 26 _ rfl b2 1 rfl (crv b) _ HR2.out hdc.1 hdc.2 info26 ?_))
        go_ret
        exact ⟨by rw [← HRES.out, HF.out]; rfl, HB.out.g⟩
    · have HE : Keep (∀ w, (Op.equalIn 10000 26 (.agg (crv a).toArray) (.agg (crv b).toArray)).run Tryz.prog w = .ok false w) := ⟨fun w => by rw [eqC, decide_eq_false hab]⟩
      have hE := HE.out
      have HF : Keep (decide (ta = tb ∧ a = b ∧ A = B) = false) := ⟨decide_eq_false (fun h => hab h.2.1)⟩
      clear hab
      go_enter Tryz.func10, Tryz.ntmps10
      go_wp2_with (first
        | (with_reducible show wpList _ _ _ ({ dst := some 13, op := Op.load 26 _, type := _, pos := _, after := _, guard := _ } :: _) _ _
           refine load_g rfl 26 _ rfl b1 1 rfl (crv a) _ HR1.out hdc.1 hdc.2 info26 ?_)
        | (with_reducible show wpList _ _ _ ({ dst := some 15, op := Op.load 26 _, type := _, pos := _, after := _, guard := _ } :: _) _ _
           refine load_g rfl 26 _ rfl b2 1 rfl (crv b) _ HR2.out hdc.1 hdc.2 info26 ?_))
      go_ret
      exact ⟨by rw [← HRES.out, HF.out]; rfl, HB.out.g⟩
  · have t1 : (ta == tb) = false := by simp [ht]
    have t2 : decide (ta = tb) = false := by simp [ht]
    have t3 : (ta != tb) = true := by simp [ht]
    have HF : Keep (decide (ta = tb ∧ a = b ∧ A = B) = false) := ⟨decide_eq_false (fun h => ht h.1)⟩
    clear ht
    go_enter Tryz.func10, Tryz.ntmps10
    go_wp2_with fail
    go_ret
    exact ⟨by rw [← HRES.out, HF.out]; rfl, HB.out.g⟩
end Go.Proofs.YtgedlabmndlooaaGreat
