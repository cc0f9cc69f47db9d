/- slices: CompactFunc -/
import Derived.Test.YtgedlabmndlooaaGreatC9
namespace Go.Proofs.YtgedlabmndlooaaGreat
open Go Go.RowKit Go.Maps

theorem own_capk {lo : Nat} {W : World} {e : TypeId} {k g n c : Nat} {xs : List Value} (h : W.ownsRow lo e k (sl g n c) n xs) : n ≤ c := by
  rcases h.2 with ⟨q, _⟩ | ⟨g', cap, cur, q, _, _, q3, _⟩
  · cases q
  · injection q with _ _ q2
    omega
structure CptC (w0 W : World) (l : List As) (L : List Cr) (v : Value) : Prop where
  o : Sep w0 W (rowV 26 14 v (dd (fun c : Cr => c.pl) L).length (fl crv (dd (fun c : Cr => c.pl) L)) :: l)
def zvC : List Value := [iv 0, .string ByteArray.empty, iv 0, iv 0, iv 0, iv 0, iv 0, iv 0, iv 0, iv 0, iv 0, iv 0, iv 0, iv 0]
theorem zvalC : ∀ w, (zeroValue 26).run Tryz.prog w = .ok (.agg zvC.toArray) w := by intro w; kernel_rfl
theorem undSC : Tryz.prog.underlying 34 = some (.slice 26) := by kernel_rfl
theorem zcC (n : Nat) : ∀ u ∈ (Builtin.zeroCells (Value.agg zvC.toArray).cells n).toList, u.oneCell' = true := by
  intro u hu
  have : u ∈ zvC := by
    change u ∈ (Builtin.zeroCells zvC.toArray n).toList at hu
    simp only [Builtin.zeroCells, Array.toList_map, List.mem_map] at hu
    obtain ⟨i, _, rfl⟩ := hu
    have hi : i % zvC.toArray.size < zvC.toArray.size := Nat.mod_lt _ (by decide)
    rw [getElem!_pos zvC.toArray (i % zvC.toArray.size) hi]
    exact List.mem_of_getElem? (show zvC[i % zvC.toArray.size]? = _ by rw [← List.getElem?_toArray, Array.getElem?_eq_getElem hi])
  simp only [zvC, List.mem_cons, List.not_mem_nil, or_false] at this
  rcases this with rfl | rfl | rfl | rfl | rfl | rfl | rfl | rfl | rfl | rfl | rfl | rfl | rfl | rfl <;> rfl
set_option maxRecDepth 100000 in
set_option maxHeartbeats 16000000 in
theorem cptC (w0 W : World) (l : List As) (g n c kb : Nat) (L : List Cr) (hn : L.length = n) (hn2 : 2 ≤ n) (hn1 : n ≤ 281474976710656) (hkb : boxA kb [nvC] 86 ∈ l)
    (h : Sep w0 W (rowV 26 14 (sl g n c) n (fl crv (L)) :: l)) :
    Calls Tryz.prog 57 #[sl g n c, evC kb] W fun e W' => ∃ v, e = .returned v ∧ CptC w0 W' l L v := by
  have HKB := Keep.mk hkb
  have HLN := Keep.mk hn
  have HN0 : Keep (0 < n) := ⟨by omega⟩
  have hcap := own_capk (h.rowGet k0m)
  have HB0 := Keep.mk h
  have h2 : ¬ (n : Int) < 2 := by omega
  obtain ⟨du, hdu⟩ := under26
  have ee := eeqC
  clear h hkb
  go_enter Tryz.func57, Tryz.ntmps57
  go_wp2_with fail
  go_loopw [5] (fun u5 wr => ∃ j : Nat, 1 ≤ j ∧ j ≤ n ∧ u5 = iv j ∧ Keep (dd (fun c : Cr => c.pl) (L.take j) = L.take j) ∧ Keep (Sep w0 wr (rowV 26 14 (sl g n c) n (fl crv (L)) :: l))) (fun u5 _ => (n - intOf u5).toNat)
  case atStart => exact ⟨1, Nat.le_refl _, by omega, rfl, ⟨dd_short (by rw [List.length_take]; omega)⟩, HB0⟩
  case round =>
    clear HB0
    obtain ⟨j, hj1, hjn, rfl, HD, HB⟩ := hrel
    by_cases hlt : j < n
    · have hlt1 : (j : Int) < (n : Int) := by omega
      obtain ⟨j1, hjj⟩ : ∃ j1, j = j1 + 1 := ⟨j - 1, by omega⟩
      obtain ⟨x, hx⟩ : ∃ x, L[j]? = some x := ⟨_, List.getElem?_eq_getElem (by rw [hn]; exact hlt)⟩
      obtain ⟨y, hy⟩ : ∃ y, L[j1]? = some y := ⟨_, List.getElem?_eq_getElem (by rw [hn]; omega)⟩
      have GX := Keep.mk hx
      have GY := Keep.mk hy
      have Hj : Keep (j < n) := ⟨hlt⟩
      have Hj1 : Keep (j1 < n) := ⟨by omega⟩
      have hjw : IntKind.i64.wrap ((j : Int) - 1) = ((j1 : Nat) : Int) := by rw [IntKind.wrap_i64]; omega
      have hjp : IntKind.i64.wrap ((j : Int) + 1) = ((j + 1 : Nat) : Int) := by rw [IntKind.wrap_i64]; omega
      have HSN : Keep (dd (fun c : Cr => c.pl) (L.take (j + 1)) = if x.pl = y.pl then L.take j else L.take j ++ [x]) := ⟨by
        have ex : L.take (j + 1) = L.take j ++ [x] := by rw [List.take_add_one, hx]; rfl
        have ey : (L.take j).getLast? = some y := by
          rw [List.getLast?_eq_getElem?, List.length_take, Nat.min_eq_left (by omega), List.getElem?_take, if_pos (by omega), show j - 1 = j1 by omega]
          exact hy
        rw [ex, dd_snoc (key := (fun c : Cr => c.pl)) ey, HD.out]⟩
      have HTK : Keep (L.take (j + 1) = L.take j ++ [x]) := ⟨by rw [List.take_add_one, hx]; rfl⟩
      have HJN : Keep (1 ≤ j ∧ j < n ∧ j = j1 + 1) := ⟨⟨hj1, hlt, hjj⟩⟩
      have hja : (0 : Int) ≤ (j : Int) := by omega
      have hjb : (j : Int) < (n : Int) := by have := Hj.out; omega
      have hjc : ((j : Nat) : Int).toNat = j := by omega
      have hj1a : (0 : Int) ≤ (j1 : Int) := by omega
      have hj1b : (j1 : Int) < (n : Int) := by have := Hj1.out; omega
      have hj1c : ((j1 : Nat) : Int).toNat = j1 := by omega
      clear hx hy hj1 hjn hjj hlt HD
      as_aux_lemma =>
        go_wp2_with fail
        refine region_Y (S := fun w' => Sep w0 w' (rowV 26 14 (sl g n c) n (fl crv (L)) :: l)) [] (by kernel_rfl) ?_
        obtain ⟨W0, hW0⟩ : ∃ W_, wr.drew = W_ := ⟨_, rfl⟩
        replace HB := Keep.mk (HB.out.grown (gr_drew _ none))
        rw [hW0] at HB ⊢
        clear hW0
        have hHeld : (fun w' => Sep w0 w' (rowV 26 14 (sl g n c) n (fl crv (L)) :: l)) W0 := HB.out
        refine yp (i := 0) (v := ?_) rfl (Or.inl ⟨by rfl, ?_⟩) ?_
        rotate_left
        · (intro w hSw; go_simp; first | done | (with_reducible rfl))
        simp only [Act.put, A1, A3, A4, A5, A6]
        refine yp (i := 1) (v := ?_) rfl (Or.inl ⟨by rfl, ?_⟩) ?_
        rotate_left
        · (intro w hSw; go_simp; first | done | (with_reducible rfl))
        simp only [Act.put, A1, A2, A3, A4, A5, A6]
        refine yp (i := 2) (v := ?_) rfl (Or.inl ⟨by rfl, ?_⟩) ?_
        rotate_left
        · (intro w hSw; go_simp; first | done | (with_reducible rfl))
        simp only [Act.put, A1, A2, A3, A4, A5, A6]
        refine yp (i := 3) (v := ?_) rfl (Or.inl ⟨by rfl, ?_⟩) ?_
        rotate_left
        · (intro w hSw; go_simp; first | done | (with_reducible rfl))
        simp only [Act.put, A1, A2, A3, A4, A5, A6]
        refine yt (i := 4) (v := .agg (crv x).toArray) rfl (yieldsIf_load_mid (by rfl) 26 _ rfl _ _ rfl _ _ (fun w hSw => fl_range crv_len (hSw.rowGet k0m) HN0.out j x GX.out) hdu.1 hdu.2 info26) (by assumption) ?_
        simp only [Act.put, A1, A2, A3, A4, A5, A6]
        refine yp (i := 5) (v := ?_) rfl (Or.inl ⟨by rfl, ?_⟩) ?_
        rotate_left
        · (intro w hSw; go_simp; first | done | (with_reducible rfl))
        simp only [Act.put, A1, A2, A3, A4, A5, A6]
        refine yp (i := 6) (v := ?_) rfl (Or.inl ⟨by rfl, ?_⟩) ?_
        rotate_left
        · (intro w hSw; go_simp; first | done | (with_reducible rfl))
        simp only [Act.put, A1, A2, A3, A4, A5, A6]
        refine yp (i := 7) (v := ?_) rfl (Or.inl ⟨by rfl, ?_⟩) ?_
        rotate_left
        · (intro w hSw; go_simp; first | done | (with_reducible rfl))
        simp only [Act.put, A1, A2, A3, A4, A5, A6]
        refine yp (i := 8) (v := ?_) rfl (Or.inl ⟨by rfl, ?_⟩) ?_
        rotate_left
        · (intro w hSw; go_simp; first | done | (with_reducible rfl))
        simp only [Act.put, A1, A2, A3, A4, A5, A6]
        refine yt (i := 9) (v := .agg (crv y).toArray) rfl (yieldsIf_load_mid (by rfl) 26 _ rfl _ _ rfl _ _ (fun w hSw => fl_range crv_len (hSw.rowGet k0m) HN0.out j1 y GY.out) hdu.1 hdu.2 info26) (by assumption) ?_
        simp only [Act.put, A1, A2, A3, A4, A5, A6]
        refine wpAnyY_one (i := 10) (by kernel_rfl) rfl (fun K hK => ?_)
        go_simp
        refine (eqcC kb x y _ (HB.out.boxGet (List.mem_cons_of_mem _ HKB.out))).mono ?_
        rintro e wg ⟨rfl, hg⟩
        have HB2 := Keep.mk (HB.out.grown hg)
        refine hK.out _ _ (fun _ => HB2.out) ?_
        clear hK K hg HB hHeld
        have HB := HB2
        clear HB2
        have hHeld := HB.out
        refine wpAnyY_done (by kernel_rfl) ?_ _
        clear hHeld
        by_cases hxy : x.pl = y.pl
        · have hb : (x.pl == y.pl) = true := by simp [hxy]
          have HSN2 : Keep (dd (fun c : Cr => c.pl) (L.take (j + 1)) = L.take j) := ⟨by rw [HSN.out, if_pos hxy]⟩
          rw [hb]
          clear hxy hb HSN
          have hcj1 : (j : Int) ≤ (c : Int) := by omega
          have hcj2 : ¬ (c : Int) = (j : Int) := by omega
          have hcj3 : ¬ c = j := by omega
          have hnc : (n : Int) ≤ (c : Int) := by omega
          have HB0 : Keep (∃ (C Z : List Cr) (z : Cr), C = dd (fun c : Cr => c.pl) (L.take (j + 1)) ∧ C.length = j ∧ (C ++ Z).length = j + 1 ∧ Z.getLast? = some z ∧ L[j + 1 - 1]? = some z ∧ Sep w0 wg (rowV 26 14 (sl g n c) n (fl crv (C ++ Z ++ L.drop (j + 1))) :: l)) := ⟨⟨L.take j, [x], x, HSN2.out.symm, by rw [List.length_take]; omega, by rw [List.length_append, List.length_take, List.length_singleton]; omega, rfl, by rw [Nat.add_sub_cancel]; exact GX.out, by rw [← HTK.out, List.take_append_drop]; exact HB.out⟩⟩
          have HJC : Keep (j < n ∧ n ≤ c ∧ 1 ≤ j) := ⟨by have hz := HJN.out; omega⟩
          clear HB HSN2 GX GY HTK
          go_wp2_with fail
          obtain ⟨n2, hn2'⟩ : ∃ m, n - j = m := ⟨_, rfl⟩
          obtain ⟨c2, hc2⟩ : ∃ m, c - j = m := ⟨_, rfl⟩
          rw [hn2', hc2]
          have HN2 : Keep (j + n2 = n) := ⟨by have := HJC.out; omega⟩
          clear hn2' hc2 hcap
          as_aux_lemma =>
            go_loopw [5, 7] (fun u5 u7 wr => ∃ kk k2 : Nat, 1 ≤ k2 ∧ k2 ≤ n2 ∧ u5 = iv kk ∧ u7 = iv k2 ∧ Keep (∃ (C Z : List Cr) (z : Cr), C = dd (fun c : Cr => c.pl) (L.take (j + k2)) ∧ C.length = kk ∧ (C ++ Z).length = j + k2 ∧ Z.getLast? = some z ∧ L[j + k2 - 1]? = some z ∧ Sep w0 wr (rowV 26 14 (sl g n c) n (fl crv (C ++ Z ++ L.drop (j + k2))) :: l))) (fun _ u7 _ => (n2 - intOf u7).toNat)
            case atStart => exact ⟨j, 1, Nat.le_refl _, by have := HN2.out; have := HJC.out; omega, rfl, rfl, HB0⟩
            case round =>
              clear HB0
              obtain ⟨kk, k2, hk1, hk2, rfl, rfl, HI⟩ := hrel
              obtain ⟨C, Z, z, e1, e2, e3, e4, e5, S1⟩ := HI.out
              have HB := Keep.mk S1
              have hnn := HN2.out
              have hjcc := HJC.out
              have hZ : Z ≠ [] := by rintro rfl; simp at e4
              have hZ0 : 0 < Z.length := List.length_pos_iff.2 hZ
              have hkk : kk < j + k2 := by rw [List.length_append] at e3; omega
              by_cases hlt : k2 < n2
              · have hlt1 : (k2 : Int) < (n2 : Int) := by omega
                obtain ⟨k3, hk3⟩ : ∃ k3, k2 = k3 + 1 := ⟨k2 - 1, by omega⟩
                obtain ⟨x', hx'⟩ : ∃ x, L[j + k2]? = some x := ⟨_, List.getElem?_eq_getElem (by rw [hn]; omega)⟩
                obtain ⟨D, hD⟩ : ∃ D, C ++ Z ++ L.drop (j + k2) = D := ⟨_, rfl⟩
                rw [hD] at HB
                have hdr : L.drop (j + k2) = x' :: L.drop (j + k2 + 1) := by
                  have hl : j + k2 < L.length := by rw [hn]; omega
                  rw [List.drop_eq_getElem_cons hl]
                  congr 1
                  exact (List.getElem?_eq_some_iff.1 hx').2
                have GX : Keep (D[j + k2]? = some x') := ⟨by rw [← hD, List.getElem?_append_right (by omega), e3, Nat.sub_self, hdr]; rfl⟩
                have GY : Keep (D[j + k3]? = some z) := ⟨by
                  rw [← hD, List.getElem?_append_left (by omega), List.getElem?_append_right (by rw [List.length_append] at e3; omega), show j + k3 - C.length = Z.length - 1 by rw [List.length_append] at e3; omega, ← List.getLast?_eq_getElem?]
                  exact e4⟩
                have HDL : Keep (D.length = n) := ⟨by rw [← hD, List.length_append, e3, List.length_drop, hn]; omega⟩
                have HSN : Keep (dd (fun c : Cr => c.pl) (L.take (j + (k2 + 1))) = if x'.pl = z.pl then C else C ++ [x']) := ⟨by
                  have ex : L.take (j + (k2 + 1)) = L.take (j + k2) ++ [x'] := by rw [← Nat.add_assoc, List.take_add_one, hx']; rfl
                  have ey : (L.take (j + k2)).getLast? = some z := by
                    rw [List.getLast?_eq_getElem?, List.length_take, Nat.min_eq_left (by rw [hn]; omega), List.getElem?_take, if_pos (by omega)]
                    exact e5
                  rw [ex, dd_snoc (key := (fun c : Cr => c.pl)) ey, ← e1]⟩
                obtain ⟨bb, hbb⟩ : ∃ bb, (x'.pl == z.pl) = bb := ⟨_, rfl⟩
                have HBB := Keep.mk hbb
                have hkw : IntKind.i64.wrap ((k2 : Int) - 1) = ((k3 : Nat) : Int) := by rw [IntKind.wrap_i64]; omega
                have hkp : IntKind.i64.wrap ((k2 : Int) + 1) = ((k2 + 1 : Nat) : Int) := by rw [IntKind.wrap_i64]; omega
                have hkkp : IntKind.i64.wrap ((kk : Int) + 1) = ((kk + 1 : Nat) : Int) := by rw [IntKind.wrap_i64]; omega
                have HR1 : Keep (bb = true → ∀ w', Sep w0 w' (rowV 26 14 (sl g n c) n (fl crv (D)) :: l) → ∃ (C Z : List Cr) (z : Cr), C = dd (fun c : Cr => c.pl) (L.take (j + (k2 + 1))) ∧ C.length = kk ∧ (C ++ Z).length = j + (k2 + 1) ∧ Z.getLast? = some z ∧ L[j + (k2 + 1) - 1]? = some z ∧ Sep w0 w' (rowV 26 14 (sl g n c) n (fl crv (C ++ Z ++ L.drop (j + (k2 + 1)))) :: l)) := ⟨fun hb w' S => by
                  have hxz : x'.pl = z.pl := by rw [hb] at hbb; simpa using hbb
                  refine ⟨C, Z ++ [x'], x', by rw [HSN.out, if_pos hxz], e2, by rw [← List.append_assoc, List.length_append, e3]; rfl, by simp, by rw [show j + (k2 + 1) - 1 = j + k2 by omega]; exact hx', ?_⟩
                  rw [← hD, hdr] at S
                  simpa only [List.append_assoc, List.cons_append, List.nil_append, Nat.add_assoc] using S⟩
                have HR2 : Keep (bb = false → ∀ w', Sep w0 w' (rowV 26 14 (sl g n c) n (fl crv (D.set kk x')) :: l) → ∃ (C Z : List Cr) (z : Cr), C = dd (fun c : Cr => c.pl) (L.take (j + (k2 + 1))) ∧ C.length = kk + 1 ∧ (C ++ Z).length = j + (k2 + 1) ∧ Z.getLast? = some z ∧ L[j + (k2 + 1) - 1]? = some z ∧ Sep w0 w' (rowV 26 14 (sl g n c) n (fl crv (C ++ Z ++ L.drop (j + (k2 + 1)))) :: l)) := ⟨fun hb w' S => by
                  have hxz : ¬ x'.pl = z.pl := by rw [hb] at hbb; simpa using hbb
                  obtain ⟨z0, Zt, rfl⟩ : ∃ z0 Zt, Z = z0 :: Zt := by
                    cases Z with
                    | nil => exact absurd rfl hZ
                    | cons a b => exact ⟨a, b, rfl⟩
                  refine ⟨C ++ [x'], Zt ++ [x'], x', by rw [HSN.out, if_neg hxz], by rw [List.length_append, e2]; rfl, ?_, by simp, by rw [show j + (k2 + 1) - 1 = j + k2 by omega]; exact hx', ?_⟩
                  · simp only [List.length_append, List.length_cons, List.length_nil] at e3 ⊢; omega
                  · rw [← hD, hdr, show C ++ z0 :: Zt ++ x' :: L.drop (j + k2 + 1) = C ++ (z0 :: (Zt ++ x' :: L.drop (j + k2 + 1))) by simp, ← e2, List.set_append_right _ _ (Nat.le_refl _), Nat.sub_self, List.set_cons_zero] at S
                    simpa only [List.append_assoc, List.cons_append, List.nil_append, Nat.add_assoc] using S⟩
                have HK : Keep (k2 < n2 ∧ kk < n ∧ j + k2 < n) := ⟨by omega⟩
                have hk2a : (0 : Int) ≤ (k2 : Int) := by omega
                have hk2c : ((k2 : Nat) : Int).toNat = k2 := by omega
                have hk3a : (0 : Int) ≤ (k3 : Int) := by omega
                have hk3b : (k3 : Int) < (n2 : Int) := by omega
                have hk3c : ((k3 : Nat) : Int).toNat = k3 := by omega
                have hkka : (0 : Int) ≤ (kk : Int) := by omega
                have hkkb : (kk : Int) < (n : Int) := by omega
                have hkkc : ((kk : Nat) : Int).toNat = kk := by omega
                clear HI S1 e1 e2 e3 e4 e5 hD hdr hx' HSN hbb hZ hZ0 hkk hk1 hk2 hk3 hnn hjcc hlt
                as_aux_lemma =>
                  go_wp2_with fail
                  refine region_Y (S := fun w' => Sep w0 w' (rowV 26 14 (sl g n c) n (fl crv (D)) :: l)) [] (by kernel_rfl) ?_
                  obtain ⟨W0, hW0⟩ : ∃ W_, wr.drew = W_ := ⟨_, rfl⟩
                  replace HB := Keep.mk (HB.out.grown (gr_drew _ none))
                  rw [hW0] at HB ⊢
                  clear hW0
                  have hHeld : (fun w' => Sep w0 w' (rowV 26 14 (sl g n c) n (fl crv (D)) :: l)) W0 := HB.out
                  refine yp (i := 0) (v := ?_) rfl (Or.inl ⟨by rfl, ?_⟩) ?_
                  rotate_left
                  · (intro w hSw; go_simp; first | done | (with_reducible rfl))
                  simp only [Act.put, A1, A3, A4, A5, A6]
                  refine yp (i := 1) (v := ?_) rfl (Or.inl ⟨by rfl, ?_⟩) ?_
                  rotate_left
                  · (intro w hSw; go_simp; first | done | (with_reducible rfl))
                  simp only [Act.put, A1, A2, A3, A4, A5, A6]
                  refine yp (i := 2) (v := ?_) rfl (Or.inl ⟨by rfl, ?_⟩) ?_
                  rotate_left
                  · (intro w hSw; go_simp; first | done | (with_reducible rfl))
                  simp only [Act.put, A1, A2, A3, A4, A5, A6]
                  refine yp (i := 3) (v := ?_) rfl (Or.inl ⟨by rfl, ?_⟩) ?_
                  rotate_left
                  · (intro w hSw; go_simp; first | done | (with_reducible rfl))
                  simp only [Act.put, A1, A2, A3, A4, A5, A6]
                  refine yt (i := 4) (v := .agg (crv x').toArray) rfl (yieldsIf_load_mid (by rfl) 26 _ rfl _ _ rfl _ _ (fun w hSw => by rw [← Nat.add_mul]; exact fl_range crv_len (hSw.rowGet k0m) HN0.out (j + k2) x' GX.out) hdu.1 hdu.2 info26) (by assumption) ?_
                  simp only [Act.put, A1, A2, A3, A4, A5, A6]
                  refine yp (i := 5) (v := ?_) rfl (Or.inl ⟨by rfl, ?_⟩) ?_
                  rotate_left
                  · (intro w hSw; go_simp; first | done | (with_reducible rfl))
                  simp only [Act.put, A1, A2, A3, A4, A5, A6]
                  refine yp (i := 6) (v := ?_) rfl (Or.inl ⟨by rfl, ?_⟩) ?_
                  rotate_left
                  · (intro w hSw; go_simp; first | done | (with_reducible rfl))
                  simp only [Act.put, A1, A2, A3, A4, A5, A6]
                  refine yp (i := 7) (v := ?_) rfl (Or.inl ⟨by rfl, ?_⟩) ?_
                  rotate_left
                  · (intro w hSw; go_simp; first | done | (with_reducible rfl))
                  simp only [Act.put, A1, A2, A3, A4, A5, A6]
                  refine yp (i := 8) (v := ?_) rfl (Or.inl ⟨by rfl, ?_⟩) ?_
                  rotate_left
                  · (intro w hSw; go_simp; first | done | (with_reducible rfl))
                  simp only [Act.put, A1, A2, A3, A4, A5, A6]
                  refine yt (i := 9) (v := .agg (crv z).toArray) rfl (yieldsIf_load_mid (by rfl) 26 _ rfl _ _ rfl _ _ (fun w hSw => by rw [← Nat.add_mul]; exact fl_range crv_len (hSw.rowGet k0m) HN0.out (j + k3) z GY.out) hdu.1 hdu.2 info26) (by assumption) ?_
                  simp only [Act.put, A1, A2, A3, A4, A5, A6]
                  refine wpAnyY_one (i := 10) (by kernel_rfl) rfl (fun K hK => ?_)
                  go_simp
                  refine (eqcC kb x' z _ (HB.out.boxGet (List.mem_cons_of_mem _ HKB.out))).mono ?_
                  rintro e wg ⟨rfl, hg⟩
                  have HB2 := Keep.mk (HB.out.grown hg)
                  refine hK.out _ _ (fun _ => HB2.out) ?_
                  clear hK K hg HB hHeld
                  have HB := HB2
                  clear HB2
                  have hHeld := HB.out
                  refine yt (i := 11) (v := .bool (!bb)) rfl (Or.inl ⟨by rfl, ?_⟩) (by assumption) ?_
                  · (intro w hSw; have q := HBB.out; go_simp; first | done | rfl | (simp; done) | trace_state)
                  simp only [Act.put, A1, A2, A3, A4, A5, A6]
                  refine wpAnyY_done (by kernel_rfl) ?_ _
                  clear hHeld
                  cases bb
                  · have HRG : Keep (wg.rangeAt g (j * 14 + k2 * 14) (crv x')) := ⟨by rw [← Nat.add_mul]; exact fl_range crv_len (HB.out.rowGet k0m) HN0.out (j + k2) x' GX.out⟩
                    have OW := Keep.mk (HB.out.rowGet k0m)
                    go_wp2_with (first
                      | (show wpList _ _ _ ({ dst := _, op := Op.load 26 _, type := _, pos := _, after := _, guard := _ } :: _) _ _
                         refine wpList_load_mid rfl 26 _ rfl _ _ rfl _ _ HRG.out hdu.1 hdu.2 info26 ?_)
                      | (show wpList _ _ _ ({ dst := _, op := Op.store 26 _ _, type := _, pos := _, after := _, guard := _ } :: _) _ _
                         refine store_row crv_len _ g n c kk D x' 26 26 rfl rfl rfl rfl OW.out HDL.out HK.out.2.1 info26 (crv_one x') ?_))
                    intro w8 hS8 _
                    have HE := Keep.mk (HR2.out (by simp) w8 (hS8 _ _ HB.out))
                    clear hS8 HB OW HRG HR1 HR2
                    go_wp2_with fail
                    go_roundw
                    case rel => exact ⟨kk + 1, k2 + 1, by omega, HK.out.1, rfl, rfl, HE⟩
                    case measure => simp [intOf]; have := HK.out; omega
                  · have HE := Keep.mk (HR1.out (by simp) wg HB.out)
                    clear HB HR1 HR2
                    go_wp2_with fail
                    go_roundw
                    case rel => exact ⟨kk, k2 + 1, by omega, HK.out.1, rfl, rfl, HE⟩
                    case measure => simp [intOf]; have := HK.out; omega
              · have hlt1 : ¬ (k2 : Int) < (n2 : Int) := by omega
                have hC : C = dd (fun c : Cr => c.pl) L := by rw [e1, show j + k2 = L.length by rw [hn]; omega, List.take_length]
                have hkn : kk < n := by omega
                obtain ⟨zs, hzs⟩ : ∃ zs, (Builtin.zeroCells (Value.agg zvC.toArray).cells (n - kk)).toList = zs := ⟨_, rfl⟩
                have hzl : zs.length = (n - kk) * 14 := by rw [← hzs]; exact zeroCells_len _ 14 _ rfl
                have hthr := row_there (HB.out.rowGet k0m) (by omega) (o := kk * 14) zs.length (by rw [hzl, ← Nat.add_mul]; exact Nat.mul_le_mul_right 14 (by omega))
                have HCL := Keep.mk (run_clear_rows (P := Tryz.prog) wr 34 26 0 (.agg zvC.toArray) undSC zvalC zs g (kk * 14) (n - kk) (c - kk) (by omega) hzs (by rw [← hzs]; exact zcC _) (fun i hi => (hthr i hi).1) (fun i hi => (hthr i hi).2))
                have S2 := Sep.rowSetsAt zs wr _ (kk * 14) HB.out
                have HE : Keep (CptC w0 (wr.setCells g (kk * 14) zs) l L (sl g kk c)) := ⟨⟨by
                  have q := S2.rowCutV kk (by omega)
                  rw [over_eq _ _ _ (by rw [fl_len crv_len, hzl, List.length_append, List.length_drop, e3, hn, ← Nat.add_mul]; exact Nat.mul_le_mul_right 14 (by omega)), List.append_assoc, List.take_append_of_le_length (by rw [List.length_take, fl_len crv_len, List.length_append, e3]; have := Nat.mul_le_mul_right 14 (show kk ≤ j + k2 + (L.drop (j + k2)).length by omega); omega), List.take_take, Nat.min_self, fl_take crv_len _ kk (by rw [List.length_append, e3]; omega), List.append_assoc, List.take_append_of_le_length (by omega), List.take_of_length_le (by omega)] at q
                  rw [← hC, e2]
                  exact q⟩⟩
                obtain ⟨wz, hwz⟩ : ∃ w, wr.setCells g (kk * 14) zs = w := ⟨_, rfl⟩
                rw [hwz] at HE HCL
                have hka : (kk : Int) ≤ (c : Int) := by omega
                have hka2 : ¬ (c : Int) = (kk : Int) := by omega
                have hka3 : ¬ c = kk := by omega
                have hkb : (kk : Int) ≤ (n : Int) := by omega
                have hkc : (0 : Int) ≤ (kk : Int) := by omega
                have hkd : ((kk : Nat) : Int).toNat = kk := by omega
                have hke : (n : Int) ≤ (c : Int) := by omega
                clear HI S1 S2 e1 e2 e3 e4 e5 hzs hzl hthr hC hZ hZ0 hkk hk1 hk2 hnn hjcc hlt HB hwz hkn
                go_wp2_with (first
                  | (show wpList _ _ _ ({ dst := _, op := Op.call { callee := Callee.builtin Builtin.clear, args := _, argTypes := _ }, type := _, pos := _, after := _, guard := _ } :: _) _ _
                     refine wpList_clear_run _ rfl (.tmp 61) 34 rfl _ rfl HCL.out ?_))
                go_ret
                exact ⟨_, rfl, HE.out⟩
        · have hb : (x.pl == y.pl) = false := by simp [hxy]
          have HD2 : Keep (dd (fun c : Cr => c.pl) (L.take (j + 1)) = L.take (j + 1)) := ⟨by rw [HSN.out, if_neg hxy, HTK.out]⟩
          rw [hb]
          clear hxy hb HSN
          go_wp2_with fail
          go_roundw
          case rel => exact ⟨j + 1, by omega, HJN.out.2.1, rfl, HD2, HB⟩
          case measure => simp [intOf]; have := HJN.out; omega
    · have hlt1 : ¬ (j : Int) < (n : Int) := by omega
      have HE : Keep (CptC w0 wr l L (sl g n c)) := ⟨⟨by
        have q := HD.out
        rw [show j = n by omega, ← hn, List.take_length] at q
        rw [q, hn]
        exact HB.out⟩⟩
      clear HD HB hj1 hjn hlt
      go_wp2_with fail
      go_ret
      exact ⟨_, rfl, HE.out⟩
structure CptS (w0 W : World) (l : List As) (L : List Sh) (v : Value) : Prop where
  o : Sep w0 W (rowV 46 7 v (dd (fun c : Sh => c.id) L).length (fl shv (dd (fun c : Sh => c.id) L)) :: l)
def zvS : List Value := [iv 0, iv 0, iv 0, iv 0, iv 0, iv 0, iv 0]
theorem zvalS : ∀ w, (zeroValue 46).run Tryz.prog w = .ok (.agg zvS.toArray) w := by intro w; kernel_rfl
theorem undSS : Tryz.prog.underlying 35 = some (.slice 46) := by kernel_rfl
theorem zcS (n : Nat) : ∀ u ∈ (Builtin.zeroCells (Value.agg zvS.toArray).cells n).toList, u.oneCell' = true := by
  intro u hu
  have : u ∈ zvS := by
    change u ∈ (Builtin.zeroCells zvS.toArray n).toList at hu
    simp only [Builtin.zeroCells, Array.toList_map, List.mem_map] at hu
    obtain ⟨i, _, rfl⟩ := hu
    have hi : i % zvS.toArray.size < zvS.toArray.size := Nat.mod_lt _ (by decide)
    rw [getElem!_pos zvS.toArray (i % zvS.toArray.size) hi]
    exact List.mem_of_getElem? (show zvS[i % zvS.toArray.size]? = _ by rw [← List.getElem?_toArray, Array.getElem?_eq_getElem hi])
  simp only [zvS, List.mem_cons, List.not_mem_nil, or_false] at this
  rcases this with rfl | rfl | rfl | rfl | rfl | rfl | rfl <;> rfl
set_option maxRecDepth 100000 in
set_option maxHeartbeats 16000000 in
theorem cptS (w0 W : World) (l : List As) (g n c kb : Nat) (L : List Sh) (hn : L.length = n) (hn2 : 2 ≤ n) (hn1 : n ≤ 281474976710656) (hkb : boxA kb [nvS] 91 ∈ l)
    (h : Sep w0 W (rowV 46 7 (sl g n c) n (fl shv (L)) :: l)) :
    Calls Tryz.prog 63 #[sl g n c, evS kb] W fun e W' => ∃ v, e = .returned v ∧ CptS w0 W' l L v := by
  have HKB := Keep.mk hkb
  have HLN := Keep.mk hn
  have HN0 : Keep (0 < n) := ⟨by omega⟩
  have hcap := own_capk (h.rowGet k0m)
  have HB0 := Keep.mk h
  have h2 : ¬ (n : Int) < 2 := by omega
  obtain ⟨du, hdu⟩ := under46
  have ee := eeqS
  clear h hkb
  go_enter Tryz.func63, Tryz.ntmps63
  go_wp2_with fail
  go_loopw [5] (fun u5 wr => ∃ j : Nat, 1 ≤ j ∧ j ≤ n ∧ u5 = iv j ∧ Keep (dd (fun c : Sh => c.id) (L.take j) = L.take j) ∧ Keep (Sep w0 wr (rowV 46 7 (sl g n c) n (fl shv (L)) :: l))) (fun u5 _ => (n - intOf u5).toNat)
  case atStart => exact ⟨1, Nat.le_refl _, by omega, rfl, ⟨dd_short (by rw [List.length_take]; omega)⟩, HB0⟩
  case round =>
    clear HB0
    obtain ⟨j, hj1, hjn, rfl, HD, HB⟩ := hrel
    by_cases hlt : j < n
    · have hlt1 : (j : Int) < (n : Int) := by omega
      obtain ⟨j1, hjj⟩ : ∃ j1, j = j1 + 1 := ⟨j - 1, by omega⟩
      obtain ⟨x, hx⟩ : ∃ x, L[j]? = some x := ⟨_, List.getElem?_eq_getElem (by rw [hn]; exact hlt)⟩
      obtain ⟨y, hy⟩ : ∃ y, L[j1]? = some y := ⟨_, List.getElem?_eq_getElem (by rw [hn]; omega)⟩
      have GX := Keep.mk hx
      have GY := Keep.mk hy
      have Hj : Keep (j < n) := ⟨hlt⟩
      have Hj1 : Keep (j1 < n) := ⟨by omega⟩
      have hjw : IntKind.i64.wrap ((j : Int) - 1) = ((j1 : Nat) : Int) := by rw [IntKind.wrap_i64]; omega
      have hjp : IntKind.i64.wrap ((j : Int) + 1) = ((j + 1 : Nat) : Int) := by rw [IntKind.wrap_i64]; omega
      have HSN : Keep (dd (fun c : Sh => c.id) (L.take (j + 1)) = if x.id = y.id then L.take j else L.take j ++ [x]) := ⟨by
        have ex : L.take (j + 1) = L.take j ++ [x] := by rw [List.take_add_one, hx]; rfl
        have ey : (L.take j).getLast? = some y := by
          rw [List.getLast?_eq_getElem?, List.length_take, Nat.min_eq_left (by omega), List.getElem?_take, if_pos (by omega), show j - 1 = j1 by omega]
          exact hy
        rw [ex, dd_snoc (key := (fun c : Sh => c.id)) ey, HD.out]⟩
      have HTK : Keep (L.take (j + 1) = L.take j ++ [x]) := ⟨by rw [List.take_add_one, hx]; rfl⟩
      have HJN : Keep (1 ≤ j ∧ j < n ∧ j = j1 + 1) := ⟨⟨hj1, hlt, hjj⟩⟩
      have hja : (0 : Int) ≤ (j : Int) := by omega
      have hjb : (j : Int) < (n : Int) := by have := Hj.out; omega
      have hjc : ((j : Nat) : Int).toNat = j := by omega
      have hj1a : (0 : Int) ≤ (j1 : Int) := by omega
      have hj1b : (j1 : Int) < (n : Int) := by have := Hj1.out; omega
      have hj1c : ((j1 : Nat) : Int).toNat = j1 := by omega
      clear hx hy hj1 hjn hjj hlt HD
      as_aux_lemma =>
        go_wp2_with fail
        refine region_Y (S := fun w' => Sep w0 w' (rowV 46 7 (sl g n c) n (fl shv (L)) :: l)) [] (by kernel_rfl) ?_
        obtain ⟨W0, hW0⟩ : ∃ W_, wr.drew = W_ := ⟨_, rfl⟩
        replace HB := Keep.mk (HB.out.grown (gr_drew _ none))
        rw [hW0] at HB ⊢
        clear hW0
        have hHeld : (fun w' => Sep w0 w' (rowV 46 7 (sl g n c) n (fl shv (L)) :: l)) W0 := HB.out
        refine yp (i := 0) (v := ?_) rfl (Or.inl ⟨by rfl, ?_⟩) ?_
        rotate_left
        · (intro w hSw; go_simp; first | done | (with_reducible rfl))
        simp only [Act.put, A1, A3, A4, A5, A6]
        refine yp (i := 1) (v := ?_) rfl (Or.inl ⟨by rfl, ?_⟩) ?_
        rotate_left
        · (intro w hSw; go_simp; first | done | (with_reducible rfl))
        simp only [Act.put, A1, A2, A3, A4, A5, A6]
        refine yp (i := 2) (v := ?_) rfl (Or.inl ⟨by rfl, ?_⟩) ?_
        rotate_left
        · (intro w hSw; go_simp; first | done | (with_reducible rfl))
        simp only [Act.put, A1, A2, A3, A4, A5, A6]
        refine yp (i := 3) (v := ?_) rfl (Or.inl ⟨by rfl, ?_⟩) ?_
        rotate_left
        · (intro w hSw; go_simp; first | done | (with_reducible rfl))
        simp only [Act.put, A1, A2, A3, A4, A5, A6]
        refine yt (i := 4) (v := .agg (shv x).toArray) rfl (yieldsIf_load_mid (by rfl) 46 _ rfl _ _ rfl _ _ (fun w hSw => fl_range shv_len (hSw.rowGet k0m) HN0.out j x GX.out) hdu.1 hdu.2 info46) (by assumption) ?_
        simp only [Act.put, A1, A2, A3, A4, A5, A6]
        refine yp (i := 5) (v := ?_) rfl (Or.inl ⟨by rfl, ?_⟩) ?_
        rotate_left
        · (intro w hSw; go_simp; first | done | (with_reducible rfl))
        simp only [Act.put, A1, A2, A3, A4, A5, A6]
        refine yp (i := 6) (v := ?_) rfl (Or.inl ⟨by rfl, ?_⟩) ?_
        rotate_left
        · (intro w hSw; go_simp; first | done | (with_reducible rfl))
        simp only [Act.put, A1, A2, A3, A4, A5, A6]
        refine yp (i := 7) (v := ?_) rfl (Or.inl ⟨by rfl, ?_⟩) ?_
        rotate_left
        · (intro w hSw; go_simp; first | done | (with_reducible rfl))
        simp only [Act.put, A1, A2, A3, A4, A5, A6]
        refine yp (i := 8) (v := ?_) rfl (Or.inl ⟨by rfl, ?_⟩) ?_
        rotate_left
        · (intro w hSw; go_simp; first | done | (with_reducible rfl))
        simp only [Act.put, A1, A2, A3, A4, A5, A6]
        refine yt (i := 9) (v := .agg (shv y).toArray) rfl (yieldsIf_load_mid (by rfl) 46 _ rfl _ _ rfl _ _ (fun w hSw => fl_range shv_len (hSw.rowGet k0m) HN0.out j1 y GY.out) hdu.1 hdu.2 info46) (by assumption) ?_
        simp only [Act.put, A1, A2, A3, A4, A5, A6]
        refine wpAnyY_one (i := 10) (by kernel_rfl) rfl (fun K hK => ?_)
        go_simp
        refine (eqcS kb x y _ (HB.out.boxGet (List.mem_cons_of_mem _ HKB.out))).mono ?_
        rintro e wg ⟨rfl, hg⟩
        have HB2 := Keep.mk (HB.out.grown hg)
        refine hK.out _ _ (fun _ => HB2.out) ?_
        clear hK K hg HB hHeld
        have HB := HB2
        clear HB2
        have hHeld := HB.out
        refine wpAnyY_done (by kernel_rfl) ?_ _
        clear hHeld
        by_cases hxy : x.id = y.id
        · have hb : (x.id == y.id) = true := by simp [hxy]
          have HSN2 : Keep (dd (fun c : Sh => c.id) (L.take (j + 1)) = L.take j) := ⟨by rw [HSN.out, if_pos hxy]⟩
          rw [hb]
          clear hxy hb HSN
          have hcj1 : (j : Int) ≤ (c : Int) := by omega
          have hcj2 : ¬ (c : Int) = (j : Int) := by omega
          have hcj3 : ¬ c = j := by omega
          have hnc : (n : Int) ≤ (c : Int) := by omega
          have HB0 : Keep (∃ (C Z : List Sh) (z : Sh), C = dd (fun c : Sh => c.id) (L.take (j + 1)) ∧ C.length = j ∧ (C ++ Z).length = j + 1 ∧ Z.getLast? = some z ∧ L[j + 1 - 1]? = some z ∧ Sep w0 wg (rowV 46 7 (sl g n c) n (fl shv (C ++ Z ++ L.drop (j + 1))) :: l)) := ⟨⟨L.take j, [x], x, HSN2.out.symm, by rw [List.length_take]; omega, by rw [List.length_append, List.length_take, List.length_singleton]; omega, rfl, by rw [Nat.add_sub_cancel]; exact GX.out, by rw [← HTK.out, List.take_append_drop]; exact HB.out⟩⟩
          have HJC : Keep (j < n ∧ n ≤ c ∧ 1 ≤ j) := ⟨by have hz := HJN.out; omega⟩
          clear HB HSN2 GX GY HTK
          go_wp2_with fail
          obtain ⟨n2, hn2'⟩ : ∃ m, n - j = m := ⟨_, rfl⟩
          obtain ⟨c2, hc2⟩ : ∃ m, c - j = m := ⟨_, rfl⟩
          rw [hn2', hc2]
          have HN2 : Keep (j + n2 = n) := ⟨by have := HJC.out; omega⟩
          clear hn2' hc2 hcap
          as_aux_lemma =>
            go_loopw [5, 7] (fun u5 u7 wr => ∃ kk k2 : Nat, 1 ≤ k2 ∧ k2 ≤ n2 ∧ u5 = iv kk ∧ u7 = iv k2 ∧ Keep (∃ (C Z : List Sh) (z : Sh), C = dd (fun c : Sh => c.id) (L.take (j + k2)) ∧ C.length = kk ∧ (C ++ Z).length = j + k2 ∧ Z.getLast? = some z ∧ L[j + k2 - 1]? = some z ∧ Sep w0 wr (rowV 46 7 (sl g n c) n (fl shv (C ++ Z ++ L.drop (j + k2))) :: l))) (fun _ u7 _ => (n2 - intOf u7).toNat)
            case atStart => exact ⟨j, 1, Nat.le_refl _, by have := HN2.out; have := HJC.out; omega, rfl, rfl, HB0⟩
            case round =>
              clear HB0
              obtain ⟨kk, k2, hk1, hk2, rfl, rfl, HI⟩ := hrel
              obtain ⟨C, Z, z, e1, e2, e3, e4, e5, S1⟩ := HI.out
              have HB := Keep.mk S1
              have hnn := HN2.out
              have hjcc := HJC.out
              have hZ : Z ≠ [] := by rintro rfl; simp at e4
              have hZ0 : 0 < Z.length := List.length_pos_iff.2 hZ
              have hkk : kk < j + k2 := by rw [List.length_append] at e3; omega
              by_cases hlt : k2 < n2
              · have hlt1 : (k2 : Int) < (n2 : Int) := by omega
                obtain ⟨k3, hk3⟩ : ∃ k3, k2 = k3 + 1 := ⟨k2 - 1, by omega⟩
                obtain ⟨x', hx'⟩ : ∃ x, L[j + k2]? = some x := ⟨_, List.getElem?_eq_getElem (by rw [hn]; omega)⟩
                obtain ⟨D, hD⟩ : ∃ D, C ++ Z ++ L.drop (j + k2) = D := ⟨_, rfl⟩
                rw [hD] at HB
                have hdr : L.drop (j + k2) = x' :: L.drop (j + k2 + 1) := by
                  have hl : j + k2 < L.length := by rw [hn]; omega
                  rw [List.drop_eq_getElem_cons hl]
                  congr 1
                  exact (List.getElem?_eq_some_iff.1 hx').2
                have GX : Keep (D[j + k2]? = some x') := ⟨by rw [← hD, List.getElem?_append_right (by omega), e3, Nat.sub_self, hdr]; rfl⟩
                have GY : Keep (D[j + k3]? = some z) := ⟨by
                  rw [← hD, List.getElem?_append_left (by omega), List.getElem?_append_right (by rw [List.length_append] at e3; omega), show j + k3 - C.length = Z.length - 1 by rw [List.length_append] at e3; omega, ← List.getLast?_eq_getElem?]
                  exact e4⟩
                have HDL : Keep (D.length = n) := ⟨by rw [← hD, List.length_append, e3, List.length_drop, hn]; omega⟩
                have HSN : Keep (dd (fun c : Sh => c.id) (L.take (j + (k2 + 1))) = if x'.id = z.id then C else C ++ [x']) := ⟨by
                  have ex : L.take (j + (k2 + 1)) = L.take (j + k2) ++ [x'] := by rw [← Nat.add_assoc, List.take_add_one, hx']; rfl
                  have ey : (L.take (j + k2)).getLast? = some z := by
                    rw [List.getLast?_eq_getElem?, List.length_take, Nat.min_eq_left (by rw [hn]; omega), List.getElem?_take, if_pos (by omega)]
                    exact e5
                  rw [ex, dd_snoc (key := (fun c : Sh => c.id)) ey, ← e1]⟩
                obtain ⟨bb, hbb⟩ : ∃ bb, (x'.id == z.id) = bb := ⟨_, rfl⟩
                have HBB := Keep.mk hbb
                have hkw : IntKind.i64.wrap ((k2 : Int) - 1) = ((k3 : Nat) : Int) := by rw [IntKind.wrap_i64]; omega
                have hkp : IntKind.i64.wrap ((k2 : Int) + 1) = ((k2 + 1 : Nat) : Int) := by rw [IntKind.wrap_i64]; omega
                have hkkp : IntKind.i64.wrap ((kk : Int) + 1) = ((kk + 1 : Nat) : Int) := by rw [IntKind.wrap_i64]; omega
                have HR1 : Keep (bb = true → ∀ w', Sep w0 w' (rowV 46 7 (sl g n c) n (fl shv (D)) :: l) → ∃ (C Z : List Sh) (z : Sh), C = dd (fun c : Sh => c.id) (L.take (j + (k2 + 1))) ∧ C.length = kk ∧ (C ++ Z).length = j + (k2 + 1) ∧ Z.getLast? = some z ∧ L[j + (k2 + 1) - 1]? = some z ∧ Sep w0 w' (rowV 46 7 (sl g n c) n (fl shv (C ++ Z ++ L.drop (j + (k2 + 1)))) :: l)) := ⟨fun hb w' S => by
                  have hxz : x'.id = z.id := by rw [hb] at hbb; simpa using hbb
                  refine ⟨C, Z ++ [x'], x', by rw [HSN.out, if_pos hxz], e2, by rw [← List.append_assoc, List.length_append, e3]; rfl, by simp, by rw [show j + (k2 + 1) - 1 = j + k2 by omega]; exact hx', ?_⟩
                  rw [← hD, hdr] at S
                  simpa only [List.append_assoc, List.cons_append, List.nil_append, Nat.add_assoc] using S⟩
                have HR2 : Keep (bb = false → ∀ w', Sep w0 w' (rowV 46 7 (sl g n c) n (fl shv (D.set kk x')) :: l) → ∃ (C Z : List Sh) (z : Sh), C = dd (fun c : Sh => c.id) (L.take (j + (k2 + 1))) ∧ C.length = kk + 1 ∧ (C ++ Z).length = j + (k2 + 1) ∧ Z.getLast? = some z ∧ L[j + (k2 + 1) - 1]? = some z ∧ Sep w0 w' (rowV 46 7 (sl g n c) n (fl shv (C ++ Z ++ L.drop (j + (k2 + 1)))) :: l)) := ⟨fun hb w' S => by
                  have hxz : ¬ x'.id = z.id := by rw [hb] at hbb; simpa using hbb
                  obtain ⟨z0, Zt, rfl⟩ : ∃ z0 Zt, Z = z0 :: Zt := by
                    cases Z with
                    | nil => exact absurd rfl hZ
                    | cons a b => exact ⟨a, b, rfl⟩
                  refine ⟨C ++ [x'], Zt ++ [x'], x', by rw [HSN.out, if_neg hxz], by rw [List.length_append, e2]; rfl, ?_, by simp, by rw [show j + (k2 + 1) - 1 = j + k2 by omega]; exact hx', ?_⟩
                  · simp only [List.length_append, List.length_cons, List.length_nil] at e3 ⊢; omega
                  · rw [← hD, hdr, show C ++ z0 :: Zt ++ x' :: L.drop (j + k2 + 1) = C ++ (z0 :: (Zt ++ x' :: L.drop (j + k2 + 1))) by simp, ← e2, List.set_append_right _ _ (Nat.le_refl _), Nat.sub_self, List.set_cons_zero] at S
                    simpa only [List.append_assoc, List.cons_append, List.nil_append, Nat.add_assoc] using S⟩
                have HK : Keep (k2 < n2 ∧ kk < n ∧ j + k2 < n) := ⟨by omega⟩
                have hk2a : (0 : Int) ≤ (k2 : Int) := by omega
                have hk2c : ((k2 : Nat) : Int).toNat = k2 := by omega
                have hk3a : (0 : Int) ≤ (k3 : Int) := by omega
                have hk3b : (k3 : Int) < (n2 : Int) := by omega
                have hk3c : ((k3 : Nat) : Int).toNat = k3 := by omega
                have hkka : (0 : Int) ≤ (kk : Int) := by omega
                have hkkb : (kk : Int) < (n : Int) := by omega
                have hkkc : ((kk : Nat) : Int).toNat = kk := by omega
                clear HI S1 e1 e2 e3 e4 e5 hD hdr hx' HSN hbb hZ hZ0 hkk hk1 hk2 hk3 hnn hjcc hlt
                as_aux_lemma =>
                  go_wp2_with fail
                  refine region_Y (S := fun w' => Sep w0 w' (rowV 46 7 (sl g n c) n (fl shv (D)) :: l)) [] (by kernel_rfl) ?_
                  obtain ⟨W0, hW0⟩ : ∃ W_, wr.drew = W_ := ⟨_, rfl⟩
                  replace HB := Keep.mk (HB.out.grown (gr_drew _ none))
                  rw [hW0] at HB ⊢
                  clear hW0
                  have hHeld : (fun w' => Sep w0 w' (rowV 46 7 (sl g n c) n (fl shv (D)) :: l)) W0 := HB.out
                  refine yp (i := 0) (v := ?_) rfl (Or.inl ⟨by rfl, ?_⟩) ?_
                  rotate_left
                  · (intro w hSw; go_simp; first | done | (with_reducible rfl))
                  simp only [Act.put, A1, A3, A4, A5, A6]
                  refine yp (i := 1) (v := ?_) rfl (Or.inl ⟨by rfl, ?_⟩) ?_
                  rotate_left
                  · (intro w hSw; go_simp; first | done | (with_reducible rfl))
                  simp only [Act.put, A1, A2, A3, A4, A5, A6]
                  refine yp (i := 2) (v := ?_) rfl (Or.inl ⟨by rfl, ?_⟩) ?_
                  rotate_left
                  · (intro w hSw; go_simp; first | done | (with_reducible rfl))
                  simp only [Act.put, A1, A2, A3, A4, A5, A6]
                  refine yp (i := 3) (v := ?_) rfl (Or.inl ⟨by rfl, ?_⟩) ?_
                  rotate_left
                  · (intro w hSw; go_simp; first | done | (with_reducible rfl))
                  simp only [Act.put, A1, A2, A3, A4, A5, A6]
                  refine yt (i := 4) (v := .agg (shv x').toArray) rfl (yieldsIf_load_mid (by rfl) 46 _ rfl _ _ rfl _ _ (fun w hSw => by rw [← Nat.add_mul]; exact fl_range shv_len (hSw.rowGet k0m) HN0.out (j + k2) x' GX.out) hdu.1 hdu.2 info46) (by assumption) ?_
                  simp only [Act.put, A1, A2, A3, A4, A5, A6]
                  refine yp (i := 5) (v := ?_) rfl (Or.inl ⟨by rfl, ?_⟩) ?_
                  rotate_left
                  · (intro w hSw; go_simp; first | done | (with_reducible rfl))
                  simp only [Act.put, A1, A2, A3, A4, A5, A6]
                  refine yp (i := 6) (v := ?_) rfl (Or.inl ⟨by rfl, ?_⟩) ?_
                  rotate_left
                  · (intro w hSw; go_simp; first | done | (with_reducible rfl))
                  simp only [Act.put, A1, A2, A3, A4, A5, A6]
                  refine yp (i := 7) (v := ?_) rfl (Or.inl ⟨by rfl, ?_⟩) ?_
                  rotate_left
                  · (intro w hSw; go_simp; first | done | (with_reducible rfl))
                  simp only [Act.put, A1, A2, A3, A4, A5, A6]
                  refine yp (i := 8) (v := ?_) rfl (Or.inl ⟨by rfl, ?_⟩) ?_
                  rotate_left
                  · (intro w hSw; go_simp; first | done | (with_reducible rfl))
                  simp only [Act.put, A1, A2, A3, A4, A5, A6]
                  refine yt (i := 9) (v := .agg (shv z).toArray) rfl (yieldsIf_load_mid (by rfl) 46 _ rfl _ _ rfl _ _ (fun w hSw => by rw [← Nat.add_mul]; exact fl_range shv_len (hSw.rowGet k0m) HN0.out (j + k3) z GY.out) hdu.1 hdu.2 info46) (by assumption) ?_
                  simp only [Act.put, A1, A2, A3, A4, A5, A6]
                  refine wpAnyY_one (i := 10) (by kernel_rfl) rfl (fun K hK => ?_)
                  go_simp
                  refine (eqcS kb x' z _ (HB.out.boxGet (List.mem_cons_of_mem _ HKB.out))).mono ?_
                  rintro e wg ⟨rfl, hg⟩
                  have HB2 := Keep.mk (HB.out.grown hg)
                  refine hK.out _ _ (fun _ => HB2.out) ?_
                  clear hK K hg HB hHeld
                  have HB := HB2
                  clear HB2
                  have hHeld := HB.out
                  refine yt (i := 11) (v := .bool (!bb)) rfl (Or.inl ⟨by rfl, ?_⟩) (by assumption) ?_
                  · (intro w hSw; have q := HBB.out; go_simp; first | done | rfl | (simp; done) | trace_state)
                  simp only [Act.put, A1, A2, A3, A4, A5, A6]
                  refine wpAnyY_done (by kernel_rfl) ?_ _
                  clear hHeld
                  cases bb
                  · have HRG : Keep (wg.rangeAt g (j * 7 + k2 * 7) (shv x')) := ⟨by rw [← Nat.add_mul]; exact fl_range shv_len (HB.out.rowGet k0m) HN0.out (j + k2) x' GX.out⟩
                    have OW := Keep.mk (HB.out.rowGet k0m)
                    go_wp2_with (first
                      | (show wpList _ _ _ ({ dst := _, op := Op.load 46 _, type := _, pos := _, after := _, guard := _ } :: _) _ _
                         refine wpList_load_mid rfl 46 _ rfl _ _ rfl _ _ HRG.out hdu.1 hdu.2 info46 ?_)
                      | (show wpList _ _ _ ({ dst := _, op := Op.store 46 _ _, type := _, pos := _, after := _, guard := _ } :: _) _ _
                         refine store_row shv_len _ g n c kk D x' 46 46 rfl rfl rfl rfl OW.out HDL.out HK.out.2.1 info46 (shv_one x') ?_))
                    intro w8 hS8 _
                    have HE := Keep.mk (HR2.out (by simp) w8 (hS8 _ _ HB.out))
                    clear hS8 HB OW HRG HR1 HR2
                    go_wp2_with fail
                    go_roundw
                    case rel => exact ⟨kk + 1, k2 + 1, by omega, HK.out.1, rfl, rfl, HE⟩
                    case measure => simp [intOf]; have := HK.out; omega
                  · have HE := Keep.mk (HR1.out (by simp) wg HB.out)
                    clear HB HR1 HR2
                    go_wp2_with fail
                    go_roundw
                    case rel => exact ⟨kk, k2 + 1, by omega, HK.out.1, rfl, rfl, HE⟩
                    case measure => simp [intOf]; have := HK.out; omega
              · have hlt1 : ¬ (k2 : Int) < (n2 : Int) := by omega
                have hC : C = dd (fun c : Sh => c.id) L := by rw [e1, show j + k2 = L.length by rw [hn]; omega, List.take_length]
                have hkn : kk < n := by omega
                obtain ⟨zs, hzs⟩ : ∃ zs, (Builtin.zeroCells (Value.agg zvS.toArray).cells (n - kk)).toList = zs := ⟨_, rfl⟩
                have hzl : zs.length = (n - kk) * 7 := by rw [← hzs]; exact zeroCells_len _ 7 _ rfl
                have hthr := row_there (HB.out.rowGet k0m) (by omega) (o := kk * 7) zs.length (by rw [hzl, ← Nat.add_mul]; exact Nat.mul_le_mul_right 7 (by omega))
                have HCL := Keep.mk (run_clear_rows (P := Tryz.prog) wr 35 46 0 (.agg zvS.toArray) undSS zvalS zs g (kk * 7) (n - kk) (c - kk) (by omega) hzs (by rw [← hzs]; exact zcS _) (fun i hi => (hthr i hi).1) (fun i hi => (hthr i hi).2))
                have S2 := Sep.rowSetsAt zs wr _ (kk * 7) HB.out
                have HE : Keep (CptS w0 (wr.setCells g (kk * 7) zs) l L (sl g kk c)) := ⟨⟨by
                  have q := S2.rowCutV kk (by omega)
                  rw [over_eq _ _ _ (by rw [fl_len shv_len, hzl, List.length_append, List.length_drop, e3, hn, ← Nat.add_mul]; exact Nat.mul_le_mul_right 7 (by omega)), List.append_assoc, List.take_append_of_le_length (by rw [List.length_take, fl_len shv_len, List.length_append, e3]; have := Nat.mul_le_mul_right 7 (show kk ≤ j + k2 + (L.drop (j + k2)).length by omega); omega), List.take_take, Nat.min_self, fl_take shv_len _ kk (by rw [List.length_append, e3]; omega), List.append_assoc, List.take_append_of_le_length (by omega), List.take_of_length_le (by omega)] at q
                  rw [← hC, e2]
                  exact q⟩⟩
                obtain ⟨wz, hwz⟩ : ∃ w, wr.setCells g (kk * 7) zs = w := ⟨_, rfl⟩
                rw [hwz] at HE HCL
                have hka : (kk : Int) ≤ (c : Int) := by omega
                have hka2 : ¬ (c : Int) = (kk : Int) := by omega
                have hka3 : ¬ c = kk := by omega
                have hkb : (kk : Int) ≤ (n : Int) := by omega
                have hkc : (0 : Int) ≤ (kk : Int) := by omega
                have hkd : ((kk : Nat) : Int).toNat = kk := by omega
                have hke : (n : Int) ≤ (c : Int) := by omega
                clear HI S1 S2 e1 e2 e3 e4 e5 hzs hzl hthr hC hZ hZ0 hkk hk1 hk2 hnn hjcc hlt HB hwz hkn
                go_wp2_with (first
                  | (show wpList _ _ _ ({ dst := _, op := Op.call { callee := Callee.builtin Builtin.clear, args := _, argTypes := _ }, type := _, pos := _, after := _, guard := _ } :: _) _ _
                     refine wpList_clear_run _ rfl (.tmp 61) 35 rfl _ rfl HCL.out ?_))
                go_ret
                exact ⟨_, rfl, HE.out⟩
        · have hb : (x.id == y.id) = false := by simp [hxy]
          have HD2 : Keep (dd (fun c : Sh => c.id) (L.take (j + 1)) = L.take (j + 1)) := ⟨by rw [HSN.out, if_neg hxy, HTK.out]⟩
          rw [hb]
          clear hxy hb HSN
          go_wp2_with fail
          go_roundw
          case rel => exact ⟨j + 1, by omega, HJN.out.2.1, rfl, HD2, HB⟩
          case measure => simp [intOf]; have := HJN.out; omega
    · have hlt1 : ¬ (j : Int) < (n : Int) := by omega
      have HE : Keep (CptS w0 wr l L (sl g n c)) := ⟨⟨by
        have q := HD.out
        rw [show j = n by omega, ← hn, List.take_length] at q
        rw [q, hn]
        exact HB.out⟩⟩
      clear HD HB hj1 hjn hlt
      go_wp2_with fail
      go_ret
      exact ⟨_, rfl, HE.out⟩
end Go.Proofs.YtgedlabmndlooaaGreat
