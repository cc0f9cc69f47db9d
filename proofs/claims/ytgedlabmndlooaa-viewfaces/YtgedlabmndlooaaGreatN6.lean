/- view: a state that was lent is written over: (Lent).moved -/
import Derived.Test.YtgedlabmndlooaaGreatN5
import Derived.Test.YtgedlabmndlooaaGreatQ1
namespace Go.Proofs.YtgedlabmndlooaaGreat
open Go Go.RowKit Go.Maps Go.Shelf Go.Lib Go.Sort

theorem fl_set1 {α : Type} {enc : α → List Value} {k : Nat} (hk : ∀ x, (enc x).length = k) : ∀ (L : List α) (j : Nat) (x x' : α) (r : Nat) (v : Value), L[j]? = some x → r < k → enc x' = (enc x).set r v → (fl enc L).set (j * k + r) v = fl enc (L.set j x')
  | [], j, x, x', r, v, h, _, _ => by simp at h
  | y :: L, 0, x, x', r, v, h, hr, he => by
    simp only [List.getElem?_cons_zero, Option.some.injEq] at h
    subst h
    have e : fl enc (y :: L) = enc y ++ fl enc L := by simp [fl]
    have e2 : fl enc ((y :: L).set 0 x') = enc x' ++ fl enc L := by simp [fl]
    rw [e, e2, he, Nat.zero_mul, Nat.zero_add, List.set_append_left _ _ (by rw [hk]; exact hr)]
  | y :: L, j + 1, x, x', r, v, h, hr, he => by
    have h' : L[j]? = some x := by simpa using h
    have e : fl enc (y :: L) = enc y ++ fl enc L := by simp [fl]
    have e2 : fl enc ((y :: L).set (j + 1) x') = enc y ++ fl enc (L.set j x') := by simp [fl]
    have q : (j + 1) * k + r = k + (j * k + r) := by rw [Nat.succ_mul]; omega
    rw [e, e2, ← fl_set1 hk L j x x' r v h' hr he, q, List.set_append_right _ _ (by rw [hk]; omega), hk, Nat.add_sub_cancel_left]
theorem OfQ.ofT {tick : Int} {LC : List Cr} {LS : List Sh} {p r s tk tk' : Int} {ow ow' : Cr} {T T' : List Sn} {cd cd' : Int} (h : OfQ tick LC LS p r s tk ow T cd) (h' : OfT tick LC LS p r s tk' ow' T' cd') : tk = tk' ∧ ow = ow' ∧ T = T' ∧ cd = cd' := by
  rcases h with ⟨a, rfl, rfl, rfl, rfl⟩ | ⟨o, a, rfl, rfl, rfl, t⟩ <;> rcases h' with ⟨a', rfl, rfl, rfl, rfl⟩ | ⟨o', a', rfl, rfl, rfl, t'⟩
  · exact ⟨rfl, rfl, rfl, rfl⟩
  · rw [a] at a'; cases a'
  · rw [a] at a'; cases a'
  · rw [a] at a'
    injection a' with a'
    subst a'
    have ep : ow.pl = p := by have := List.find?_some a; simpa using this
    obtain ⟨C, S, c1, s1, _⟩ := t.o
    have q1 := t.told c1 s1
    have q2 := Told.ents c1 s1 t'
    rw [ep] at q1
    exact ⟨rfl, rfl, q1.uniq q2, rfl⟩
/-- an ask -/
structure Ask where
  p : Int
  r : Int
  s : Int
def askv (a : Ask) : List Value := [iv a.p, iv a.r, iv a.s]
theorem askv_len (a : Ask) : (askv a).length = 3 := rfl
theorem askv_one (a : Ask) : ∀ u ∈ askv a, u.oneCell' = true := by
  intro u hu
  simp only [askv, List.mem_cons, List.not_mem_nil, or_false] at hu
  rcases hu with rfl | rfl | rfl <;> rfl
theorem info39 : (Tryz.prog.info? 39).map (·.size) = some 3 := by kernel_rfl
theorem under39 : ∃ d, Tryz.prog.underlying 39 = some d ∧ d.isRow = true := ⟨_, Tryz.underlying39, rfl⟩
theorem own_cellZ {W : World} {e : TypeId} {s g n c k : Nat} {xs : List Value} {t : Value} (h : W.ownsRow 0 e s (sl g n c) n xs) (hn : 0 < n) (hk : xs[k]? = some t) : W.cell? ⟨g, k, none⟩ = some t ∧ W.frozen? ⟨g, k, none⟩ = false := by
  obtain ⟨g', c', e, q⟩ := own_any h hn
  injection e with e1
  injection e1 with e1
  injection e1 with e1
  subst e1
  exact q k t hk
set_option maxRecDepth 100000 in
set_option maxHeartbeats 16000000 in
theorem moved_c (w0 W : World) (l : List As) (tick nx t2 n2 : Int) (gC kC gH kH nc ns : Nat) (vc vs va : Value) (LC : List Cr) (LS : List Sh) (AL : List Ask) (hc : Ls crv 14 w0 vc LC) (hs : Ls shv 7 w0 vs LS) (ha : Ls askv 3 w0 va AL) (oc : ∀ c ∈ LC, CrOk c) (os : ∀ s ∈ LS, ShOk s) (hnc : LC.length = nc) (hns : LS.length = ns) (hn : nc + ns ≤ 1048576) (hna : AL.length ≤ 1048576)
    (h : Sep w0 W (rowV 26 14 (sl gC (nc + 1) kC) (nc + 1) (fl crv (LC ++ [rmC])) :: rowV 46 7 (sl gH (ns + 1) kH) (ns + 1) (fl shv (LS ++ [rmS])) :: l)) :
    Calls Tryz.prog 26 #[.agg #[.int .u64 tick, sl gC nc kC, sl gH ns kH, iv nx, sl gC (nc + 1) kC, sl gH (ns + 1) kH], .agg #[.int .u64 t2, vc, vs, iv n2], va] W fun e W' => e = .returned (.bool true) ∧ w0.grownBy W' none := by
  obtain ⟨ac, cc, rfl, hcr⟩ := hc
  obtain ⟨az, cz, rfl, hsr⟩ := hs
  have HNN : Keep (LC.length = nc ∧ LS.length = ns ∧ nc + ns ≤ 1048576) := ⟨⟨hnc, hns, hn⟩⟩
  have HVC := Keep.mk hcr
  have HVS := Keep.mk hsr
  have HOC := Keep.mk oc
  have HOS := Keep.mk os
  have HAL := Keep.mk ha
  have HNA := Keep.mk hna
  rw [hnc, hns]
  have S1 := (h.newBox #[.int .u64 tick, sl gC nc kC, sl gH ns kH, iv nx, sl gC (nc + 1) kC, sl gH (ns + 1) kH] 56).newBox #[.int .u64 t2, .slice ac nc cc, .slice az ns cz, iv n2] 37
  simp only [World.size_alloc] at S1
  obtain ⟨b3, hb3⟩ : ∃ b, W.heap.size = b := ⟨_, rfl⟩
  obtain ⟨b4, hb4⟩ : ∃ b, b3 + 1 = b := ⟨_, rfl⟩
  obtain ⟨W1, hW1⟩ : ∃ w, (W.alloc (.cells #[.int .u64 tick, sl gC nc kC, sl gH ns kH, iv nx, sl gC (nc + 1) kC, sl gH (ns + 1) kH] 56)).alloc (.cells #[.int .u64 t2, .slice ac nc cc, .slice az ns cz, iv n2] 37) = w := ⟨_, rfl⟩
  rw [hW1, hb3, hb4] at S1
  have HB : Keep (Sep w0 W1 (rowV 26 14 (sl gC (nc + 1) kC) (nc + 1) (fl crv (LC ++ [rmC])) :: rowV 46 7 (sl gH (ns + 1) kH) (ns + 1) (fl shv (LS ++ [rmS])) :: boxA b4 [.int .u64 t2, .slice ac nc cc, .slice az ns cz, iv n2] 37 :: boxA b3 [.int .u64 tick, sl gC nc kC, sl gH ns kH, iv nx, sl gC (nc + 1) kC, sl gH (ns + 1) kH] 56 :: l)) := ⟨fr1 [_, _, _] (fr1 [_, _, _] S1)⟩
  obtain ⟨dw, hdw⟩ := under24
  obtain ⟨ds, hds⟩ := under37
  obtain ⟨dv, hdv⟩ := under29
  obtain ⟨dl, hdl⟩ := under56
  obtain ⟨da, hda⟩ := under39
  clear S1 h hcr hsr oc os ha hna hnc hns hn
  go_enter Tryz.func26, Tryz.ntmps26
  go_wp2_with fail
  clear hW1 hb3 hb4
  go_loopw [7] (fun u7 wr => ∃ (i : Nat) (L : List Cr), i ≤ nc ∧ u7 = iv i ∧ Keep (L.length = nc ∧ ∀ c ∈ L, CrOk c) ∧ Keep (Sep w0 wr (rowV 26 14 (sl gC (nc + 1) kC) (nc + 1) (fl crv (L ++ [rmC])) :: rowV 46 7 (sl gH (ns + 1) kH) (ns + 1) (fl shv (LS ++ [rmS])) :: boxA b4 [.int .u64 t2, .slice ac nc cc, .slice az ns cz, iv n2] 37 :: boxA b3 [.int .u64 tick, sl gC nc kC, sl gH ns kH, iv nx, sl gC (nc + 1) kC, sl gH (ns + 1) kH] 56 :: l))) (fun u7 _ => (nc - intOf u7).toNat)
  case atStart => exact ⟨0, LC, Nat.zero_le _, rfl, ⟨⟨HNN.out.1, HOC.out⟩⟩, HB⟩
  case round =>
    clear HB
    obtain ⟨i, L, hi, rfl, HL, HB⟩ := hrel
    have d1 := (HB.out.boxGet k2m).cellv 1 _ rfl
    by_cases hlt : i < nc
    · have hlt1 : (i : Int) < (nc : Int) := by omega
      have hlt2 : (i : Int) < (nc : Int) + 1 := by omega
      have hi0 : (0 : Int) ≤ (i : Int) := by omega
      have hit : ((i : Nat) : Int).toNat = i := by omega
      have hiw : IntKind.i64.wrap ((i : Int) + 1) = ((i + 1 : Nat) : Int) := by rw [IntKind.wrap_i64]; have := HNN.out; omega
      obtain ⟨m, hm⟩ : ∃ m, nc - 1 - i = m := ⟨_, rfl⟩
      have hw1 : IntKind.i64.wrap ((nc : Int) - 1) = (nc : Int) - 1 := by rw [IntKind.wrap_i64]; have := HNN.out; omega
      have hw2 : IntKind.i64.wrap ((nc : Int) - 1 - (i : Int)) = (m : Int) := by rw [IntKind.wrap_i64]; have := HNN.out; omega
      have hm0 : (0 : Int) ≤ (m : Int) := by omega
      have hm1 : (m : Int) < (nc : Int) := by omega
      have hmt : ((m : Nat) : Int).toNat = m := by omega
      obtain ⟨c, hc⟩ : ∃ y, L[i]? = some y := ⟨_, List.getElem?_eq_getElem (by rw [HL.out.1]; exact hlt)⟩
      obtain ⟨d, hd⟩ : ∃ y, LC[m]? = some y := ⟨_, List.getElem?_eq_getElem (by rw [HNN.out.1]; omega)⟩
      obtain ⟨g1, o1, e1, q1⟩ := HVC.out (by rw [HNN.out.1]; omega)
      subst e1
      have HDX : Keep (w0.rangeAt g1 (o1 + m * 14 + 2) [iv d.x, iv d.y]) := ⟨fun j u hu => by
        have q := q1 m d hd (j + 2) u (by
          match j, hu with
          | 0, hu => exact hu
          | 1, hu => exact hu)
        rw [show o1 + m * 14 + 2 + j = o1 + m * 14 + (j + 2) by omega]
        exact q⟩
      have hci : (L ++ [rmC])[i]? = some c := by rw [List.getElem?_append_left (by rw [HL.out.1]; exact hlt)]; exact hc
      have hsi : ∀ x, (L ++ [rmC]).set i x = L.set i x ++ [rmC] := fun x => List.set_append_left _ _ (by rw [HL.out.1]; exact hlt)
      obtain ⟨c2, hc2⟩ : ∃ z, ({ c with x := d.x, y := d.y } : Cr) = z := ⟨_, rfl⟩
      obtain ⟨c3, hc3⟩ : ∃ z, ({ c with x := d.x, y := d.y, hd := (i : Int) } : Cr) = z := ⟨_, rfl⟩
      have HOV : Keep (over (fl crv (L ++ [rmC])) (i * 14 + 2) [iv d.x, iv d.y] = fl crv (L.set i c2 ++ [rmC])) := ⟨by
        show ((fl crv (L ++ [rmC])).set (i * 14 + 2) (iv d.x)).set (i * 14 + 2 + 1) (iv d.y) = _
        rw [fl_set1 crv_len (L ++ [rmC]) i c { c with x := d.x } 2 (iv d.x) hci (by decide) rfl, fl_set1 crv_len _ i { c with x := d.x } c2 3 (iv d.y) (by rw [hsi, List.getElem?_append_left (by rw [List.length_set, HL.out.1]; exact hlt), List.getElem?_set_self (by rw [HL.out.1]; exact hlt)]) (by decide) (by rw [← hc2]; rfl), List.set_set, hsi]⟩
      obtain ⟨L2, hL2⟩ : ∃ L2, L.set i c2 = L2 := ⟨_, rfl⟩
      have hL2i : (L2 ++ [rmC])[i]? = some c2 := by rw [← hL2, List.getElem?_append_left (by rw [List.length_set, HL.out.1]; exact hlt), List.getElem?_set_self (by rw [HL.out.1]; exact hlt)]
      have HOV2 : Keep ((fl crv (L2 ++ [rmC])).set (i * 14 + 6) (iv (i : Int)) = fl crv (L2.set i c3 ++ [rmC])) := ⟨by
        rw [fl_set1 crv_len (L2 ++ [rmC]) i c2 c3 6 (iv (i : Int)) hL2i (by decide) (by rw [← hc2, ← hc3]; rfl), List.set_append_left _ _ (by rw [← hL2, List.length_set, HL.out.1]; exact hlt)]⟩
      have HL3 : Keep ((L2.set i c3).length = nc ∧ ∀ z ∈ L2.set i c3, CrOk z) := ⟨by
        rw [← hL2, List.set_set]
        refine ⟨by rw [List.length_set]; exact HL.out.1, fun z hz => ?_⟩
        rcases List.mem_or_eq_of_mem_set hz with hz | hz
        · exact HL.out.2 z hz
        · have o1 := HL.out.2 c (List.mem_of_getElem? hc)
          have o2 := HOC.out d (List.mem_of_getElem? hd)
          rw [hz, ← hc3]
          exact ⟨o1.nm, o1.pl, o2.x, o2.y, o1.sx, o1.sy, ⟨by show _ ≤ (i : Int); omega, by show (i : Int) ≤ _; have := HNN.out; omega⟩, o1.he, o1.en, o1.am, o1.co, o1.wa, o1.sp, o1.sc⟩⟩
      have HC6 : Keep ((fl crv (L2 ++ [rmC]))[i * 14 + 6]? = some (iv c2.hd)) := ⟨fl_get crv_len _ i _ 6 _ hL2i rfl⟩
      rw [hL2] at HOV
      have HIN : Keep (i < nc) := ⟨hlt⟩
      clear q1 hc hd hlt hi hci hsi hL2 hL2i hm
      go_wp2_with fail
      clear d1
      refine region_Y (S := fun w' => Sep w0 w' (rowV 26 14 (sl gC (nc + 1) kC) (nc + 1) (fl crv (L ++ [rmC])) :: rowV 46 7 (sl gH (ns + 1) kH) (ns + 1) (fl shv (LS ++ [rmS])) :: boxA b4 [.int .u64 t2, .slice (some ⟨g1, o1, none⟩) nc cc, .slice az ns cz, iv n2] 37 :: boxA b3 [.int .u64 tick, sl gC nc kC, sl gH ns kH, iv nx, sl gC (nc + 1) kC, sl gH (ns + 1) kH] 56 :: l)) [16] (by kernel_rfl) ?_
      obtain ⟨W0, hW0⟩ : ∃ W_, wr.drew = W_ := ⟨_, rfl⟩
      replace HB := Keep.mk (HB.out.grown (gr_drew _ none))
      rw [hW0] at HB ⊢
      clear hW0
      have hHeld : (fun w' => Sep w0 w' (rowV 26 14 (sl gC (nc + 1) kC) (nc + 1) (fl crv (L ++ [rmC])) :: rowV 46 7 (sl gH (ns + 1) kH) (ns + 1) (fl shv (LS ++ [rmS])) :: boxA b4 [.int .u64 t2, .slice (some ⟨g1, o1, none⟩) nc cc, .slice az ns cz, iv n2] 37 :: boxA b3 [.int .u64 tick, sl gC nc kC, sl gH ns kH, iv nx, sl gC (nc + 1) kC, sl gH (ns + 1) kH] 56 :: l)) W0 := HB.out
      refine yp (i := 0) (v := ?_) rfl (Or.inl ⟨by rfl, ?_⟩) ?_
      rotate_left
      · (intro w hSw; go_simp; first | done | (with_reducible rfl))
      simp only [Act.put, A1, A3, A4, A5, A6]
      refine yt (i := 1) (v := ?_) rfl (Or.inl ⟨by rfl, ?_⟩) (by assumption) ?_
      rotate_left
      · (intro w hSw; have q := (hSw.boxGet k3m).cellv 4 _ rfl; go_simp; first | done | (with_reducible rfl))
      simp only [Act.put, A1, A2, A3, A4, A5, A6]
      refine yp (i := 2) (v := ?_) rfl (Or.inl ⟨by rfl, ?_⟩) ?_
      rotate_left
      · (intro w hSw; go_simp; first | done | (with_reducible rfl))
      simp only [Act.put, A1, A2, A3, A4, A5, A6]
      refine yp (i := 3) (v := ?_) rfl (Or.inl ⟨by rfl, ?_⟩) ?_
      rotate_left
      · (intro w hSw; go_simp; first | done | (with_reducible rfl))
      simp only [Act.put, A1, A2, A3, A4, A5, A6]
      refine yt (i := 4) (v := ?_) rfl (Or.inl ⟨by rfl, ?_⟩) (by assumption) ?_
      rotate_left
      · (intro w hSw; have q := (hSw.boxGet k2m).cellv 1 _ rfl; go_simp; first | done | (with_reducible rfl))
      simp only [Act.put, A1, A2, A3, A4, A5, A6]
      refine yp (i := 5) (v := ?_) rfl (Or.inl ⟨by rfl, ?_⟩) ?_
      rotate_left
      · (intro w hSw; go_simp; first | done | (with_reducible rfl))
      simp only [Act.put, A1, A2, A3, A4, A5, A6]
      refine yt (i := 6) (v := ?_) rfl (Or.inl ⟨by rfl, ?_⟩) (by assumption) ?_
      rotate_left
      · (intro w hSw; have q := (hSw.boxGet k2m).cellv 1 _ rfl; go_simp; first | done | (with_reducible rfl))
      simp only [Act.put, A1, A2, A3, A4, A5, A6]
      refine yp (i := 7) (v := ?_) rfl (Or.inl ⟨by rfl, ?_⟩) ?_
      rotate_left
      · (intro w hSw; go_simp; first | done | (with_reducible rfl))
      simp only [Act.put, A1, A2, A3, A4, A5, A6]
      refine yt (i := 8) (v := ?_) rfl (Or.inl ⟨by rfl, ?_⟩) (by assumption) ?_
      rotate_left
      · (intro w hSw; have q := hw1; go_simp; first | done | (with_reducible rfl))
      simp only [Act.put, A1, A2, A3, A4, A5, A6]
      refine yp (i := 9) (v := ?_) rfl (Or.inl ⟨by rfl, ?_⟩) ?_
      rotate_left
      · (intro w hSw; go_simp; first | done | (with_reducible rfl))
      simp only [Act.put, A1, A2, A3, A4, A5, A6]
      refine yt (i := 10) (v := ?_) rfl (Or.inl ⟨by rfl, ?_⟩) (by assumption) ?_
      rotate_left
      · (intro w hSw; have q := hw2; go_simp; first | done | (with_reducible rfl))
      simp only [Act.put, A1, A2, A3, A4, A5, A6]
      refine yp (i := 11) (v := ?_) rfl (Or.inl ⟨by rfl, ?_⟩) ?_
      rotate_left
      · (intro w hSw; go_simp; first | done | (with_reducible rfl))
      simp only [Act.put, A1, A2, A3, A4, A5, A6]
      refine yp (i := 12) (v := ?_) rfl (Or.inl ⟨by rfl, ?_⟩) ?_
      rotate_left
      · (intro w hSw; go_simp; first | done | (with_reducible rfl))
      simp only [Act.put, A1, A2, A3, A4, A5, A6]
      refine yt (i := 13) (v := .agg ([iv d.x, iv d.y]).toArray) rfl (yieldsIf_load_mid (by rfl) 24 _ rfl _ _ rfl _ _ (fun w hSw => fun r u hu => hSw.g.cell (HDX.out r u hu) (by simp)) hdw.1 hdw.2 info24) (by assumption) ?_
      simp only [Act.put, A1, A2, A3, A4, A5, A6]
      refine yp (i := 14) (v := ?_) rfl (Or.inl ⟨by rfl, ?_⟩) ?_
      rotate_left
      · (intro w hSw; go_simp; first | done | (with_reducible rfl))
      simp only [Act.put, A1, A2, A3, A4, A5, A6]
      refine yp (i := 15) (v := ?_) rfl (Or.inl ⟨by rfl, ?_⟩) ?_
      rotate_left
      · (intro w hSw; go_simp; first | done | (with_reducible rfl))
      simp only [Act.put, A1, A2, A3, A4, A5, A6]
      refine wpAnyY_late (i := 16) (by kernel_rfl) rfl (by kernel_rfl) (fun K hK => ?_)
      rw [if_pos (show Region.wanted _ _ = true from rfl)]
      refine wp_store_mid 24 _ _ rfl gC (i * 14 + 2) [iv d.x, iv d.y].toArray rfl rfl (row_there (HB.out.rowGet k0m) (by omega) 2 (by have := HIN.out; omega)) info24 (all_oneCell_toArray (by intro u hu; simp only [List.mem_cons, List.not_mem_nil, or_false] at hu; rcases hu with rfl | rfl <;> rfl)) ?_
      have S_ := Sep.rowSetsAt [iv d.x, iv d.y] _ _ (i * 14 + 2) HB.out
      have e_ : over (fl crv (L ++ [rmC])) (i * 14 + 2) [iv d.x, iv d.y] = fl crv (L2 ++ [rmC]) := HOV.out
      rw [e_] at S_
      replace HB := Keep.mk S_
      clear S_ e_
      refine hK.out _ _ ?_
      clear hK K
      show wpAnyY _ _ _ _ _ _ _ _ _ (World.setCells W0 gC (i * 14 + 2) [iv d.x, iv d.y])
      change Keep (Sep w0 (World.setCells W0 gC (i * 14 + 2) [iv d.x, iv d.y]) _) at HB
      generalize World.setCells W0 gC (i * 14 + 2) [iv d.x, iv d.y] = W1' at HB ⊢
      simp only [Act.put, A1, A2, A3]
      refine wpAnyY_done (by kernel_rfl) ?_ _
      have HRR := Keep.mk (HB.out.rowGet k0m)
      have d4 := (HB.out.boxGet k3m).cellv 4 _ rfl
      have hcell := own_cellZ HRR.out (by omega) HC6.out
      have c6 := hcell.1
      have y6 := hcell.2
      have S7 := HB.out.rowSet (i * 14 + 6) (iv (i : Int))
      obtain ⟨W7, hW7⟩ : ∃ w, W1'.setCell ⟨gC, i * 14 + 6, none⟩ (iv (i : Int)) = w := ⟨_, rfl⟩
      rw [hW7, HOV2.out] at S7
      have HB7 := Keep.mk S7
      clear S7 hcell HRR
      go_wp2_with fail
      clear hW7 c6 y6 d4
      go_roundw
      case rel => exact ⟨i + 1, _, HIN.out, rfl, HL3, HB7⟩
      case measure => simp [intOf]; have := HIN.out; omega
    · have hlt1 : ¬ (i : Int) < (nc : Int) := by omega
      clear hlt hi
      go_wp2_with fail
      clear d1
      as_aux_lemma =>
        go_loopw [8] (fun u8 wr => ∃ (i : Nat) (M : List Sh), i ≤ ns ∧ u8 = iv i ∧ Keep (M.length = ns ∧ ∀ c ∈ M, ShOk c) ∧ Keep (Sep w0 wr (rowV 26 14 (sl gC (nc + 1) kC) (nc + 1) (fl crv (L ++ [rmC])) :: rowV 46 7 (sl gH (ns + 1) kH) (ns + 1) (fl shv (M ++ [rmS])) :: boxA b4 [.int .u64 t2, .slice ac nc cc, .slice az ns cz, iv n2] 37 :: boxA b3 [.int .u64 tick, sl gC nc kC, sl gH ns kH, iv nx, sl gC (nc + 1) kC, sl gH (ns + 1) kH] 56 :: l))) (fun u8 _ => (ns - intOf u8).toNat)
        case atStart => exact ⟨0, LS, Nat.zero_le _, rfl, ⟨⟨HNN.out.2.1, HOS.out⟩⟩, HB⟩
        case round =>
          clear HB
          obtain ⟨i, M, hi, rfl, HM, HB⟩ := hrel
          have d2' := (HB.out.boxGet k2m).cellv 2 _ rfl
          by_cases hlt : i < ns
          · have hlt1 : (i : Int) < (ns : Int) := by omega
            have hlt2 : (i : Int) < (ns : Int) + 1 := by omega
            have hi0 : (0 : Int) ≤ (i : Int) := by omega
            have hit : ((i : Nat) : Int).toNat = i := by omega
            have hiw : IntKind.i64.wrap ((i : Int) + 1) = ((i + 1 : Nat) : Int) := by rw [IntKind.wrap_i64]; have := HNN.out; omega
            obtain ⟨m, hm⟩ : ∃ m, ns - 1 - i = m := ⟨_, rfl⟩
            have hw1 : IntKind.i64.wrap ((ns : Int) - 1) = (ns : Int) - 1 := by rw [IntKind.wrap_i64]; have := HNN.out; omega
            have hw2 : IntKind.i64.wrap ((ns : Int) - 1 - (i : Int)) = (m : Int) := by rw [IntKind.wrap_i64]; have := HNN.out; omega
            have hm0 : (0 : Int) ≤ (m : Int) := by omega
            have hm1 : (m : Int) < (ns : Int) := by omega
            have hmt : ((m : Nat) : Int).toNat = m := by omega
            obtain ⟨c, hc⟩ : ∃ y, M[i]? = some y := ⟨_, List.getElem?_eq_getElem (by rw [HM.out.1]; exact hlt)⟩
            obtain ⟨d, hd⟩ : ∃ y, LS[m]? = some y := ⟨_, List.getElem?_eq_getElem (by rw [HNN.out.2.1]; omega)⟩
            obtain ⟨g1, o1, e1, q1⟩ := HVS.out (by rw [HNN.out.2.1]; omega)
            subst e1
            have HDX : Keep (w0.rangeAt g1 (o1 + m * 7 + 2) [iv d.x, iv d.y]) := ⟨fun j u hu => by
              have q := q1 m d hd (j + 2) u (by
                match j, hu with
                | 0, hu => exact hu
                | 1, hu => exact hu)
              rw [show o1 + m * 7 + 2 + j = o1 + m * 7 + (j + 2) by omega]
              exact q⟩
            have HDI : Keep (w0.cell? ⟨g1, o1 + m * 7, none⟩ = some (iv d.id)) := ⟨by have q := q1 m d hd 0 (iv d.id) rfl; simpa using q⟩
            have hci : (M ++ [rmS])[i]? = some c := by rw [List.getElem?_append_left (by rw [HM.out.1]; exact hlt)]; exact hc
            have hsi : ∀ x, (M ++ [rmS]).set i x = M.set i x ++ [rmS] := fun x => List.set_append_left _ _ (by rw [HM.out.1]; exact hlt)
            obtain ⟨c2, hc2⟩ : ∃ z, ({ c with x := d.x, y := d.y } : Sh) = z := ⟨_, rfl⟩
            obtain ⟨c3, hc3⟩ : ∃ z, ({ c with id := d.id, x := d.x, y := d.y } : Sh) = z := ⟨_, rfl⟩
            have HOV' : over (fl shv (M ++ [rmS])) (i * 7 + 2) [iv d.x, iv d.y] = fl shv (M.set i c2 ++ [rmS]) := by
              show ((fl shv (M ++ [rmS])).set (i * 7 + 2) (iv d.x)).set (i * 7 + 2 + 1) (iv d.y) = _
              rw [fl_set1 shv_len (M ++ [rmS]) i c { c with x := d.x } 2 (iv d.x) hci (by decide) rfl, fl_set1 shv_len _ i { c with x := d.x } c2 3 (iv d.y) (by rw [hsi, List.getElem?_append_left (by rw [List.length_set, HM.out.1]; exact hlt), List.getElem?_set_self (by rw [HM.out.1]; exact hlt)]) (by decide) (by rw [← hc2]; rfl), List.set_set, hsi]
            obtain ⟨M2, hM2⟩ : ∃ M2, M.set i c2 = M2 := ⟨_, rfl⟩
            rw [hM2] at HOV'
            have HOV := Keep.mk HOV'
            have hM2i : (M2 ++ [rmS])[i]? = some c2 := by rw [← hM2, List.getElem?_append_left (by rw [List.length_set, HM.out.1]; exact hlt), List.getElem?_set_self (by rw [HM.out.1]; exact hlt)]
            have HOV2 : Keep ((fl shv (M2 ++ [rmS])).set (i * 7) (iv d.id) = fl shv (M2.set i c3 ++ [rmS])) := ⟨by
              have q := fl_set1 shv_len (M2 ++ [rmS]) i c2 c3 0 (iv d.id) hM2i (by decide) (by rw [← hc2, ← hc3]; rfl)
              rw [Nat.add_zero] at q
              rw [q, List.set_append_left _ _ (by rw [← hM2, List.length_set, HM.out.1]; exact hlt)]⟩
            have HM3 : Keep ((M2.set i c3).length = ns ∧ ∀ z ∈ M2.set i c3, ShOk z) := ⟨by
              rw [← hM2, List.set_set]
              refine ⟨by rw [List.length_set]; exact HM.out.1, fun z hz => ?_⟩
              rcases List.mem_or_eq_of_mem_set hz with hz | hz
              · exact HM.out.2 z hz
              · have o1 := HM.out.2 c (List.mem_of_getElem? hc)
                have o2 := HOS.out d (List.mem_of_getElem? hd)
                rw [hz, ← hc3]
                exact ⟨o2.id, o1.pl, o2.x, o2.y, o1.sx, o1.sy, o1.lf⟩⟩
            have HC6 : Keep ((fl shv (M2 ++ [rmS]))[i * 7]? = some (iv c2.id)) := ⟨by have q := fl_get shv_len _ i _ 0 _ hM2i (rfl : (shv c2)[0]? = some (iv c2.id)); simpa using q⟩
            have HIN : Keep (i < ns) := ⟨hlt⟩
            clear q1 hc hd hlt hi hci hsi hM2 hM2i hm HOV'
            go_wp2_with fail
            clear d2'
            refine region_Y (S := fun w' => Sep w0 w' (rowV 26 14 (sl gC (nc + 1) kC) (nc + 1) (fl crv (L ++ [rmC])) :: rowV 46 7 (sl gH (ns + 1) kH) (ns + 1) (fl shv (M ++ [rmS])) :: boxA b4 [.int .u64 t2, .slice ac nc cc, .slice (some ⟨g1, o1, none⟩) ns cz, iv n2] 37 :: boxA b3 [.int .u64 tick, sl gC nc kC, sl gH ns kH, iv nx, sl gC (nc + 1) kC, sl gH (ns + 1) kH] 56 :: l)) [16] (by kernel_rfl) ?_
            obtain ⟨W0, hW0⟩ : ∃ W_, wr.drew = W_ := ⟨_, rfl⟩
            replace HB := Keep.mk (HB.out.grown (gr_drew _ none))
            rw [hW0] at HB ⊢
            clear hW0
            have hHeld : (fun w' => Sep w0 w' (rowV 26 14 (sl gC (nc + 1) kC) (nc + 1) (fl crv (L ++ [rmC])) :: rowV 46 7 (sl gH (ns + 1) kH) (ns + 1) (fl shv (M ++ [rmS])) :: boxA b4 [.int .u64 t2, .slice ac nc cc, .slice (some ⟨g1, o1, none⟩) ns cz, iv n2] 37 :: boxA b3 [.int .u64 tick, sl gC nc kC, sl gH ns kH, iv nx, sl gC (nc + 1) kC, sl gH (ns + 1) kH] 56 :: l)) W0 := HB.out
            refine yp (i := 0) (v := ?_) rfl (Or.inl ⟨by rfl, ?_⟩) ?_
            rotate_left
            · (intro w hSw; go_simp; first | done | (with_reducible rfl))
            simp only [Act.put, A1, A3, A4, A5, A6]
            refine yt (i := 1) (v := ?_) rfl (Or.inl ⟨by rfl, ?_⟩) (by assumption) ?_
            rotate_left
            · (intro w hSw; have q := (hSw.boxGet k3m).cellv 5 _ rfl; go_simp; first | done | (with_reducible rfl))
            simp only [Act.put, A1, A2, A3, A4, A5, A6]
            refine yp (i := 2) (v := ?_) rfl (Or.inl ⟨by rfl, ?_⟩) ?_
            rotate_left
            · (intro w hSw; go_simp; first | done | (with_reducible rfl))
            simp only [Act.put, A1, A2, A3, A4, A5, A6]
            refine yp (i := 3) (v := ?_) rfl (Or.inl ⟨by rfl, ?_⟩) ?_
            rotate_left
            · (intro w hSw; go_simp; first | done | (with_reducible rfl))
            simp only [Act.put, A1, A2, A3, A4, A5, A6]
            refine yt (i := 4) (v := ?_) rfl (Or.inl ⟨by rfl, ?_⟩) (by assumption) ?_
            rotate_left
            · (intro w hSw; have q := (hSw.boxGet k2m).cellv 2 _ rfl; go_simp; first | done | (with_reducible rfl))
            simp only [Act.put, A1, A2, A3, A4, A5, A6]
            refine yp (i := 5) (v := ?_) rfl (Or.inl ⟨by rfl, ?_⟩) ?_
            rotate_left
            · (intro w hSw; go_simp; first | done | (with_reducible rfl))
            simp only [Act.put, A1, A2, A3, A4, A5, A6]
            refine yt (i := 6) (v := ?_) rfl (Or.inl ⟨by rfl, ?_⟩) (by assumption) ?_
            rotate_left
            · (intro w hSw; have q := (hSw.boxGet k2m).cellv 2 _ rfl; go_simp; first | done | (with_reducible rfl))
            simp only [Act.put, A1, A2, A3, A4, A5, A6]
            refine yp (i := 7) (v := ?_) rfl (Or.inl ⟨by rfl, ?_⟩) ?_
            rotate_left
            · (intro w hSw; go_simp; first | done | (with_reducible rfl))
            simp only [Act.put, A1, A2, A3, A4, A5, A6]
            refine yt (i := 8) (v := ?_) rfl (Or.inl ⟨by rfl, ?_⟩) (by assumption) ?_
            rotate_left
            · (intro w hSw; have q := hw1; go_simp; first | done | (with_reducible rfl))
            simp only [Act.put, A1, A2, A3, A4, A5, A6]
            refine yp (i := 9) (v := ?_) rfl (Or.inl ⟨by rfl, ?_⟩) ?_
            rotate_left
            · (intro w hSw; go_simp; first | done | (with_reducible rfl))
            simp only [Act.put, A1, A2, A3, A4, A5, A6]
            refine yt (i := 10) (v := ?_) rfl (Or.inl ⟨by rfl, ?_⟩) (by assumption) ?_
            rotate_left
            · (intro w hSw; have q := hw2; go_simp; first | done | (with_reducible rfl))
            simp only [Act.put, A1, A2, A3, A4, A5, A6]
            refine yp (i := 11) (v := ?_) rfl (Or.inl ⟨by rfl, ?_⟩) ?_
            rotate_left
            · (intro w hSw; go_simp; first | done | (with_reducible rfl))
            simp only [Act.put, A1, A2, A3, A4, A5, A6]
            refine yp (i := 12) (v := ?_) rfl (Or.inl ⟨by rfl, ?_⟩) ?_
            rotate_left
            · (intro w hSw; go_simp; first | done | (with_reducible rfl))
            simp only [Act.put, A1, A2, A3, A4, A5, A6]
            refine yt (i := 13) (v := .agg ([iv d.x, iv d.y]).toArray) rfl (yieldsIf_load_mid (by rfl) 24 _ rfl _ _ rfl _ _ (fun w hSw => fun r u hu => hSw.g.cell (HDX.out r u hu) (by simp)) hdw.1 hdw.2 info24) (by assumption) ?_
            simp only [Act.put, A1, A2, A3, A4, A5, A6]
            refine yp (i := 14) (v := ?_) rfl (Or.inl ⟨by rfl, ?_⟩) ?_
            rotate_left
            · (intro w hSw; go_simp; first | done | (with_reducible rfl))
            simp only [Act.put, A1, A2, A3, A4, A5, A6]
            refine yp (i := 15) (v := ?_) rfl (Or.inl ⟨by rfl, ?_⟩) ?_
            rotate_left
            · (intro w hSw; go_simp; first | done | (with_reducible rfl))
            simp only [Act.put, A1, A2, A3, A4, A5, A6]
            refine wpAnyY_late (i := 16) (by kernel_rfl) rfl (by kernel_rfl) (fun K hK => ?_)
            rw [if_pos (show Region.wanted _ _ = true from rfl)]
            refine wp_store_mid 24 _ _ rfl gH (i * 7 + 2) [iv d.x, iv d.y].toArray rfl rfl (row_there (HB.out.rowGet k1m) (by omega) 2 (by have := HIN.out; omega)) info24 (all_oneCell_toArray (by intro u hu; simp only [List.mem_cons, List.not_mem_nil, or_false] at hu; rcases hu with rfl | rfl <;> rfl)) ?_
            have S_ := Sep.rowSetsAt [iv d.x, iv d.y] _ _ (i * 7 + 2) (fr1 [_] HB.out)
            have e_ : over (fl shv (M ++ [rmS])) (i * 7 + 2) [iv d.x, iv d.y] = fl shv (M2 ++ [rmS]) := HOV.out
            rw [e_] at S_
            replace HB := Keep.mk (bk1 [_] S_)
            clear S_ e_
            refine hK.out _ _ ?_
            clear hK K
            show wpAnyY _ _ _ _ _ _ _ _ _ (World.setCells W0 gH (i * 7 + 2) [iv d.x, iv d.y])
            change Keep (Sep w0 (World.setCells W0 gH (i * 7 + 2) [iv d.x, iv d.y]) _) at HB
            generalize World.setCells W0 gH (i * 7 + 2) [iv d.x, iv d.y] = W1' at HB ⊢
            simp only [Act.put, A1, A2, A3]
            refine wpAnyY_done (by kernel_rfl) ?_ _
            go_wp2_with fail
            refine region_Y (S := fun w' => Sep w0 w' (rowV 26 14 (sl gC (nc + 1) kC) (nc + 1) (fl crv (L ++ [rmC])) :: rowV 46 7 (sl gH (ns + 1) kH) (ns + 1) (fl shv (M2 ++ [rmS])) :: boxA b4 [.int .u64 t2, .slice ac nc cc, .slice (some ⟨g1, o1, none⟩) ns cz, iv n2] 37 :: boxA b3 [.int .u64 tick, sl gC nc kC, sl gH ns kH, iv nx, sl gC (nc + 1) kC, sl gH (ns + 1) kH] 56 :: l)) [16] (by kernel_rfl) ?_
            obtain ⟨W3', hW3'⟩ : ∃ W_, W1'.drew = W_ := ⟨_, rfl⟩
            replace HB := Keep.mk (HB.out.grown (gr_drew _ none))
            rw [hW3'] at HB ⊢
            clear hW3'
            have hHeld : (fun w' => Sep w0 w' (rowV 26 14 (sl gC (nc + 1) kC) (nc + 1) (fl crv (L ++ [rmC])) :: rowV 46 7 (sl gH (ns + 1) kH) (ns + 1) (fl shv (M2 ++ [rmS])) :: boxA b4 [.int .u64 t2, .slice ac nc cc, .slice (some ⟨g1, o1, none⟩) ns cz, iv n2] 37 :: boxA b3 [.int .u64 tick, sl gC nc kC, sl gH ns kH, iv nx, sl gC (nc + 1) kC, sl gH (ns + 1) kH] 56 :: l)) W3' := HB.out
            refine yp (i := 0) (v := ?_) rfl (Or.inl ⟨by rfl, ?_⟩) ?_
            rotate_left
            · (intro w hSw; go_simp; first | done | (with_reducible rfl))
            simp only [Act.put, A1, A3, A4, A5, A6]
            refine yt (i := 1) (v := ?_) rfl (Or.inl ⟨by rfl, ?_⟩) (by assumption) ?_
            rotate_left
            · (intro w hSw; have q := (hSw.boxGet k3m).cellv 5 _ rfl; go_simp; first | done | (with_reducible rfl))
            simp only [Act.put, A1, A2, A3, A4, A5, A6]
            refine yp (i := 2) (v := ?_) rfl (Or.inl ⟨by rfl, ?_⟩) ?_
            rotate_left
            · (intro w hSw; go_simp; first | done | (with_reducible rfl))
            simp only [Act.put, A1, A2, A3, A4, A5, A6]
            refine yp (i := 3) (v := ?_) rfl (Or.inl ⟨by rfl, ?_⟩) ?_
            rotate_left
            · (intro w hSw; go_simp; first | done | (with_reducible rfl))
            simp only [Act.put, A1, A2, A3, A4, A5, A6]
            refine yt (i := 4) (v := ?_) rfl (Or.inl ⟨by rfl, ?_⟩) (by assumption) ?_
            rotate_left
            · (intro w hSw; have q := (hSw.boxGet k2m).cellv 2 _ rfl; go_simp; first | done | (with_reducible rfl))
            simp only [Act.put, A1, A2, A3, A4, A5, A6]
            refine yp (i := 5) (v := ?_) rfl (Or.inl ⟨by rfl, ?_⟩) ?_
            rotate_left
            · (intro w hSw; go_simp; first | done | (with_reducible rfl))
            simp only [Act.put, A1, A2, A3, A4, A5, A6]
            refine yt (i := 6) (v := ?_) rfl (Or.inl ⟨by rfl, ?_⟩) (by assumption) ?_
            rotate_left
            · (intro w hSw; have q := (hSw.boxGet k2m).cellv 2 _ rfl; go_simp; first | done | (with_reducible rfl))
            simp only [Act.put, A1, A2, A3, A4, A5, A6]
            refine yp (i := 7) (v := ?_) rfl (Or.inl ⟨by rfl, ?_⟩) ?_
            rotate_left
            · (intro w hSw; go_simp; first | done | (with_reducible rfl))
            simp only [Act.put, A1, A2, A3, A4, A5, A6]
            refine yt (i := 8) (v := ?_) rfl (Or.inl ⟨by rfl, ?_⟩) (by assumption) ?_
            rotate_left
            · (intro w hSw; have q := hw1; go_simp; first | done | (with_reducible rfl))
            simp only [Act.put, A1, A2, A3, A4, A5, A6]
            refine yp (i := 9) (v := ?_) rfl (Or.inl ⟨by rfl, ?_⟩) ?_
            rotate_left
            · (intro w hSw; go_simp; first | done | (with_reducible rfl))
            simp only [Act.put, A1, A2, A3, A4, A5, A6]
            refine yt (i := 10) (v := ?_) rfl (Or.inl ⟨by rfl, ?_⟩) (by assumption) ?_
            rotate_left
            · (intro w hSw; have q := hw2; go_simp; first | done | (with_reducible rfl))
            simp only [Act.put, A1, A2, A3, A4, A5, A6]
            refine yp (i := 11) (v := ?_) rfl (Or.inl ⟨by rfl, ?_⟩) ?_
            rotate_left
            · (intro w hSw; go_simp; first | done | (with_reducible rfl))
            simp only [Act.put, A1, A2, A3, A4, A5, A6]
            refine yp (i := 12) (v := ?_) rfl (Or.inl ⟨by rfl, ?_⟩) ?_
            rotate_left
            · (intro w hSw; go_simp; first | done | (with_reducible rfl))
            simp only [Act.put, A1, A2, A3, A4, A5, A6]
            refine yt (i := 13) (v := ?_) rfl (Or.inl ⟨by rfl, ?_⟩) (by assumption) ?_
            rotate_left
            · (intro w hSw; have q := hSw.g.cell HDI.out (by simp); go_simp; first | done | (with_reducible rfl))
            simp only [Act.put, A1, A2, A3, A4, A5, A6]
            refine yp (i := 14) (v := ?_) rfl (Or.inl ⟨by rfl, ?_⟩) ?_
            rotate_left
            · (intro w hSw; go_simp; first | done | (with_reducible rfl))
            simp only [Act.put, A1, A2, A3, A4, A5, A6]
            refine yp (i := 15) (v := ?_) rfl (Or.inl ⟨by rfl, ?_⟩) ?_
            rotate_left
            · (intro w hSw; go_simp; first | done | (with_reducible rfl))
            simp only [Act.put, A1, A2, A3, A4, A5, A6]
            refine wpAnyY_late (i := 16) (by kernel_rfl) rfl (by kernel_rfl) (fun K hK => ?_)
            have hcell := own_cellZ (HB.out.rowGet k1m) (by omega) HC6.out
            have c6 := hcell.1
            have y6 := hcell.2
            have S7 := (fr1 [_] HB.out).rowSet (i * 7) (iv d.id)
            obtain ⟨W7, hW7⟩ : ∃ w, W3'.setCell ⟨gH, i * 7, none⟩ (iv d.id) = w := ⟨_, rfl⟩
            rw [hW7, HOV2.out] at S7
            go_simp
            refine hK.out _ _ ?_
            clear hK K
            have HB7 := Keep.mk (bk1 [_] S7)
            clear S7 hcell c6 y6 hW7
            refine wpAnyY_done (by kernel_rfl) ?_ _
            go_wp2_with fail
            go_roundw
            case rel => exact ⟨i + 1, _, HIN.out, rfl, HM3, HB7⟩
            case measure => simp [intOf]; have := HIN.out; omega
          · have hlt1 : ¬ (i : Int) < (ns : Int) := by omega
            clear hlt hi
            as_aux_lemma =>
              have HRX : Keep (wr.rangeAt b3 0 [.int .u64 tick, sl gC nc kC, sl gH ns kH, iv nx]) := ⟨range_pre (ys := [sl gC (nc + 1) kC, sl gH (ns + 1) kH]) (HB.out.boxGet k3m).range⟩
              go_wp2_with (first
                | (with_reducible show wpList _ _ _ ({ dst := some 85, op := Op.load 37 _, type := _, pos := _, after := _, guard := _ } :: _) _ _
                   refine wpList_load_mid rfl 37 _ rfl _ _ rfl ([.int .u64 tick, sl gC nc kC, sl gH ns kH, iv nx]) _ HRX.out hds.1 hds.2 info37 ?_))
              clear HRX d2'
              refine (lent_c wr tick nx (sl gC nc kC) (sl gH ns kH) L M (Ls.pre crv_len HL.out.1 HB.out k0m) (Ls.pre shv_len HM.out.1 HB.out k1m) (by rw [HL.out.1]; have := HNN.out; omega) (by rw [HM.out.1]; have := HNN.out; omega)).mono ?_
              rintro e W5 hLt
              obtain ⟨gD, kD, gE, kE, rfl, S5⟩ := hLt.o
              rw [HL.out.1, HM.out.1] at S5 ⊢
              replace HB := Keep.mk (HB.out.join S5)
              clear S5 hLt
              go_wp2_with (first
                | (with_reducible show wpList _ _ _ ({ dst := _, op := Op.store 56 _ _, type := _, pos := _, after := _, guard := _ } :: _) _ _
                   refine store_new W5 [.int .u64 tick, sl gD nc kD, sl gE ns kE, iv nx, sl gD (nc + 1) kD, sl gE (ns + 1) kE] 56 rfl rfl rfl rfl rfl info56 (lnv_one _ _ _ _ _ _ _ _ _ _ _ _ _ _) ?_))
              intro W6 hS6 g6
              obtain ⟨nb, hnb⟩ : ∃ b, W5.heap.size = b := ⟨_, rfl⟩
              have S6 := hS6 _ _ HB.out
              rw [hnb] at S6 ⊢
              replace HB : Keep (Sep w0 W6 (boxA nb [.int .u64 tick, sl gD nc kD, sl gE ns kE, iv nx, sl gD (nc + 1) kD, sl gE (ns + 1) kE] 56 :: rowV 26 14 (sl gD (nc + 1) kD) (nc + 1) (fl crv (L ++ [rmC])) :: rowV 46 7 (sl gE (ns + 1) kE) (ns + 1) (fl shv (M ++ [rmS])) :: rowV 26 14 (sl gC (nc + 1) kC) (nc + 1) (fl crv (L ++ [rmC])) :: rowV 46 7 (sl gH (ns + 1) kH) (ns + 1) (fl shv (M ++ [rmS])) :: boxA b4 [.int .u64 t2, .slice ac nc cc, .slice az ns cz, iv n2] 37 :: boxA b3 [.int .u64 tick, sl gC nc kC, sl gH ns kH, iv nx, sl gC (nc + 1) kC, sl gH (ns + 1) kH] 56 :: l)) := ⟨S6⟩
              clear S6 hS6 g6 hnb
              obtain ⟨aA, cA, rfl, hA⟩ := HAL.out
              obtain ⟨nA, hnA⟩ : ∃ n, AL.length = n := ⟨_, rfl⟩
              have HA := Keep.mk hA
              have HNL := Keep.mk hnA
              rw [hnA]
              clear hA hnA HAL
              go_wp2_with fail
              go_loopw [10] (fun u10 wr => ∃ i : Nat, i ≤ 8 ∧ u10 = iv i ∧ Keep (Sep w0 wr (boxA nb [.int .u64 tick, sl gD nc kD, sl gE ns kE, iv nx, sl gD (nc + 1) kD, sl gE (ns + 1) kE] 56 :: rowV 26 14 (sl gD (nc + 1) kD) (nc + 1) (fl crv (L ++ [rmC])) :: rowV 46 7 (sl gE (ns + 1) kE) (ns + 1) (fl shv (M ++ [rmS])) :: rowV 26 14 (sl gC (nc + 1) kC) (nc + 1) (fl crv (L ++ [rmC])) :: rowV 46 7 (sl gH (ns + 1) kH) (ns + 1) (fl shv (M ++ [rmS])) :: boxA b4 [.int .u64 t2, .slice ac nc cc, .slice az ns cz, iv n2] 37 :: boxA b3 [.int .u64 tick, sl gC nc kC, sl gH ns kH, iv nx, sl gC (nc + 1) kC, sl gH (ns + 1) kH] 56 :: l))) (fun u10 _ => (8 - intOf u10).toNat)
              case atStart => exact ⟨0, Nat.zero_le _, rfl, HB⟩
              case round =>
                clear HB
                obtain ⟨i, hi, rfl, HB⟩ := hrel
                by_cases hlt : i < nA
                · have hlt1 : (i : Int) < (nA : Int) := by omega
                  by_cases h8 : i < 8
                  · have h81 : (i : Int) < 8 := by omega
                    have h82 : decide ((i : Int) < 8) = true := decide_eq_true h81
                    have hi0 : (0 : Int) ≤ (i : Int) := by omega
                    have hit : ((i : Nat) : Int).toNat = i := by omega
                    have hiw : IntKind.i64.wrap ((i : Int) + 1) = ((i + 1 : Nat) : Int) := by rw [IntKind.wrap_i64]; omega
                    obtain ⟨a, ha⟩ : ∃ y, AL[i]? = some y := ⟨_, List.getElem?_eq_getElem (by rw [HNL.out]; exact hlt)⟩
                    obtain ⟨g1, o1, e1, q1⟩ := HA.out (by rw [HNL.out]; omega)
                    subst e1
                    have HRA : Keep (wr.rangeAt g1 (o1 + i * 3) (askv a)) := ⟨fun r u hu => HB.out.g.cell (q1 i a ha r u hu) (by simp)⟩
                    have HI8 : Keep (i < 8) := ⟨h8⟩
                    clear q1 ha hlt h8 hi
                    go_wp2_with (first
                      | (with_reducible show wpList _ _ _ ({ dst := some 100, op := Op.load 39 _, type := _, pos := _, after := _, guard := _ } :: _) _ _
                         refine wpList_load_mid rfl 39 _ rfl _ _ rfl (askv a) _ HRA.out hda.1 hda.2 info39 ?_)
                      | (with_reducible show wpList _ _ _ ({ dst := _, op := Op.store 39 _ _, type := _, pos := _, after := _, guard := _ } :: _) _ _
                         refine store_new wr (askv a) 39 rfl rfl rfl rfl rfl info39 (askv_one a) ?_))
                    intro w2 hS2 g2
                    obtain ⟨ab, hab⟩ : ∃ b, wr.heap.size = b := ⟨_, rfl⟩
                    have S2 := hS2 _ _ HB.out
                    rw [hab] at S2 ⊢
                    replace HB : Keep (Sep w0 w2 (boxA ab (askv a) 39 :: boxA nb [.int .u64 tick, sl gD nc kD, sl gE ns kE, iv nx, sl gD (nc + 1) kD, sl gE (ns + 1) kE] 56 :: rowV 26 14 (sl gD (nc + 1) kD) (nc + 1) (fl crv (L ++ [rmC])) :: rowV 46 7 (sl gE (ns + 1) kE) (ns + 1) (fl shv (M ++ [rmS])) :: rowV 26 14 (sl gC (nc + 1) kC) (nc + 1) (fl crv (L ++ [rmC])) :: rowV 46 7 (sl gH (ns + 1) kH) (ns + 1) (fl shv (M ++ [rmS])) :: boxA b4 [.int .u64 t2, .slice ac nc cc, .slice az ns cz, iv n2] 37 :: boxA b3 [.int .u64 tick, sl gC nc kC, sl gH ns kH, iv nx, sl gC (nc + 1) kC, sl gH (ns + 1) kH] 56 :: l)) := ⟨S2⟩
                    clear S2 hS2 g2 hab HRA
                    have HRX : Keep (w2.rangeAt nb 0 [.int .u64 tick, sl gD nc kD, sl gE ns kE, iv nx]) := ⟨range_pre (ys := [sl gD (nc + 1) kD, sl gE (ns + 1) kE]) (HB.out.boxGet k1m).range⟩
                    have y0 := (HB.out.boxGet k0m).cellv 0 _ rfl
                    have y1 := (HB.out.boxGet k0m).cellv 1 _ rfl
                    have y2 := (HB.out.boxGet k0m).cellv 2 _ rfl
                    have HSD : Keep (StO w2 (sl gD nc kD) (sl gE ns kE) L M) := ⟨⟨Ls.pre crv_len HL.out.1 HB.out k2m, Ls.pre shv_len HM.out.1 HB.out k3m, HL.out.2, HM.out.2, by rw [HL.out.1]; have := HNN.out; omega, by rw [HM.out.1]; have := HNN.out; omega, by rw [HL.out.1, HM.out.1]; have := HNN.out; omega⟩⟩
                    go_wp2_with (first
                      | (with_reducible show wpList _ _ _ ({ dst := some 103, op := Op.load 37 _, type := _, pos := _, after := _, guard := _ } :: _) _ _
                         refine wpList_load_mid rfl 37 _ rfl _ _ rfl ([.int .u64 tick, sl gD nc kD, sl gE ns kE, iv nx]) _ HRX.out hds.1 hds.2 info37 ?_))
                    refine (rof_c w2 tick nx a.p a.r a.s (sl gD nc kD) (sl gE ns kE) L M HSD.out (by rw [HL.out.1, HM.out.1]; exact HNN.out.2.2)).mono ?_
                    rintro e w3 hOf
                    obtain ⟨tk1, ow1, a1, n1, c1, T1, cd1, rfl, hT1, hn1, S3, hQ1⟩ := hOf.o
                    replace HB := Keep.mk (HB.out.join S3)
                    have HT1 : Keep (T1.length = n1 ∧ n1 ≤ 32) := ⟨⟨hT1, hn1⟩⟩
                    have HQ1 := Keep.mk hQ1
                    have HON := Keep.mk (vwv_one tk1 ow1 (.slice a1 n1 c1) ⟨_, _, _, rfl⟩)
                    clear S3 hOf hT1 hn1 hQ1 y0 y1 y2 HRX HSD
                    go_wp2_with (first
                      | (with_reducible show wpList _ _ _ ({ dst := _, op := Op.store 29 _ _, type := _, pos := _, after := _, guard := _ } :: _) _ _
                         refine store_new w3 (vwv tk1 ow1 (.slice a1 n1 c1)) 29 rfl rfl rfl rfl rfl info29 HON.out ?_))
                    intro w4 hS4 g4
                    obtain ⟨fb, hfb⟩ : ∃ b, w3.heap.size = b := ⟨_, rfl⟩
                    have S4 := hS4 _ _ HB.out
                    rw [hfb] at S4 ⊢
                    replace HB : Keep (Sep w0 w4 (boxA fb (vwv tk1 ow1 (.slice a1 n1 c1)) 29 :: rowV 33 5 (.slice a1 n1 c1) n1 (fl snv T1) :: boxA ab (askv a) 39 :: boxA nb [.int .u64 tick, sl gD nc kD, sl gE ns kE, iv nx, sl gD (nc + 1) kD, sl gE (ns + 1) kE] 56 :: rowV 26 14 (sl gD (nc + 1) kD) (nc + 1) (fl crv (L ++ [rmC])) :: rowV 46 7 (sl gE (ns + 1) kE) (ns + 1) (fl shv (M ++ [rmS])) :: rowV 26 14 (sl gC (nc + 1) kC) (nc + 1) (fl crv (L ++ [rmC])) :: rowV 46 7 (sl gH (ns + 1) kH) (ns + 1) (fl shv (M ++ [rmS])) :: boxA b4 [.int .u64 t2, .slice ac nc cc, .slice az ns cz, iv n2] 37 :: boxA b3 [.int .u64 tick, sl gC nc kC, sl gH ns kH, iv nx, sl gC (nc + 1) kC, sl gH (ns + 1) kH] 56 :: l)) := ⟨S4⟩
                    clear S4 hS4 g4 hfb HON
                    have HRX : Keep (w4.rangeAt b3 0 [.int .u64 tick, sl gC nc kC, sl gH ns kH, iv nx]) := ⟨range_pre (ys := [sl gC (nc + 1) kC, sl gH (ns + 1) kH]) (HB.out.boxGet (List.mem_cons_of_mem _ (List.mem_cons_of_mem _ (List.mem_cons_of_mem _ (List.mem_cons_of_mem _ (List.mem_cons_of_mem _ (List.mem_cons_of_mem _ (List.mem_cons_of_mem _ (List.mem_cons_of_mem _ (List.mem_cons_of_mem _ k0m)))))))))).range⟩
                    have y0 := (HB.out.boxGet k2m).cellv 0 _ rfl
                    have y1 := (HB.out.boxGet k2m).cellv 1 _ rfl
                    have y2 := (HB.out.boxGet k2m).cellv 2 _ rfl
                    have HSD : Keep (StO w4 (sl gC nc kC) (sl gH ns kH) L M) := ⟨⟨Ls.pre crv_len HL.out.1 HB.out (List.mem_cons_of_mem _ (List.mem_cons_of_mem _ (List.mem_cons_of_mem _ (List.mem_cons_of_mem _ (List.mem_cons_of_mem _ (List.mem_cons_of_mem _ k0m)))))), Ls.pre shv_len HM.out.1 HB.out (List.mem_cons_of_mem _ (List.mem_cons_of_mem _ (List.mem_cons_of_mem _ (List.mem_cons_of_mem _ (List.mem_cons_of_mem _ (List.mem_cons_of_mem _ (List.mem_cons_of_mem _ k0m))))))), HL.out.2, HM.out.2, by rw [HL.out.1]; have := HNN.out; omega, by rw [HM.out.1]; have := HNN.out; omega, by rw [HL.out.1, HM.out.1]; have := HNN.out; omega⟩⟩
                    go_wp2_with (first
                      | (with_reducible show wpList _ _ _ ({ dst := some 115, op := Op.load 37 _, type := _, pos := _, after := _, guard := _ } :: _) _ _
                         refine wpList_load_mid rfl 37 _ rfl _ _ rfl ([.int .u64 tick, sl gC nc kC, sl gH ns kH, iv nx]) _ HRX.out hds.1 hds.2 info37 ?_))
                    refine (of_v w4 tick nx a.p a.r a.s (sl gC nc kC) (sl gH ns kH) L M HSD.out).mono ?_
                    rintro e w5 hOf
                    obtain ⟨tk2, ow2, a2, n2', c2, T2, cd2, rfl, hT2, _, S5, hQ2⟩ := hOf.o
                    obtain ⟨r1, r2, r3, r4⟩ := hQ2.ofT HQ1.out
                    replace r1 := r1.symm
                    replace r2 := r2.symm
                    replace r3 := r3.symm
                    replace r4 := r4.symm
                    obtain rfl : n1 = n2' := by rw [← hT2, ← r3, HT1.out.1]
                    subst r1 r2 r3 r4
                    replace HB := Keep.mk (HB.out.join S5)
                    have HON := Keep.mk (vwv_one tk1 ow1 (.slice a2 n1 c2) ⟨_, _, _, rfl⟩)
                    clear S5 hOf hQ2 hT2 y0 y1 y2 HRX HSD
                    go_wp2_with (first
                      | (with_reducible show wpList _ _ _ ({ dst := _, op := Op.store 29 _ _, type := _, pos := _, after := _, guard := _ } :: _) _ _
                         refine store_new w5 (vwv tk1 ow1 (.slice a2 n1 c2)) 29 rfl rfl rfl rfl rfl info29 HON.out ?_))
                    intro w6 hS6 g6
                    obtain ⟨vb, hvb⟩ : ∃ b, w5.heap.size = b := ⟨_, rfl⟩
                    have S6 := hS6 _ _ HB.out
                    rw [hvb] at S6 ⊢
                    replace HB : Keep (Sep w0 w6 (boxA vb (vwv tk1 ow1 (.slice a2 n1 c2)) 29 :: rowV 33 5 (.slice a2 n1 c2) n1 (fl snv T1) :: boxA fb (vwv tk1 ow1 (.slice a1 n1 c1)) 29 :: rowV 33 5 (.slice a1 n1 c1) n1 (fl snv T1) :: boxA ab (askv a) 39 :: boxA nb [.int .u64 tick, sl gD nc kD, sl gE ns kE, iv nx, sl gD (nc + 1) kD, sl gE (ns + 1) kE] 56 :: rowV 26 14 (sl gD (nc + 1) kD) (nc + 1) (fl crv (L ++ [rmC])) :: rowV 46 7 (sl gE (ns + 1) kE) (ns + 1) (fl shv (M ++ [rmS])) :: rowV 26 14 (sl gC (nc + 1) kC) (nc + 1) (fl crv (L ++ [rmC])) :: rowV 46 7 (sl gH (ns + 1) kH) (ns + 1) (fl shv (M ++ [rmS])) :: boxA b4 [.int .u64 t2, .slice ac nc cc, .slice az ns cz, iv n2] 37 :: boxA b3 [.int .u64 tick, sl gC nc kC, sl gH ns kH, iv nx, sl gC (nc + 1) kC, sl gH (ns + 1) kH] 56 :: l)) := ⟨S6⟩
                    clear S6 hS6 g6 hvb HON
                    have HRN := Keep.mk ((HB.out.boxGet k0m).range)
                    have HRF := Keep.mk ((HB.out.boxGet k2m).range)
                    go_wp2_with (first
                      | (with_reducible show wpList _ _ _ ({ dst := some 129, op := Op.load 29 _, type := _, pos := _, after := _, guard := _ } :: _) _ _
                         refine load_g rfl 29 _ rfl _ _ rfl (vwv tk1 ow1 (.slice a2 n1 c2)) _ HRN.out hdv.1 hdv.2 info29 ?_)
                      | (with_reducible show wpList _ _ _ ({ dst := some 130, op := Op.load 29 _, type := _, pos := _, after := _, guard := _ } :: _) _ _
                         refine load_g rfl 29 _ rfl _ _ rfl (vwv tk1 ow1 (.slice a1 n1 c1)) _ HRF.out hdv.1 hdv.2 info29 ?_))
                    refine (req_c w6 tk1 tk1 ow1 ow1 (.slice a2 n1 c2) (.slice a1 n1 c1) T1 T1 (Ls.own (e := 33) snv_len HB.out (by rw [HT1.out.1]; exact k1m)) (Ls.own (e := 33) snv_len HB.out (by rw [HT1.out.1]; exact k3m)) (by have := HT1.out; omega)).mono ?_
                    rintro e w7 ⟨rfl, g7⟩
                    rw [decide_eq_true (⟨rfl, rfl, rfl⟩ : tk1 = tk1 ∧ ow1 = ow1 ∧ T1 = T1)]
                    replace HB := Keep.mk (HB.out.grown g7)
                    clear g7 HRN HRF
                    go_wp2_with fail
                    go_roundw
                    case rel => exact ⟨i + 1, HI8.out, rfl, ⟨HB.out.tail.tail.tail.tail.tail⟩⟩
                    case measure => simp [intOf]; have := HI8.out; omega
                  · have h81 : ¬ (i : Int) < 8 := by omega
                    have h82 : decide ((i : Int) < 8) = false := decide_eq_false h81
                    have HG := Keep.mk HB.out.g
                    go_wp2_with fail
                    go_ret
                    exact ⟨rfl, HG.out⟩
                · have hlt1 : ¬ (i : Int) < (nA : Int) := by omega
                  have HG := Keep.mk HB.out.g
                  go_wp2_with fail
                  go_ret
                  exact ⟨rfl, HG.out⟩

end Go.Proofs.YtgedlabmndlooaaGreat
