/- slices.Clone; view.firsts -/
import Derived.Test.YtgedlabmndlooaaGreatCA
import Derived.Laws.EntriesVeiled
namespace Go.Proofs.YtgedlabmndlooaaGreat
open Go Go.RowKit Go.Maps

/-- a list as it is read -/
def Ls {α : Type} (enc : α → List Value) (k : Nat) (W : World) (v : Value) (L : List α) : Prop := ∃ a cap, v = .slice a L.length cap ∧ (0 < L.length → ∃ g o, a = some ⟨g, o, none⟩ ∧ ∀ (j : Nat) (x : α), L[j]? = some x → W.rangeAt g (o + j * k) (enc x))
theorem Ls.kept {α : Type} {enc : α → List Value} {k : Nat} {W W' : World} {v : Value} {L : List α} (h : Ls enc k W v L) (g : W.grownBy W' none) : Ls enc k W' v L := by
  obtain ⟨a, cap, e, q⟩ := h
  refine ⟨a, cap, e, fun hn => ?_⟩
  obtain ⟨b, o, e1, q⟩ := q hn
  exact ⟨b, o, e1, fun j x hx r u hu => g.cell (q j x hx r u hu) (by simp)⟩
/-- a row of the call's own, as it is read -/
theorem Ls.own {α : Type} {enc : α → List Value} {k : Nat} (hk : ∀ x, (enc x).length = k) {w0 W : World} {l : List As} {e : TypeId} {v : Value} {L : List α} (h : Sep w0 W l) (hm : rowV e k v L.length (fl enc L) ∈ l) : Ls enc k W v L := by
  obtain ⟨a, c, rfl⟩ := own_slice (h.rowGet hm)
  refine ⟨a, c, rfl, fun hn => ?_⟩
  obtain ⟨g, c', e1, q⟩ := own_any (h.rowGet hm) hn
  injection e1 with e1 _ _
  exact ⟨g, 0, e1, fun j x hx r u hu => by rw [Nat.zero_add]; exact (q _ _ (fl_get hk L j x r u hx hu)).1⟩
/-- many things more, out of any list -/
theorem Sep.appF {w0 W : World} {l : List As} {t e : TypeId} {i : TypeInfo} {z : Value} {s bytes : Nat} (ht : Tryz.prog.underlying t = some (.slice e)) (hi : Tryz.prog.info? e = some i) (hz : i.zero = some z) (hs : i.size = s) (hby : i.bytes = bytes) (hzs : z.cells.size = s) (hs0 : 0 < s)
    {v : Value} {n : Nat} {xs : List Value} (h : Sep w0 W (rowV e s v n xs :: l)) (a : Addr) (m c : Nat) (cs : List Value) (hcs : cs.length = m * s) (hc : ∀ (j : Nat) u, cs[j]? = some u → W.cell? (a.add j) = some u) (h1 : ∀ u ∈ cs, u.oneCell' = true) (hsz : (n + m) * bytes ≤ 140737488355328) (hb0 : 0 < bytes := by decide) :
    ∃ v' W', (Builtin.append_ #[t, t] t #[v, .slice (some a) m c]).run Tryz.prog W = .ok v' W' ∧ Sep w0 W' (rowV e s v' (n + m) (xs ++ cs) :: l) := by
  obtain ⟨F, ⟨ho, rfl⟩, _, hu⟩ := h.use
  have hle : n + m ≤ 140737488355328 := Nat.le_trans (Nat.le_mul_of_pos_right _ hb0) hsz
  obtain ⟨v', w', r1, r2, r3, _, r5⟩ := run_append_own_at (P := Tryz.prog) W 0 t t e i z s bytes ht hi hz hs hby hzs hs0 v n xs ho a m c cs hcs hc h1 (by unfold maxLen; omega) hsz (Nat.zero_le _)
  refine ⟨v', w', r1, hu w' [_] ((Fr.of r3).mono (fun i hi => .inl hi)) (Loc.one (a := rowV _ _ _ _ _) _ ⟨r2, rfl⟩ (fun i hi => ?_))⟩
  rcases r5 with q | q
  · exact .inl (by rw [← q]; exact hi)
  · rw [q] at hi
    injection hi with e
    exact .inr (by omega)
theorem infoBC : ∃ i, Tryz.prog.info? 26 = some i ∧ i.size = 14 ∧ i.bytes = 120 ∧ i.zero = some (.agg zvC.toArray) := by
  have h : (Tryz.prog.info? 26).map (fun i => (i.size, i.bytes, i.zero)) = some (14, 120, some (.agg zvC.toArray)) := by kernel_rfl
  cases e : Tryz.prog.info? 26 with
  | none => rw [e] at h; cases h
  | some i =>
    rw [e] at h
    simp only [Option.map_some, Option.some.injEq, Prod.mk.injEq] at h
    exact ⟨i, rfl, h.1, h.2.1, h.2.2⟩
theorem fl_oneC (L : List Cr) : ∀ u ∈ fl crv L, u.oneCell' = true := by
  intro u hu
  obtain ⟨x, _, hx⟩ := List.mem_flatMap.1 hu
  exact crv_one x u hx
set_option maxRecDepth 100000 in
set_option maxHeartbeats 16000000 in
theorem clnC (w0 W : World) (l : List As) (v : Value) (L : List Cr) (hn : L.length * 120 ≤ 140737488355328) (hv : Ls crv 14 W v L) (h : Sep w0 W l) :
    Calls Tryz.prog 53 #[v] W fun e W' => ∃ v', e = .returned v' ∧ Sep w0 W' (rowV 26 14 v' L.length (fl crv L) :: l) := by
  obtain ⟨a, cap, rfl, hv⟩ := hv
  have hnil := fun W => Lib.run_eql_slice_nil (P := Tryz.prog) W 34 26 a L.length cap 0 0 undSC
  cases a with
  | none =>
    have h0 : L = [] := by
      cases L with
      | nil => rfl
      | cons x r => obtain ⟨g, o, e, _⟩ := hv (by simp); cases e
    subst h0
    replace hnil : ∀ W, (binOp .eql 34 (.slice none 0 cap) (.slice none 0 0)).run Tryz.prog W = .ok (.bool true) W := hnil
    have HE : Keep (Sep w0 W (rowV 26 14 (.slice none 0 0) 0 [] :: l)) := ⟨h.nilV 26 14⟩
    clear h hv hn
    show Calls Tryz.prog 53 #[.slice none 0 cap] W _
    go_enter Tryz.func53, Tryz.ntmps53
    go_wp2_with fail
    go_ret
    exact ⟨_, rfl, HE.out⟩
  | some p =>
    obtain ⟨i, i1, i2, i3, i4⟩ := infoBC
    have S1 : Sep w0 (W.alloc (.cells #[] 26)) (rowV 26 14 (sl W.heap.size 0 0) 0 [] :: l) := h.new (World.grownBy_alloc _ _ _) (Loc.one (a := rowV _ _ _ _ _) (fun i => some W.heap.size = some i) ⟨⟨rfl, .inr ⟨W.heap.size, 0, #[], rfl, Nat.zero_le _, heap_alloc_last W _, Nat.le_refl _, by decide, rfl, rfl⟩⟩, rfl⟩ (fun i hi => .inr (by cases hi; exact Nat.le_refl _)))
    obtain ⟨v', W', r1, S2⟩ := Sep.appF (t := 34) undSC i1 i4 i2 i3 rfl (by decide) S1 p L.length cap (fl crv L) (fl_len crv_len L) (fun j u hu => by
      have hj := (List.getElem?_eq_some_iff.1 hu).1
      rw [fl_len crv_len] at hj
      obtain ⟨g, o, e, q⟩ := hv (by omega)
      injection e with e
      subst e
      have hjk : j / 14 < L.length := by omega
      have q2 := q (j / 14) L[j / 14] (List.getElem?_eq_getElem hjk) (j % 14) u (by
        have hr : j % 14 < (crv L[j / 14]).length := by rw [crv_len]; omega
        rw [List.getElem?_eq_getElem hr]
        have q3 := fl_get crv_len L (j / 14) L[j / 14] (j % 14) _ (List.getElem?_eq_getElem hjk) (List.getElem?_eq_getElem hr)
        rw [show j / 14 * 14 + j % 14 = j by omega, hu] at q3
        exact q3.symm)
      have q4 := (World.grownBy_alloc W (.cells #[] 26) none).cell q2 (by simp)
      rw [Addr.add_mid, show o + j = o + j / 14 * 14 + j % 14 by omega]
      exact q4) (fl_oneC L) (by omega)
    obtain ⟨n, hnn⟩ : ∃ n, L.length = n := ⟨_, rfl⟩
    rw [hnn] at r1 S2 hnil ⊢
    have AP := Keep.mk r1
    have HE : Keep (Sep w0 W' (rowV 26 14 v' n (fl crv L) :: l)) := ⟨by rw [Nat.zero_add, List.nil_append] at S2; exact S2⟩
    obtain ⟨wb, hwb⟩ : ∃ b, W.heap.size = b := ⟨_, rfl⟩
    rw [hwb] at AP
    clear r1 S2 S1 h hv i1 i2 i3 i4 hn hnn
    go_enter Tryz.func53, Tryz.ntmps53
    go_wp2_with (first
      | (at_builtin; refine wpList_append_run _ rfl (.tmp 5) (.tmp 6) 34 rfl _ _ rfl rfl AP.out ?_))
    go_ret
    exact ⟨_, rfl, HE.out⟩
structure FrC (w0 W : World) (l : List As) (L : List Cr) (v : Value) : Prop where
  o : ∃ C : List Cr, Fst1 (fun c : Cr => c.pl) L C ∧ C.length ≤ L.length ∧ Sep w0 W (rowV 26 14 v C.length (fl crv C) :: l)
set_option maxRecDepth 100000 in
set_option maxHeartbeats 16000000 in
theorem cpwC (w0 W : World) (l : List As) (v : Value) (kb : Nat) (L : List Cr) (hn1 : L.length ≤ 281474976710656) (hkb : boxA kb [nvC] 86 ∈ l) (h : Sep w0 W (rowV 26 14 v L.length (fl crv L) :: l)) :
    Calls Tryz.prog 57 #[v, evC kb] W fun e W' => ∃ v', e = .returned v' ∧ CptC w0 W' l L v' := by
  by_cases h2 : L.length < 2
  · obtain ⟨a, c, rfl⟩ := own_slice (h.rowGet k0m)
    have HE : Keep (CptC w0 W l L (.slice a L.length c)) := ⟨⟨by rw [dd_short h2]; exact h⟩⟩
    obtain ⟨n, hn⟩ : ∃ n, L.length = n := ⟨_, rfl⟩
    rw [hn] at HE h2 ⊢
    have h3 : (n : Int) < 2 := by omega
    clear h hn h2
    go_enter Tryz.func57, Tryz.ntmps57
    go_wp2_with fail
    go_ret
    exact ⟨_, rfl, HE.out⟩
  · obtain ⟨g, c, rfl, _⟩ := own_any (h.rowGet k0m) (by omega)
    exact cptC w0 W l g L.length c kb L rfl (by omega) hn1 hkb h
set_option maxRecDepth 100000 in
set_option maxHeartbeats 16000000 in
theorem firC (w0 W : World) (l : List As) (v : Value) (L : List Cr) (hn : L.length * 120 ≤ 140737488355328) (hv : Ls crv 14 W v L) (h : Sep w0 W l) :
    Calls Tryz.prog 43 #[v, nvC] W fun e W' => ∃ v', e = .returned v' ∧ FrC w0 W' l L v' := by
  have S1 := h.newBox #[nvC] 86
  obtain ⟨kb, hkb⟩ : ∃ b, W.heap.size = b := ⟨_, rfl⟩
  obtain ⟨W1, hW1⟩ : ∃ w, W.alloc (.cells #[nvC] 86) = w := ⟨_, rfl⟩
  have g1 : W.grownBy W1 none := by rw [← hW1]; exact gr_alloc _ _ _
  rw [hkb, hW1] at S1
  have HC := Keep.mk (clnC w0 W1 _ v L hn (hv.kept g1) S1)
  have HN : Keep (L.length ≤ 281474976710656) := ⟨by omega⟩
  clear S1 hv g1 hn h
  go_enter Tryz.func43, Tryz.ntmps43
  go_wp2_with fail
  refine HC.out.mono ?_
  rintro e w2 ⟨v2, rfl, S2⟩
  have HS := Keep.mk (sstC w0 w2 _ v2 kb L HN.out k0m S2)
  clear S2 HC hkb hW1
  go_wp2_with fail
  refine HS.out.mono ?_
  rintro e w3 ⟨rfl, R, r1, r2, S3⟩
  have HP := Keep.mk (cpwC w0 w3 _ v2 kb R (by rw [r2.len]; exact HN.out) k0m S3)
  have HF : Keep (∀ w4 v', CptC w0 w4 (boxA kb [nvC] 86 :: l) R v' → FrC w0 w4 l L v') := ⟨fun w4 v' q => ⟨dd (fun c : Cr => c.pl) R, (dd_spec r1).stb r2, by rw [← r2.len]; exact dd_len _, q.o.swap.tail⟩⟩
  clear S3 HS r1 r2
  go_wp2_with fail
  refine HP.out.mono ?_
  rintro e w4 ⟨v4, rfl, q4⟩
  have HE := Keep.mk (HF.out w4 v4 q4)
  clear HP HF q4
  go_wp2_with fail
  go_ret
  exact ⟨_, rfl, HE.out⟩
theorem infoBS : ∃ i, Tryz.prog.info? 46 = some i ∧ i.size = 7 ∧ i.bytes = 56 ∧ i.zero = some (.agg zvS.toArray) := by
  have h : (Tryz.prog.info? 46).map (fun i => (i.size, i.bytes, i.zero)) = some (7, 56, some (.agg zvS.toArray)) := by kernel_rfl
  cases e : Tryz.prog.info? 46 with
  | none => rw [e] at h; cases h
  | some i =>
    rw [e] at h
    simp only [Option.map_some, Option.some.injEq, Prod.mk.injEq] at h
    exact ⟨i, rfl, h.1, h.2.1, h.2.2⟩
theorem fl_oneS (L : List Sh) : ∀ u ∈ fl shv L, u.oneCell' = true := by
  intro u hu
  obtain ⟨x, _, hx⟩ := List.mem_flatMap.1 hu
  exact shv_one x u hx
set_option maxRecDepth 100000 in
set_option maxHeartbeats 16000000 in
theorem clnS (w0 W : World) (l : List As) (v : Value) (L : List Sh) (hn : L.length * 56 ≤ 140737488355328) (hv : Ls shv 7 W v L) (h : Sep w0 W l) :
    Calls Tryz.prog 60 #[v] W fun e W' => ∃ v', e = .returned v' ∧ Sep w0 W' (rowV 46 7 v' L.length (fl shv L) :: l) := by
  obtain ⟨a, cap, rfl, hv⟩ := hv
  have hnil := fun W => Lib.run_eql_slice_nil (P := Tryz.prog) W 35 46 a L.length cap 0 0 undSS
  cases a with
  | none =>
    have h0 : L = [] := by
      cases L with
      | nil => rfl
      | cons x r => obtain ⟨g, o, e, _⟩ := hv (by simp); cases e
    subst h0
    replace hnil : ∀ W, (binOp .eql 35 (.slice none 0 cap) (.slice none 0 0)).run Tryz.prog W = .ok (.bool true) W := hnil
    have HE : Keep (Sep w0 W (rowV 46 7 (.slice none 0 0) 0 [] :: l)) := ⟨h.nilV 46 7⟩
    clear h hv hn
    show Calls Tryz.prog 60 #[.slice none 0 cap] W _
    go_enter Tryz.func60, Tryz.ntmps60
    go_wp2_with fail
    go_ret
    exact ⟨_, rfl, HE.out⟩
  | some p =>
    obtain ⟨i, i1, i2, i3, i4⟩ := infoBS
    have S1 : Sep w0 (W.alloc (.cells #[] 46)) (rowV 46 7 (sl W.heap.size 0 0) 0 [] :: l) := h.new (World.grownBy_alloc _ _ _) (Loc.one (a := rowV _ _ _ _ _) (fun i => some W.heap.size = some i) ⟨⟨rfl, .inr ⟨W.heap.size, 0, #[], rfl, Nat.zero_le _, heap_alloc_last W _, Nat.le_refl _, by decide, rfl, rfl⟩⟩, rfl⟩ (fun i hi => .inr (by cases hi; exact Nat.le_refl _)))
    obtain ⟨v', W', r1, S2⟩ := Sep.appF (t := 35) undSS i1 i4 i2 i3 rfl (by decide) S1 p L.length cap (fl shv L) (fl_len shv_len L) (fun j u hu => by
      have hj := (List.getElem?_eq_some_iff.1 hu).1
      rw [fl_len shv_len] at hj
      obtain ⟨g, o, e, q⟩ := hv (by omega)
      injection e with e
      subst e
      have hjk : j / 7 < L.length := by omega
      have q2 := q (j / 7) L[j / 7] (List.getElem?_eq_getElem hjk) (j % 7) u (by
        have hr : j % 7 < (shv L[j / 7]).length := by rw [shv_len]; omega
        rw [List.getElem?_eq_getElem hr]
        have q3 := fl_get shv_len L (j / 7) L[j / 7] (j % 7) _ (List.getElem?_eq_getElem hjk) (List.getElem?_eq_getElem hr)
        rw [show j / 7 * 7 + j % 7 = j by omega, hu] at q3
        exact q3.symm)
      have q4 := (World.grownBy_alloc W (.cells #[] 46) none).cell q2 (by simp)
      rw [Addr.add_mid, show o + j = o + j / 7 * 7 + j % 7 by omega]
      exact q4) (fl_oneS L) (by omega)
    obtain ⟨n, hnn⟩ : ∃ n, L.length = n := ⟨_, rfl⟩
    rw [hnn] at r1 S2 hnil ⊢
    have AP := Keep.mk r1
    have HE : Keep (Sep w0 W' (rowV 46 7 v' n (fl shv L) :: l)) := ⟨by rw [Nat.zero_add, List.nil_append] at S2; exact S2⟩
    obtain ⟨wb, hwb⟩ : ∃ b, W.heap.size = b := ⟨_, rfl⟩
    rw [hwb] at AP
    clear r1 S2 S1 h hv i1 i2 i3 i4 hn hnn
    go_enter Tryz.func60, Tryz.ntmps60
    go_wp2_with (first
      | (at_builtin; refine wpList_append_run _ rfl (.tmp 5) (.tmp 6) 35 rfl _ _ rfl rfl AP.out ?_))
    go_ret
    exact ⟨_, rfl, HE.out⟩
structure FrS (w0 W : World) (l : List As) (L : List Sh) (v : Value) : Prop where
  o : ∃ C : List Sh, Fst1 (fun c : Sh => c.id) L C ∧ C.length ≤ L.length ∧ Sep w0 W (rowV 46 7 v C.length (fl shv C) :: l)
set_option maxRecDepth 100000 in
set_option maxHeartbeats 16000000 in
theorem cpwS (w0 W : World) (l : List As) (v : Value) (kb : Nat) (L : List Sh) (hn1 : L.length ≤ 281474976710656) (hkb : boxA kb [nvS] 91 ∈ l) (h : Sep w0 W (rowV 46 7 v L.length (fl shv L) :: l)) :
    Calls Tryz.prog 63 #[v, evS kb] W fun e W' => ∃ v', e = .returned v' ∧ CptS w0 W' l L v' := by
  by_cases h2 : L.length < 2
  · obtain ⟨a, c, rfl⟩ := own_slice (h.rowGet k0m)
    have HE : Keep (CptS w0 W l L (.slice a L.length c)) := ⟨⟨by rw [dd_short h2]; exact h⟩⟩
    obtain ⟨n, hn⟩ : ∃ n, L.length = n := ⟨_, rfl⟩
    rw [hn] at HE h2 ⊢
    have h3 : (n : Int) < 2 := by omega
    clear h hn h2
    go_enter Tryz.func63, Tryz.ntmps63
    go_wp2_with fail
    go_ret
    exact ⟨_, rfl, HE.out⟩
  · obtain ⟨g, c, rfl, _⟩ := own_any (h.rowGet k0m) (by omega)
    exact cptS w0 W l g L.length c kb L rfl (by omega) hn1 hkb h
set_option maxRecDepth 100000 in
set_option maxHeartbeats 16000000 in
theorem firS (w0 W : World) (l : List As) (v : Value) (L : List Sh) (hn : L.length * 56 ≤ 140737488355328) (hv : Ls shv 7 W v L) (h : Sep w0 W l) :
    Calls Tryz.prog 47 #[v, nvS] W fun e W' => ∃ v', e = .returned v' ∧ FrS w0 W' l L v' := by
  have S1 := h.newBox #[nvS] 91
  obtain ⟨kb, hkb⟩ : ∃ b, W.heap.size = b := ⟨_, rfl⟩
  obtain ⟨W1, hW1⟩ : ∃ w, W.alloc (.cells #[nvS] 91) = w := ⟨_, rfl⟩
  have g1 : W.grownBy W1 none := by rw [← hW1]; exact gr_alloc _ _ _
  rw [hkb, hW1] at S1
  have HC := Keep.mk (clnS w0 W1 _ v L hn (hv.kept g1) S1)
  have HN : Keep (L.length ≤ 281474976710656) := ⟨by omega⟩
  clear S1 hv g1 hn h
  go_enter Tryz.func47, Tryz.ntmps47
  go_wp2_with fail
  refine HC.out.mono ?_
  rintro e w2 ⟨v2, rfl, S2⟩
  have HS := Keep.mk (sstS w0 w2 _ v2 kb L HN.out k0m S2)
  clear S2 HC hkb hW1
  go_wp2_with fail
  refine HS.out.mono ?_
  rintro e w3 ⟨rfl, R, r1, r2, S3⟩
  have HP := Keep.mk (cpwS w0 w3 _ v2 kb R (by rw [r2.len]; exact HN.out) k0m S3)
  have HF : Keep (∀ w4 v', CptS w0 w4 (boxA kb [nvS] 91 :: l) R v' → FrS w0 w4 l L v') := ⟨fun w4 v' q => ⟨dd (fun c : Sh => c.id) R, (dd_spec r1).stb r2, by rw [← r2.len]; exact dd_len _, q.o.swap.tail⟩⟩
  clear S3 HS r1 r2
  go_wp2_with fail
  refine HP.out.mono ?_
  rintro e w4 ⟨v4, rfl, q4⟩
  have HE := Keep.mk (HF.out w4 v4 q4)
  clear HP HF q4
  go_wp2_with fail
  go_ret
  exact ⟨_, rfl, HE.out⟩
end Go.Proofs.YtgedlabmndlooaaGreat
