/- F1h, F0 -/
import Derived.Test.YtgedlabmndlooaaGreatEC
import Derived.Test.YtgedlabmndlooaaGreatP5
namespace Go.Proofs.YtgedlabmndlooaaGreat
open Go Go.RowKit Go.Maps Go.Shelf Go.Lib Go.Sort

theorem app_nn (c : Nat) (W : World) (v : Value) (hv : ∃ a n k, v = .slice a n k) (n : Nat) (L : List Value) (h : W.ownsRow 0 33 5 v n L) : (Builtin.append_ #[27, 27] 27 #[v, .slice none 0 c]).run Tryz.prog W = .ok v W := by
  obtain ⟨i, i1, _⟩ := infoBN
  have ht : Tryz.prog.underlying 27 = some (.slice 33) := undN
  rcases h.2 with ⟨rfl, rfl⟩ | ⟨g, cap, cur, rfl, _, _, hnc, _⟩
  · simp [Builtin.append_, run_underlying ht, sizeOf, typeInfo, i1, Builtin.lenOf, Builtin.firstCells]
  · simp [Builtin.append_, run_underlying ht, sizeOf, typeInfo, i1, Builtin.lenOf, Builtin.firstCells, hnc, storeCells]
theorem fl_oneN (L : List Sn) : ∀ u ∈ fl snv L, u.oneCell' = true := by
  intro u hu
  obtain ⟨x, _, h⟩ := List.mem_flatMap.1 hu
  exact snv_one x u h
set_option maxRecDepth 100000 in
/-- a list is appended to a row of things that are seen -/
theorem Sep.appLs {w0 W : World} {l : List As} {v va : Value} {L A : List Sn} (h : Sep w0 W (rowV 33 5 v L.length (fl snv L) :: l)) (hA : Ls snv 5 W va A) (hn : (L.length + A.length) * 40 ≤ 140737488355328) :
    ∃ v' W', (Builtin.append_ #[27, 27] 27 #[v, va]).run Tryz.prog W = .ok v' W' ∧ Sep w0 W' (rowV 33 5 v' (L ++ A).length (fl snv (L ++ A)) :: l) := by
  obtain ⟨a, cap, rfl, hv⟩ := hA
  cases a with
  | none =>
    have h0 : A = [] := by
      cases A with
      | nil => rfl
      | cons x r => obtain ⟨g, o, e, _⟩ := hv (by simp); cases e
    subst h0
    obtain ⟨a, c, e⟩ := own_slice (h.rowGet k0m)
    refine ⟨v, W, app_nn cap W v ⟨_, _, _, e⟩ _ _ (h.rowGet k0m), ?_⟩
    rw [List.append_nil]
    exact h
  | some p =>
    obtain ⟨i, i1, i2, i3, i4⟩ := infoBN
    obtain ⟨v', W', r1, S2⟩ := Sep.appF (t := 27) undN i1 i4 i2 i3 rfl (by decide) h p A.length cap (fl snv A) (fl_len snv_len A) (fun j u hu => by
      have hj := (List.getElem?_eq_some_iff.1 hu).1
      rw [fl_len snv_len] at hj
      obtain ⟨g, o, e, q⟩ := hv (by omega)
      injection e with e
      subst e
      have hjk : j / 5 < A.length := by omega
      have q2 := q (j / 5) A[j / 5] (List.getElem?_eq_getElem hjk) (j % 5) u (by
        have hr : j % 5 < (snv A[j / 5]).length := by rw [snv_len]; omega
        rw [List.getElem?_eq_getElem hr]
        have q3 := fl_get snv_len A (j / 5) A[j / 5] (j % 5) _ (List.getElem?_eq_getElem hjk) (List.getElem?_eq_getElem hr)
        rw [show j / 5 * 5 + j % 5 = j by omega, hu] at q3
        exact q3.symm)
      rw [Addr.add_mid, show o + j = o + j / 5 * 5 + j % 5 by omega]
      exact q2) (fl_oneN A) hn
    refine ⟨v', W', r1, ?_⟩
    rw [fl_app, List.length_append]
    exact S2
theorem eq_s (W : World) (ta : Int) (a : Cr) (va : Value) (A : List Sn) (ha : Ls snv 5 W va A) (hn : A.length ≤ 281474976710656) : Calls Tryz.prog 9 #[vlV ta a va, vlV ta a va] W fun e W' => e = .returned (.bool true) ∧ W.grownBy W' none := by
  refine (eq_c W ta ta a a va va A A ha ha hn).mono ?_
  rintro e W' ⟨rfl, g⟩
  exact ⟨by simp, g⟩
theorem eq_t (W : World) (ta tb : Int) (a b : Cr) (va vb : Value) (A B : List Sn) (ha : Ls snv 5 W va A) (hb : Ls snv 5 W vb B) (hn : A.length ≤ 281474976710656) (hf : ta = tb ∧ a = b ∧ A = B) : Calls Tryz.prog 9 #[vlV ta a va, vlV tb b vb] W fun e W' => e = .returned (.bool true) ∧ W.grownBy W' none := by
  refine (eq_c W ta tb a b va vb A B ha hb hn).mono ?_
  rintro e W' ⟨rfl, g⟩
  exact ⟨by rw [decide_eq_true hf], g⟩
theorem eq_f (W : World) (ta tb : Int) (a b : Cr) (va vb : Value) (A B : List Sn) (ha : Ls snv 5 W va A) (hb : Ls snv 5 W vb B) (hn : A.length ≤ 281474976710656) (hf : ¬ (ta = tb ∧ a = b ∧ A = B)) : Calls Tryz.prog 9 #[vlV ta a va, vlV tb b vb] W fun e W' => e = .returned (.bool false) ∧ W.grownBy W' none := by
  refine (eq_c W ta tb a b va vb A B ha hb hn).mono ?_
  rintro e W' ⟨rfl, g⟩
  exact ⟨by rw [decide_eq_false hf], g⟩
theorem built33z : Tryz.prog.built 33 [] = some (snv zN).toArray := by kernel_rfl
theorem row_cap {W : World} {e : TypeId} {s g n c : Nat} {xs : List Value} (h : W.ownsRow 0 e s (sl g n c) n xs) : n ≤ c := by
  rcases h.2 with ⟨q, _⟩ | ⟨g', cap, cur, q, _, _, h3, _⟩
  · cases q
  · injection q with _ _ e3
    omega
def U64 (x : Int) : Prop := 0 ≤ x ∧ x ≤ 18446744073709551615
end Go.Proofs.YtgedlabmndlooaaGreat

namespace Go.Proofs.YtgedlabmndlooaaGreat
open Go Go.RowKit Go.Maps Go.Shelf Go.Lib Go.Sort

set_option maxRecDepth 100000 in
set_option maxHeartbeats 16000000 in
theorem lkept_c (x m : Int) (hm : 0 ≤ m) (W : World) : Calls Tryz.prog 14 #[iv x, iv m] W fun e W' => e = .returned (iv (kpZ x m)) ∧ W' = W := by
  obtain ⟨k, hk⟩ : ∃ k, kpZ x m = k := ⟨_, rfl⟩
  rw [hk]
  have HK := Keep.mk hk
  clear hk
  by_cases h1 : x < 0
  · have HE : Keep (k = 0) := ⟨by rw [← HK.out]; unfold kpZ; omega⟩
    go_enter Tryz.func14, Tryz.ntmps14
    go_wp2_with fail
    go_ret
    exact ⟨by rw [HE.out]; rfl, rfl⟩
  · by_cases h2 : m < x
    · have HE : Keep (k = m) := ⟨by rw [← HK.out]; unfold kpZ; omega⟩
      go_enter Tryz.func14, Tryz.ntmps14
      go_wp2_with fail
      go_ret
      exact ⟨by rw [HE.out]; rfl, rfl⟩
    · have HE : Keep (k = x) := ⟨by rw [← HK.out]; unfold kpZ; omega⟩
      go_enter Tryz.func14, Tryz.ntmps14
      go_wp2_with fail
      go_ret
      exact ⟨by rw [HE.out]; rfl, rfl⟩
set_option maxRecDepth 100000 in
set_option maxHeartbeats 16000000 in
theorem has_c (W : World) (v : Value) (L : List Sn) (x : Sn) (hv : Ls snv 5 W v L) (hn : L.length ≤ 281474976710656) :
    Calls Tryz.prog 16 #[v, vlN x] W fun e W' => e = .returned (.bool (decide (x ∈ L))) ∧ W.grownBy W' none := by
  obtain ⟨res, hres⟩ : ∃ r, decide (x ∈ L) = r := ⟨_, rfl⟩
  rw [hres]
  have HRES := Keep.mk hres
  clear hres
  obtain ⟨a, cap, rfl, hv⟩ := hv
  obtain ⟨n, hnn⟩ : ∃ n, L.length = n := ⟨_, rfl⟩
  rw [hnn] at hn ⊢
  have HL := Keep.mk hnn
  have HV := Keep.mk hv
  have S1 := (Sep.nil W).newBox #[iv x.kd, iv x.id, iv x.x, iv x.y, iv x.hd] 33
  obtain ⟨xb, hxb⟩ : ∃ b, W.heap.size = b := ⟨_, rfl⟩
  obtain ⟨W1, hW1⟩ : ∃ w, W.alloc (.cells #[iv x.kd, iv x.id, iv x.x, iv x.y, iv x.hd] 33) = w := ⟨_, rfl⟩
  rw [hW1, hxb] at S1
  have HB : Keep (Sep W W1 [boxA xb (snv x) 33]) := ⟨S1⟩
  obtain ⟨du, hdu⟩ := under33
  clear S1 hv hnn
  go_enter Tryz.func16, Tryz.ntmps16
  go_wp2_with fail
  clear hW1 hxb
  go_loopw [5] (fun u5 wr => ∃ i : Nat, i ≤ n ∧ u5 = iv i ∧ Keep (x ∉ L.take i) ∧ Keep (Sep W wr [boxA xb (snv x) 33])) (fun u5 _ => (n - intOf u5).toNat)
  case atStart => exact ⟨0, by omega, rfl, ⟨by simp⟩, HB⟩
  case round =>
    clear HB
    obtain ⟨i, hi, rfl, HI, HB⟩ := hrel
    by_cases hlt : i < n
    · have hlt1 : (i : Int) < (n : Int) := by omega
      have hi0 : (0 : Int) ≤ (i : Int) := by omega
      have hit : ((i : Nat) : Int).toNat = i := by omega
      have hiw : IntKind.i64.wrap ((i : Int) + 1) = ((i + 1 : Nat) : Int) := by rw [IntKind.wrap_i64]; omega
      obtain ⟨y, hy⟩ : ∃ y, L[i]? = some y := ⟨_, List.getElem?_eq_getElem (by rw [HL.out]; exact hlt)⟩
      obtain ⟨g1, o1, e1, q1⟩ := HV.out (by rw [HL.out]; omega)
      subst e1
      have HY : Keep (W.rangeAt g1 (o1 + i * 5) (snv y)) := ⟨q1 i y hy⟩
      obtain ⟨bb, hbb⟩ : ∃ bb, decide (y = x) = bb := ⟨_, rfl⟩
      have HNE : Keep (∀ w, (Op.equalIn 10000 33 (.agg (snv y).toArray) (.agg (snv x).toArray)).run Tryz.prog w = .ok bb w) := ⟨fun w => by rw [← hbb]; exact eqN y x w⟩
      have HTr : Keep (bb = true → x ∈ L) := ⟨fun h => by
        rw [h] at hbb
        rw [← of_decide_eq_true hbb]
        exact List.mem_of_getElem? hy⟩
      have HF : Keep (bb = false → x ∉ L.take (i + 1)) := ⟨fun h => by
        rw [h] at hbb
        have q := of_decide_eq_false hbb
        rw [List.take_add_one, hy]
        intro hm
        rcases List.mem_append.1 hm with k | k
        · exact HI.out k
        · simp at k; exact q k.symm⟩
      have HIN : Keep (i < n) := ⟨hlt⟩
      clear q1 hy hbb hlt hi
      go_wp2_with fail
      refine region_Y (S := fun w' => Sep W w' [boxA xb (snv x) 33]) [] (by kernel_rfl) ?_
      obtain ⟨W0, hW0⟩ : ∃ W_, wr.drew = W_ := ⟨_, rfl⟩
      replace HB := Keep.mk (HB.out.grown (gr_drew _ none))
      rw [hW0] at HB ⊢
      clear hW0
      have hHeld : (fun w' => Sep W w' [boxA xb (snv x) 33]) W0 := HB.out
      refine yp (i := 0) (v := ?_) rfl (Or.inl ⟨by rfl, ?_⟩) ?_
      rotate_left
      · (intro w hSw; go_simp; first | done | (with_reducible rfl))
      simp only [Act.put, A1, A3, A4, A5, A6]
      refine yp (i := 1) (v := ?_) rfl (Or.inl ⟨by rfl, ?_⟩) ?_
      rotate_left
      · (intro w hSw; go_simp; first | done | (with_reducible rfl))
      simp only [Act.put, A1, A2, A3, A4, A5, A6]
      refine yp (i := 2) (v := ?_) rfl (Or.inl ⟨by rfl, ?_⟩) ?_
      rotate_left
      · (intro w hSw; go_simp; first | done | (with_reducible rfl))
      simp only [Act.put, A1, A2, A3, A4, A5, A6]
      refine yt (i := 3) (v := .agg (snv y).toArray) rfl (yieldsIf_load_mid (by rfl) 33 _ rfl _ _ rfl _ _ (fun w hSw => fun r u hu => hSw.g.cell (HY.out r u hu) (by simp)) hdu.1 hdu.2 info33) (by assumption) ?_
      simp only [Act.put, A1, A2, A3, A4, A5, A6]
      refine yt (i := 4) (v := .agg (snv x).toArray) rfl (yieldsIf_load_mid (by rfl) 33 _ rfl _ _ rfl _ _ (fun w hSw => (hSw.boxGet k0m).range) hdu.1 hdu.2 info33) (by assumption) ?_
      simp only [Act.put, A1, A2, A3, A4, A5, A6]
      refine yp (i := 5) (v := .bool bb) rfl (Or.inl ⟨by rfl, ?_⟩) ?_
      · (intro w hSw; have q := HNE.out w; go_simp; first | done | rfl | (simp; done) | trace_state)
      simp only [Act.put, A1, A2, A3, A4, A5, A6]
      refine wpAnyY_done (by kernel_rfl) ?_ _
      clear hHeld
      cases bb
      · have HI2 := Keep.mk (HF.out rfl)
        go_wp2_with fail
        go_roundw
        case rel => exact ⟨i + 1, HIN.out, rfl, HI2, HB⟩
        case measure => simp [intOf]; have := HIN.out; omega
      · have HE : Keep (res = true) := ⟨by rw [← HRES.out]; exact decide_eq_true (HTr.out rfl)⟩
        go_wp2_with fail
        go_ret
        exact ⟨by rw [HE.out]; rfl, HB.out.g⟩
    · have hlt1 : ¬ (i : Int) < (n : Int) := by omega
      have HE : Keep (res = false) := ⟨by
        rw [← HRES.out]
        refine decide_eq_false ?_
        have q := HI.out
        rw [List.take_of_length_le (by rw [HL.out]; omega)] at q
        exact q⟩
      clear hlt hi
      go_wp2_with fail
      go_ret
      exact ⟨by rw [HE.out]; rfl, HB.out.g⟩
def zcr : List Value := [iv 0, .string { data := #[] }, iv 0, iv 0, iv 0, iv 0, iv 0, iv 0, iv 0, iv 0, iv 0, iv 0, iv 0, iv 0]
theorem zcr_one : ∀ u ∈ zcr, u.oneCell' = true := by
  intro u hu
  simp only [zcr, List.mem_cons, List.not_mem_nil, or_false] at hu
  rcases hu with rfl | rfl | rfl | rfl | rfl | rfl | rfl | rfl | rfl | rfl | rfl | rfl | rfl | rfl <;> rfl
theorem built26z : Tryz.prog.built 26 [] = some zcr.toArray := by kernel_rfl
/-- what own answers -/
structure OwR (W W' : World) (LC : List Cr) (p : Int) (e : Ending) : Prop where
  g : W.grownBy W' none
  no : LC.find? (fun c => c.pl == p) = none → e = .returned (.tuple #[.agg zcr.toArray, .bool false])
  yes : ∀ own, LC.find? (fun c => c.pl == p) = some own → e = .returned (.tuple #[.agg (crv own).toArray, .bool true])
set_option maxRecDepth 100000 in
set_option maxHeartbeats 16000000 in
theorem own_c (W : World) (tick nx p : Int) (vc vs : Value) (LC : List Cr) (hc : Ls crv 14 W vc LC) (hn : LC.length ≤ 281474976710656) :
    Calls Tryz.prog 13 #[.agg #[.int .u64 tick, vc, vs, iv nx], iv p] W fun e W' => OwR W W' LC p e := by
  obtain ⟨ac, cc, rfl, hcr⟩ := hc
  obtain ⟨nc, hnc⟩ : ∃ n, LC.length = n := ⟨_, rfl⟩
  rw [hnc] at hn ⊢
  have HL := Keep.mk hnc
  have HV := Keep.mk hcr
  have S1 := ((Sep.nil W).newBox #[.int .u64 tick, .slice ac nc cc, vs, iv nx] 37).newBox #[iv 0, .string { data := #[] }, iv 0, iv 0, iv 0, iv 0, iv 0, iv 0, iv 0, iv 0, iv 0, iv 0, iv 0, iv 0] 26
  simp only [World.size_alloc] at S1
  obtain ⟨bs, hbs⟩ : ∃ b, W.heap.size = b := ⟨_, rfl⟩
  obtain ⟨rb, hrb⟩ : ∃ b, bs + 1 = b := ⟨_, rfl⟩
  obtain ⟨W1, hW1⟩ : ∃ w, (W.alloc (.cells #[.int .u64 tick, .slice ac nc cc, vs, iv nx] 37)).alloc (.cells #[iv 0, .string { data := #[] }, iv 0, iv 0, iv 0, iv 0, iv 0, iv 0, iv 0, iv 0, iv 0, iv 0, iv 0, iv 0] 26) = w := ⟨_, rfl⟩
  rw [hW1, hbs, hrb] at S1
  have HB : Keep (Sep W W1 [boxA rb zcr 26, boxA bs [.int .u64 tick, .slice ac nc cc, vs, iv nx] 37]) := ⟨S1⟩
  obtain ⟨dc, hdc⟩ := under26
  have HBZ := Keep.mk built26z
  clear S1 hcr hnc
  go_enter Tryz.func13, Tryz.ntmps13
  go_wp2_with fail
  clear hW1 hbs hrb
  go_loopw [6] (fun u6 wr => ∃ i : Nat, i ≤ nc ∧ u6 = iv i ∧ Keep (∀ c ∈ LC.take i, c.pl ≠ p) ∧ Keep (Sep W wr [boxA rb zcr 26, boxA bs [.int .u64 tick, .slice ac nc cc, vs, iv nx] 37])) (fun u6 _ => (nc - intOf u6).toNat)
  case atStart => exact ⟨0, by omega, rfl, ⟨by simp⟩, HB⟩
  case round =>
    clear HB
    obtain ⟨i, hi, rfl, HI, HB⟩ := hrel
    have d1 := (HB.out.boxGet k1m).cellv 1 _ rfl
    by_cases hlt : i < nc
    · have hlt1 : (i : Int) < (nc : Int) := by omega
      have hi0 : (0 : Int) ≤ (i : Int) := by omega
      have hit : ((i : Nat) : Int).toNat = i := by omega
      have hiw : IntKind.i64.wrap ((i : Int) + 1) = ((i + 1 : Nat) : Int) := by rw [IntKind.wrap_i64]; omega
      obtain ⟨c, hc⟩ : ∃ y, LC[i]? = some y := ⟨_, List.getElem?_eq_getElem (by rw [HL.out]; exact hlt)⟩
      obtain ⟨g1, o1, e1, q1⟩ := HV.out (by rw [HL.out]; omega)
      subst e1
      have HR : Keep (wr.rangeAt g1 (o1 + i * 14) (crv c)) := ⟨fun r u hu => HB.out.g.cell (q1 i c hc r u hu) (by simp)⟩
      have l0 : wr.cell? ⟨g1, o1 + i * 14, none⟩ = some (iv c.pl) := by have := HR.out 0 (iv c.pl) rfl; simpa using this
      have HTK : Keep (LC.take (i + 1) = LC.take i ++ [c]) := ⟨by rw [List.take_add_one, hc]; rfl⟩
      have HC := Keep.mk hc
      have HIN : Keep (i < nc) := ⟨hlt⟩
      clear q1 hc hlt hi
      by_cases hp : c.pl = p
      · have k1 : (c.pl == p) = true := by simp [hp]
        have k2 : decide (c.pl = p) = true := by simp [hp]
        have HF : Keep (LC.find? (fun c => c.pl == p) = some c) := ⟨by
          obtain ⟨h1, h2⟩ := List.getElem?_eq_some_iff.1 HC.out
          refine List.find?_eq_some_iff_getElem.2 ⟨by simp [hp], i, h1, h2, fun j hj => ?_⟩
          have := HI.out LC[j] (List.mem_take_iff_getElem.2 ⟨j, by omega, rfl⟩)
          simpa using this⟩
        have HON := Keep.mk (crv_one c)
        clear hp
        go_wp2_with (first
          | (with_reducible show wpList _ _ _ ({ dst := some 26, op := Op.load 26 _, type := _, pos := _, after := _, guard := _ } :: _) _ _
             refine wpList_load_mid rfl 26 _ rfl _ _ rfl (crv c) _ HR.out hdc.1 hdc.2 info26 ?_)
          | (with_reducible show wpList _ _ _ ({ dst := _, op := Op.store 26 _ _, type := _, pos := _, after := _, guard := _ } :: _) _ _
             refine store_at _ rb 0 zcr (crv c) 26 26 rfl rfl rfl rfl (HB.out.boxGet k0m) (Nat.le_refl _) info26 HON.out ?_
             intro w6 hS6 g6
             have S6 := hS6 _ _ HB.out
             rw [over_all zcr (crv c) rfl] at S6
             have HS6 := Keep.mk S6
             clear S6 hS6 g6))
        refine ret_ct rfl rfl (HS6.out.boxGet k0m) hdc.1 hdc.2 info26 rfl ?_
        refine ⟨HS6.out.g, fun h0 => ?_, fun ow ho => ?_⟩
        · rw [HF.out] at h0; cases h0
        · rw [HF.out] at ho
          injection ho with ho
          subst ho
          rfl
      · have k1 : (c.pl == p) = false := by simp [hp]
        have k2 : decide (c.pl = p) = false := by simp [hp]
        have HI2 : Keep (∀ c ∈ LC.take (i + 1), c.pl ≠ p) := ⟨fun d hd => by
          rw [HTK.out] at hd
          rcases List.mem_append.1 hd with k | k
          · exact HI.out d k
          · rw [List.mem_singleton] at k; subst k; exact hp⟩
        clear hp
        go_wp2_with fail
        go_roundw
        case rel => exact ⟨i + 1, HIN.out, rfl, HI2, HB⟩
        case measure => simp [intOf]; have := HIN.out; omega
    · have hlt1 : ¬ (i : Int) < (nc : Int) := by omega
      have HF : Keep (LC.find? (fun c => c.pl == p) = none) := ⟨List.find?_eq_none.2 fun c hc => by
        have q := HI.out c
        rw [List.take_of_length_le (by rw [HL.out]; omega)] at q
        simpa using q hc⟩
      clear hlt hi
      go_wp2_with (first
        | (with_reducible show wpList _ _ _ ({ dst := some 27, op := Op.build 26 _, type := _, pos := _, after := _, guard := _ } :: _) _ _
           refine wpList_build rfl 26 _ rfl zcr.toArray ((congrArg (Tryz.prog.built 26) (by simp only [List.map_toArray, List.map_nil])).trans HBZ.out) ?_)
        | (with_reducible show wpList _ _ _ ({ dst := _, op := Op.store 26 _ _, type := _, pos := _, after := _, guard := _ } :: _) _ _
           refine store_at _ rb 0 zcr zcr 26 26 rfl rfl rfl rfl (HB.out.boxGet k0m) (Nat.le_refl _) info26 zcr_one ?_
           intro w6 hS6 g6
           have S6 := hS6 _ _ HB.out
           rw [over_all zcr zcr rfl] at S6
           have HS6 := Keep.mk S6
           clear S6 hS6 g6))
      refine ret_ct rfl rfl (HS6.out.boxGet k0m) hdc.1 hdc.2 info26 rfl ?_
      refine ⟨HS6.out.g, fun _ => rfl, fun ow ho => ?_⟩
      rw [HF.out] at ho; cases ho
end Go.Proofs.YtgedlabmndlooaaGreat
