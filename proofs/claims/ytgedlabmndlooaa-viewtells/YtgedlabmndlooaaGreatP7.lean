/- F0, P6, P7 -/
import Derived.Test.YtgedlabmndlooaaGreatP5
import Derived.Test.YtgedlabmndlooaaGreatF1
namespace Go.Proofs.YtgedlabmndlooaaGreat
open Go Go.RowKit Go.Maps Go.Shelf Go.Lib Go.Sort

set_option maxRecDepth 100000 in
set_option maxHeartbeats 16000000 in
theorem lkept_c (x m : Int) (hm : 0 ≤ m) (W : World) : Calls Tryz.prog 14 #[iv x, iv m] W fun e W' => e = .returned (iv (kpZ x m)) ∧ W' = W := by
  obtain ⟨k, hk⟩ : ∃ k, kpZ x m = k := ⟨_, rfl⟩
  rw [hk]
  have HK := Keep.mk hk
  clear hk
  by_cases h1 : x < 0
  · have HE : Keep (k = 0) := ⟨by rw [← HK.out]; unfold kpZ; omega⟩
    go_enter Tryz.func14, Tryz.ntmps14
    go_wp2_with fail
    go_ret
    exact ⟨by rw [HE.out]; rfl, rfl⟩
  · by_cases h2 : m < x
    · have HE : Keep (k = m) := ⟨by rw [← HK.out]; unfold kpZ; omega⟩
      go_enter Tryz.func14, Tryz.ntmps14
      go_wp2_with fail
      go_ret
      exact ⟨by rw [HE.out]; rfl, rfl⟩
    · have HE : Keep (k = x) := ⟨by rw [← HK.out]; unfold kpZ; omega⟩
      go_enter Tryz.func14, Tryz.ntmps14
      go_wp2_with fail
      go_ret
      exact ⟨by rw [HE.out]; rfl, rfl⟩
set_option maxRecDepth 100000 in
set_option maxHeartbeats 16000000 in
theorem has_c (W : World) (v : Value) (L : List Sn) (x : Sn) (hv : Ls snv 5 W v L) (hn : L.length ≤ 281474976710656) :
    Calls Tryz.prog 16 #[v, vlN x] W fun e W' => e = .returned (.bool (decide (x ∈ L))) ∧ W.grownBy W' none := by
  obtain ⟨res, hres⟩ : ∃ r, decide (x ∈ L) = r := ⟨_, rfl⟩
  rw [hres]
  have HRES := Keep.mk hres
  clear hres
  obtain ⟨a, cap, rfl, hv⟩ := hv
  obtain ⟨n, hnn⟩ : ∃ n, L.length = n := ⟨_, rfl⟩
  rw [hnn] at hn ⊢
  have HL := Keep.mk hnn
  have HV := Keep.mk hv
  have S1 := (Sep.nil W).newBox #[iv x.kd, iv x.id, iv x.x, iv x.y, iv x.hd] 33
  obtain ⟨xb, hxb⟩ : ∃ b, W.heap.size = b := ⟨_, rfl⟩
  obtain ⟨W1, hW1⟩ : ∃ w, W.alloc (.cells #[iv x.kd, iv x.id, iv x.x, iv x.y, iv x.hd] 33) = w := ⟨_, rfl⟩
  rw [hW1, hxb] at S1
  have HB : Keep (Sep W W1 [boxA xb (snv x) 33]) := ⟨S1⟩
  obtain ⟨du, hdu⟩ := under33
  clear S1 hv hnn
  go_enter Tryz.func16, Tryz.ntmps16
  go_wp2_with fail
  clear hW1 hxb
  go_loopw [5] (fun u5 wr => ∃ i : Nat, i ≤ n ∧ u5 = iv i ∧ Keep (x ∉ L.take i) ∧ Keep (Sep W wr [boxA xb (snv x) 33])) (fun u5 _ => (n - intOf u5).toNat)
  case atStart => exact ⟨0, by omega, rfl, ⟨by simp⟩, HB⟩
  case round =>
    clear HB
    obtain ⟨i, hi, rfl, HI, HB⟩ := hrel
    by_cases hlt : i < n
    · have hlt1 : (i : Int) < (n : Int) := by omega
      have hi0 : (0 : Int) ≤ (i : Int) := by omega
      have hit : ((i : Nat) : Int).toNat = i := by omega
      have hiw : IntKind.i64.wrap ((i : Int) + 1) = ((i + 1 : Nat) : Int) := by rw [IntKind.wrap_i64]; omega
      obtain ⟨y, hy⟩ : ∃ y, L[i]? = some y := ⟨_, List.getElem?_eq_getElem (by rw [HL.out]; exact hlt)⟩
      obtain ⟨g1, o1, e1, q1⟩ := HV.out (by rw [HL.out]; omega)
      subst e1
      have HY : Keep (W.rangeAt g1 (o1 + i * 5) (snv y)) := ⟨q1 i y hy⟩
      obtain ⟨bb, hbb⟩ : ∃ bb, decide (y = x) = bb := ⟨_, rfl⟩
      have HNE : Keep (∀ w, (Op.equalIn 10000 33 (.agg (snv y).toArray) (.agg (snv x).toArray)).run Tryz.prog w = .ok bb w) := ⟨fun w => by rw [← hbb]; exact eqN y x w⟩
      have HTr : Keep (bb = true → x ∈ L) := ⟨fun h => by
        rw [h] at hbb
        rw [← of_decide_eq_true hbb]
        exact List.mem_of_getElem? hy⟩
      have HF : Keep (bb = false → x ∉ L.take (i + 1)) := ⟨fun h => by
        rw [h] at hbb
        have q := of_decide_eq_false hbb
        rw [List.take_add_one, hy]
        intro hm
        rcases List.mem_append.1 hm with k | k
        · exact HI.out k
        · simp at k; exact q k.symm⟩
      have HIN : Keep (i < n) := ⟨hlt⟩
      clear q1 hy hbb hlt hi
      go_wp2_with fail
      refine region_Y (S := fun w' => Sep W w' [boxA xb (snv x) 33]) [] (by kernel_rfl) ?_
      obtain ⟨W0, hW0⟩ : ∃ W_, wr.drew = W_ := ⟨_, rfl⟩
      replace HB := Keep.mk (HB.out.grown (gr_drew _ none))
      rw [hW0] at HB ⊢
      clear hW0
      have hHeld : (fun w' => Sep W w' [boxA xb (snv x) 33]) W0 := HB.out
      refine wpAnyY_pure (i := 0) (oi := _) (v := ?_) rfl (by kernel_rfl) (by kernel_rfl) (by kernel_rfl) (by kernel_rfl) (fun _ _ _ h => h) (Or.inl ⟨by rfl, ?_⟩) ?_
      rotate_left
      · (intro w hSw; go_simp; first | done | (with_reducible rfl))
      simp only [Act.put, List.getElem_toArray, List.getElem_cons_zero, List.setIfInBounds_toArray, List.set_cons_zero, List.set_cons_succ]
      refine wpAnyY_pure (i := 1) (oi := _) (v := ?_) rfl (by kernel_rfl) (by kernel_rfl) (by kernel_rfl) (by kernel_rfl) (fun _ _ _ h => h) (Or.inl ⟨by rfl, ?_⟩) ?_
      rotate_left
      · (intro w hSw; go_simp; first | done | (with_reducible rfl))
      simp only [Act.put, List.getElem_toArray, List.getElem_cons_succ, List.getElem_cons_zero, List.setIfInBounds_toArray, List.set_cons_zero, List.set_cons_succ]
      refine wpAnyY_pure (i := 2) (oi := _) (v := ?_) rfl (by kernel_rfl) (by kernel_rfl) (by kernel_rfl) (by kernel_rfl) (fun _ _ _ h => h) (Or.inl ⟨by rfl, ?_⟩) ?_
      rotate_left
      · (intro w hSw; go_simp; first | done | (with_reducible rfl))
      simp only [Act.put, List.getElem_toArray, List.getElem_cons_succ, List.getElem_cons_zero, List.setIfInBounds_toArray, List.set_cons_zero, List.set_cons_succ]
      refine wpAnyY_take (i := 3) (oi := _) (v := .agg (snv y).toArray) rfl (by kernel_rfl) (by kernel_rfl) (by kernel_rfl) (by kernel_rfl) (by kernel_rfl) (fun _ _ _ h => h) (yieldsIf_load_mid (by rfl) 33 _ rfl _ _ rfl _ _ (fun w hSw => fun r u hu => hSw.g.cell (HY.out r u hu) (by simp)) hdu.1 hdu.2 info33) (by assumption) ?_
      simp only [Act.put, List.getElem_toArray, List.getElem_cons_succ, List.getElem_cons_zero, List.setIfInBounds_toArray, List.set_cons_zero, List.set_cons_succ]
      refine wpAnyY_take (i := 4) (oi := _) (v := .agg (snv x).toArray) rfl (by kernel_rfl) (by kernel_rfl) (by kernel_rfl) (by kernel_rfl) (by kernel_rfl) (fun _ _ _ h => h) (yieldsIf_load_mid (by rfl) 33 _ rfl _ _ rfl _ _ (fun w hSw => (hSw.boxGet k0m).range) hdu.1 hdu.2 info33) (by assumption) ?_
      simp only [Act.put, List.getElem_toArray, List.getElem_cons_succ, List.getElem_cons_zero, List.setIfInBounds_toArray, List.set_cons_zero, List.set_cons_succ]
      refine wpAnyY_pure (i := 5) (oi := _) (v := .bool bb) rfl (by kernel_rfl) (by kernel_rfl) (by kernel_rfl) (by kernel_rfl) (fun _ _ _ h => h) (Or.inl ⟨by rfl, ?_⟩) ?_
      · (intro w hSw; have q := HNE.out w; go_simp; first | done | rfl | (simp; done) | trace_state)
      simp only [Act.put, List.getElem_toArray, List.getElem_cons_succ, List.getElem_cons_zero, List.setIfInBounds_toArray, List.set_cons_zero, List.set_cons_succ]
      refine wpAnyY_done (by kernel_rfl) ?_ _
      clear hHeld
      cases bb
      · have HI2 := Keep.mk (HF.out rfl)
        go_wp2_with fail
        go_roundw
        case rel => exact ⟨i + 1, HIN.out, rfl, HI2, HB⟩
        case measure => simp [intOf]; have := HIN.out; omega
      · have HE : Keep (res = true) := ⟨by rw [← HRES.out]; exact decide_eq_true (HTr.out rfl)⟩
        go_wp2_with fail
        go_ret
        exact ⟨by rw [HE.out]; rfl, HB.out.g⟩
    · have hlt1 : ¬ (i : Int) < (n : Int) := by omega
      have HE : Keep (res = false) := ⟨by
        rw [← HRES.out]
        refine decide_eq_false ?_
        have q := HI.out
        rw [List.take_of_length_le (by rw [HL.out]; omega)] at q
        exact q⟩
      clear hlt hi
      go_wp2_with fail
      go_ret
      exact ⟨by rw [HE.out]; rfl, HB.out.g⟩
def zcr : List Value := [iv 0, .string { data := #[] }, iv 0, iv 0, iv 0, iv 0, iv 0, iv 0, iv 0, iv 0, iv 0, iv 0, iv 0, iv 0]
theorem zcr_one : ∀ u ∈ zcr, u.oneCell' = true := by
  intro u hu
  simp only [zcr, List.mem_cons, List.not_mem_nil, or_false] at hu
  rcases hu with rfl | rfl | rfl | rfl | rfl | rfl | rfl | rfl | rfl | rfl | rfl | rfl | rfl | rfl <;> rfl
theorem built26z : Tryz.prog.built 26 [] = some zcr.toArray := by kernel_rfl
/-- what own answers -/
structure OwR (W W' : World) (LC : List Cr) (p : Int) (e : Ending) : Prop where
  g : W.grownBy W' none
  no : LC.find? (fun c => c.pl == p) = none → e = .returned (.tuple #[.agg zcr.toArray, .bool false])
  yes : ∀ own, LC.find? (fun c => c.pl == p) = some own → e = .returned (.tuple #[.agg (crv own).toArray, .bool true])
set_option maxRecDepth 100000 in
set_option maxHeartbeats 16000000 in
theorem own_c (W : World) (tick nx p : Int) (vc vs : Value) (LC : List Cr) (hc : Ls crv 14 W vc LC) (hn : LC.length ≤ 281474976710656) :
    Calls Tryz.prog 13 #[.agg #[.int .u64 tick, vc, vs, iv nx], iv p] W fun e W' => OwR W W' LC p e := by
  obtain ⟨ac, cc, rfl, hcr⟩ := hc
  obtain ⟨nc, hnc⟩ : ∃ n, LC.length = n := ⟨_, rfl⟩
  rw [hnc] at hn ⊢
  have HL := Keep.mk hnc
  have HV := Keep.mk hcr
  have S1 := ((Sep.nil W).newBox #[.int .u64 tick, .slice ac nc cc, vs, iv nx] 37).newBox #[iv 0, .string { data := #[] }, iv 0, iv 0, iv 0, iv 0, iv 0, iv 0, iv 0, iv 0, iv 0, iv 0, iv 0, iv 0] 26
  simp only [World.size_alloc] at S1
  obtain ⟨bs, hbs⟩ : ∃ b, W.heap.size = b := ⟨_, rfl⟩
  obtain ⟨rb, hrb⟩ : ∃ b, bs + 1 = b := ⟨_, rfl⟩
  obtain ⟨W1, hW1⟩ : ∃ w, (W.alloc (.cells #[.int .u64 tick, .slice ac nc cc, vs, iv nx] 37)).alloc (.cells #[iv 0, .string { data := #[] }, iv 0, iv 0, iv 0, iv 0, iv 0, iv 0, iv 0, iv 0, iv 0, iv 0, iv 0, iv 0] 26) = w := ⟨_, rfl⟩
  rw [hW1, hbs, hrb] at S1
  have HB : Keep (Sep W W1 [boxA rb zcr 26, boxA bs [.int .u64 tick, .slice ac nc cc, vs, iv nx] 37]) := ⟨S1⟩
  obtain ⟨dc, hdc⟩ := under26
  have HBZ := Keep.mk built26z
  clear S1 hcr hnc
  go_enter Tryz.func13, Tryz.ntmps13
  go_wp2_with fail
  clear hW1 hbs hrb
  go_loopw [6] (fun u6 wr => ∃ i : Nat, i ≤ nc ∧ u6 = iv i ∧ Keep (∀ c ∈ LC.take i, c.pl ≠ p) ∧ Keep (Sep W wr [boxA rb zcr 26, boxA bs [.int .u64 tick, .slice ac nc cc, vs, iv nx] 37])) (fun u6 _ => (nc - intOf u6).toNat)
  case atStart => exact ⟨0, by omega, rfl, ⟨by simp⟩, HB⟩
  case round =>
    clear HB
    obtain ⟨i, hi, rfl, HI, HB⟩ := hrel
    have d1 := (HB.out.boxGet k1m).cellv 1 _ rfl
    by_cases hlt : i < nc
    · have hlt1 : (i : Int) < (nc : Int) := by omega
      have hi0 : (0 : Int) ≤ (i : Int) := by omega
      have hit : ((i : Nat) : Int).toNat = i := by omega
      have hiw : IntKind.i64.wrap ((i : Int) + 1) = ((i + 1 : Nat) : Int) := by rw [IntKind.wrap_i64]; omega
      obtain ⟨c, hc⟩ : ∃ y, LC[i]? = some y := ⟨_, List.getElem?_eq_getElem (by rw [HL.out]; exact hlt)⟩
      obtain ⟨g1, o1, e1, q1⟩ := HV.out (by rw [HL.out]; omega)
      subst e1
      have HR : Keep (wr.rangeAt g1 (o1 + i * 14) (crv c)) := ⟨fun r u hu => HB.out.g.cell (q1 i c hc r u hu) (by simp)⟩
      have l0 : wr.cell? ⟨g1, o1 + i * 14, none⟩ = some (iv c.pl) := by have := HR.out 0 (iv c.pl) rfl; simpa using this
      have HTK : Keep (LC.take (i + 1) = LC.take i ++ [c]) := ⟨by rw [List.take_add_one, hc]; rfl⟩
      have HC := Keep.mk hc
      have HIN : Keep (i < nc) := ⟨hlt⟩
      clear q1 hc hlt hi
      by_cases hp : c.pl = p
      · have k1 : (c.pl == p) = true := by simp [hp]
        have k2 : decide (c.pl = p) = true := by simp [hp]
        have HF : Keep (LC.find? (fun c => c.pl == p) = some c) := ⟨by
          obtain ⟨h1, h2⟩ := List.getElem?_eq_some_iff.1 HC.out
          refine List.find?_eq_some_iff_getElem.2 ⟨by simp [hp], i, h1, h2, fun j hj => ?_⟩
          have := HI.out LC[j] (List.mem_take_iff_getElem.2 ⟨j, by omega, rfl⟩)
          simpa using this⟩
        have HON := Keep.mk (crv_one c)
        clear hp
        go_wp2_with (first
          | (with_reducible show wpList _ _ _ ({ dst := some 26, op := Op.load 26 _, type := _, pos := _, after := _, guard := _ } :: _) _ _
             refine wpList_load_mid rfl 26 _ rfl _ _ rfl (crv c) _ HR.out hdc.1 hdc.2 info26 ?_)
          | (with_reducible show wpList _ _ _ ({ dst := _, op := Op.store 26 _ _, type := _, pos := _, after := _, guard := _ } :: _) _ _
             refine store_at _ rb 0 zcr (crv c) 26 26 rfl rfl rfl rfl (HB.out.boxGet k0m) (Nat.le_refl _) info26 HON.out ?_
             intro w6 hS6 g6
             have S6 := hS6 _ _ HB.out
             rw [over_all zcr (crv c) rfl] at S6
             have HS6 := Keep.mk S6
             clear S6 hS6 g6))
        refine ret_ct rfl rfl (HS6.out.boxGet k0m) hdc.1 hdc.2 info26 rfl ?_
        refine ⟨HS6.out.g, fun h0 => ?_, fun ow ho => ?_⟩
        · rw [HF.out] at h0; cases h0
        · rw [HF.out] at ho
          injection ho with ho
          subst ho
          rfl
      · have k1 : (c.pl == p) = false := by simp [hp]
        have k2 : decide (c.pl = p) = false := by simp [hp]
        have HI2 : Keep (∀ c ∈ LC.take (i + 1), c.pl ≠ p) := ⟨fun d hd => by
          rw [HTK.out] at hd
          rcases List.mem_append.1 hd with k | k
          · exact HI.out d k
          · rw [List.mem_singleton] at k; subst k; exact hp⟩
        clear hp
        go_wp2_with fail
        go_roundw
        case rel => exact ⟨i + 1, HIN.out, rfl, HI2, HB⟩
        case measure => simp [intOf]; have := HIN.out; omega
    · have hlt1 : ¬ (i : Int) < (nc : Int) := by omega
      have HF : Keep (LC.find? (fun c => c.pl == p) = none) := ⟨List.find?_eq_none.2 fun c hc => by
        have q := HI.out c
        rw [List.take_of_length_le (by rw [HL.out]; omega)] at q
        simpa using q hc⟩
      clear hlt hi
      go_wp2_with (first
        | (with_reducible show wpList _ _ _ ({ dst := some 27, op := Op.build 26 _, type := _, pos := _, after := _, guard := _ } :: _) _ _
           refine wpList_build rfl 26 _ rfl zcr.toArray ((congrArg (Tryz.prog.built 26) (by simp only [List.map_toArray, List.map_nil])).trans HBZ.out) ?_)
        | (with_reducible show wpList _ _ _ ({ dst := _, op := Op.store 26 _ _, type := _, pos := _, after := _, guard := _ } :: _) _ _
           refine store_at _ rb 0 zcr zcr 26 26 rfl rfl rfl rfl (HB.out.boxGet k0m) (Nat.le_refl _) info26 zcr_one ?_
           intro w6 hS6 g6
           have S6 := hS6 _ _ HB.out
           rw [over_all zcr zcr rfl] at S6
           have HS6 := Keep.mk S6
           clear S6 hS6 g6))
      refine ret_ct rfl rfl (HS6.out.boxGet k0m) hdc.1 hdc.2 info26 rfl ?_
      refine ⟨HS6.out.g, fun _ => rfl, fun ow ho => ?_⟩
      rw [HF.out] at ho; cases ho
end Go.Proofs.YtgedlabmndlooaaGreat

namespace Go.Proofs.YtgedlabmndlooaaGreat
open Go Go.RowKit Go.Maps Go.Shelf Go.Lib Go.Sort

theorem Told.more {L : List Sn} {pl x y r : Int} {s s' : Nat} {T T' : List Sn} (h : Told L pl x y r s T) (h' : Told L pl x y r s' T') (hs : s ≤ s') : ∀ t ∈ T, t ∈ T' := by
  intro t ht
  refine Classical.byContradiction fun hn => ?_
  obtain ⟨m1, m2, m3⟩ := h.mem t ht
  obtain ⟨e1, q1⟩ := h'.out t m1 m2 m3 hn
  have : ∃ t' ∈ T', t' ∉ T := Classical.byContradiction fun hx => by
    have hs2 : ∀ t' ∈ T', t' ∈ T := fun t' ht' => Classical.byContradiction fun k => hx ⟨t', ht', k⟩
    have k := len_sub (t :: T') T (List.nodup_cons.2 ⟨hn, h'.nd⟩) (fun u hu => by
      rcases List.mem_cons.1 hu with rfl | hu
      · exact ht
      · exact hs2 u hu)
    have := h.len
    rw [List.length_cons] at k
    omega
  obtain ⟨t', ht', hn'⟩ := this
  obtain ⟨w1, w2, w3⟩ := h'.mem t' ht'
  exact nearer_as (q1 t' ht') ((h.out t' w1 w2 w3 hn').2 t ht)
theorem wn_mono {d r r' : Int} (h : wn d r = true) (hr : r ≤ r') : wn d r' = true := by
  unfold wn at *
  simp only [Bool.and_eq_true, decide_eq_true_eq] at *
  obtain ⟨h1, h2⟩ := h
  refine ⟨by omega, Int.le_trans h2 ?_⟩
  have a1 : 0 ≤ kz r 0 3037000499 := by unfold kz; omega
  have a2 : kz r 0 3037000499 ≤ kz r' 0 3037000499 := by unfold kz; omega
  exact Int.mul_le_mul a2 a2 a1 (Int.le_trans a1 a2)
theorem Tld.show {LC : List Cr} {LS : List Sh} {rad sho s2 : Int} {own : Cr} {T T2 : List Sn} (h : Tld LC LS rad sho own T) (h2 : Tld LC LS rad s2 own T2) (hle : kpZ sho 32 ≤ kpZ s2 32) : ∀ t ∈ T, t ∈ T2 := by
  obtain ⟨C, S, c1, s1, _, _⟩ := h.o
  exact (h.told c1 s1).more (h2.told c1 s1) (by omega)
theorem Tld.rad {LC : List Cr} {LS : List Sh} {rad sho r3 : Int} {own : Cr} {T T3 : List Sn} (h : Tld LC LS rad sho own T) (h3 : Tld LC LS r3 sho own T3) (hle : kpZ rad 1024 ≤ kpZ r3 1024) (hl : (T3.length : Int) < kpZ sho 32) : ∀ t ∈ T, t ∈ T3 := by
  obtain ⟨C, S, c1, s1, _, _⟩ := h.o
  intro t ht
  obtain ⟨m1, m2, m3⟩ := (h.told c1 s1).mem t ht
  refine Classical.byContradiction fun hn => ?_
  have := ((h3.told c1 s1).out t m1 (wn_mono m2 (by omega)) m3 hn).1
  omega
def zcar : Cr := ⟨0, { data := #[] }, 0, 0, 0, 0, 0, 0, 0, 0, 0, 0, 0, 0⟩
/-- what Of answers, at one stroke -/
def OfP (tick : Int) (LC : List Cr) (LS : List Sh) (p radius sho tk : Int) (ow : Cr) (T : List Sn) (cd : Int) : Prop :=
  (LC.find? (fun c => c.pl == p) = none ∧ cd = 210 ∧ T = []) ∨ (∃ own, LC.find? (fun c => c.pl == p) = some own ∧ cd = 0 ∧ ow = own ∧ tk = tick ∧ Tld LC LS radius sho own T)
structure OfU (W W' : World) (tick : Int) (LC : List Cr) (LS : List Sh) (p radius sho : Int) (e : Ending) : Prop where
  o : ∃ (tk : Int) (ow : Cr) (a : Option Addr) (n c : Nat) (T : List Sn) (cd : Int), e = .returned (.tuple #[.agg (vwv tk ow (.slice a n c)).toArray, iv cd]) ∧ T.length = n ∧ n ≤ 32 ∧ Sep W W' [rowV 33 5 (.slice a n c) n (fl snv T)] ∧ OfP tick LC LS p radius sho tk ow T cd
theorem of_u (W : World) (tick nx p radius sho : Int) (vc vs : Value) (LC : List Cr) (LS : List Sh) (hS : StO W vc vs LC LS) :
    Calls Tryz.prog 12 #[.agg #[.int .u64 tick, vc, vs, iv nx], iv p, iv radius, iv sho] W fun e W' => OfU W W' tick LC LS p radius sho e := by
  refine (of_c W tick nx p radius sho vc vs LC LS hS).mono ?_
  intro e W' h
  cases hfd : LC.find? (fun c => c.pl == p) with
  | none =>
    obtain ⟨rfl, g⟩ := h.no hfd
    exact ⟨0, zcar, none, 0, 0, [], 210, rfl, rfl, by omega, (Sep.start g).nilV 33 5, .inl ⟨hfd, rfl, rfl⟩⟩
  | some own =>
    obtain ⟨v, T, rfl, hT, S⟩ := h.yes own hfd
    obtain ⟨a, c, rfl⟩ := own_slice (S.rowGet k0m)
    exact ⟨tick, own, a, T.length, c, T, 0, rfl, rfl, hT.le, S, .inr ⟨own, hfd, rfl, rfl, rfl, hT⟩⟩
theorem OfP.cd {tick : Int} {LC : List Cr} {LS : List Sh} {p r s tk r' s' tk' : Int} {ow ow' : Cr} {T T' : List Sn} {cd cd' : Int} (h : OfP tick LC LS p r s tk ow T cd) (h' : OfP tick LC LS p r' s' tk' ow' T' cd') : cd = cd' := by
  rcases h with ⟨a, b, _⟩ | ⟨o, a, b, _⟩ <;> rcases h' with ⟨a', b', _⟩ | ⟨o', a', b', _⟩
  · rw [b, b']
  · rw [a] at a'; cases a'
  · rw [a] at a'; cases a'
  · rw [b, b']
theorem OfP.show {tick : Int} {LC : List Cr} {LS : List Sh} {p r s s2 tk tk' : Int} {ow ow' : Cr} {T T' : List Sn} {cd cd' : Int} (h : OfP tick LC LS p r s tk ow T cd) (h' : OfP tick LC LS p r s2 tk' ow' T' cd') (hle : kpZ s 32 ≤ kpZ s2 32) : ∀ t ∈ T, t ∈ T' := by
  rcases h with ⟨a, b, c⟩ | ⟨o, a, b, _, _, c⟩
  · rw [c]; intro t ht; cases ht
  · rcases h' with ⟨a', b', _⟩ | ⟨o', a', b', _, _, c'⟩
    · rw [a] at a'; cases a'
    · rw [a] at a'
      injection a' with a'
      subst a'
      exact c.show c' hle
theorem OfP.rad {tick : Int} {LC : List Cr} {LS : List Sh} {p r s r3 tk tk' : Int} {ow ow' : Cr} {T T' : List Sn} {cd cd' : Int} (h : OfP tick LC LS p r s tk ow T cd) (h' : OfP tick LC LS p r3 s tk' ow' T' cd') (hle : kpZ r 1024 ≤ kpZ r3 1024) (hl : (T'.length : Int) < kpZ s 32) : ∀ t ∈ T, t ∈ T' := by
  rcases h with ⟨a, b, c⟩ | ⟨o, a, b, _, _, c⟩
  · rw [c]; intro t ht; cases ht
  · rcases h' with ⟨a', b', _⟩ | ⟨o', a', b', _, _, c'⟩
    · rw [a] at a'; cases a'
    · rw [a] at a'
      injection a' with a'
      subst a'
      exact c.rad c' hle hl
section
variable {P : Program} {ops : Array Oper} {Q : Exit → Act → World → Prop} {md : Region.Mode} {S : World → Prop} {Z : List Nat}
theorem wpAnyY_two {i j : Nat} {o p : Oper} {n : Nat} {L : Array Bool} {a : Act} {w : World} (hr : Region.ready md ops L = [i, j]) (ho : ops[i]? = some o) (hp : ops[j]? = some p)
    (h : ∀ K' : Act → World → Prop, Shut (∀ a w', (S w → S w') → wpAnyY P md ops Q S Z n (L.setIfInBounds i true) a w' → K' a w') → if Region.wanted o (yielded ops a.tmps) = true then Oper.wp P o a w K' Q else K' (a.put o.dst undef) w)
    (k : ∀ K' : Act → World → Prop, Shut (∀ a w', (S w → S w') → wpAnyY P md ops Q S Z n (L.setIfInBounds j true) a w' → K' a w') → if Region.wanted p (yielded ops a.tmps) = true then Oper.wp P p a w K' Q else K' (a.put p.dst undef) w) : wpAnyY P md ops Q S Z (n + 1) L a w :=
  ⟨fun h0 => (by rw [hr] at h0; cases h0), fun l hl => by
    rw [hr] at hl
    rcases List.mem_cons.1 hl with rfl | hl
    · exact wpOp_step ho (fun K' hK => h K' (fun a w hS hW => hK a w ⟨fun _ => hS, hW⟩))
    · rw [List.mem_singleton] at hl
      subst hl
      exact wpOp_step hp (fun K' hK => k K' (fun a w hS hW => hK a w ⟨fun _ => hS, hW⟩))⟩
end
end Go.Proofs.YtgedlabmndlooaaGreat

namespace Go.Proofs.YtgedlabmndlooaaGreat
open Go Go.RowKit Go.Maps Go.Shelf Go.Lib Go.Sort

/-- a car that may be seen, near, not the own one -/
def seeC (p x y r : Int) (c : Cr) : Bool := decide (c.wa ≤ 0) && (!decide (c.pl = p) && nrS x y r (carS c))
/-- the cars of the first loop: of each car ahead the first of its player -/
structure AlC (LC : List Cr) (p x y r : Int) (i : Nat) (A : List Sn) : Prop where
  o : ∀ u, u ∈ A ↔ ∃ d ∈ LC.take i, ∃ c, LC.find? (fun y => y.pl == d.pl) = some c ∧ seeC p x y r c = true ∧ u = carS c
theorem AlC.zero (LC : List Cr) (p x y r : Int) : AlC LC p x y r 0 [] := ⟨fun u => by simp⟩
theorem AlC.step {LC : List Cr} {p x y r : Int} {i : Nat} {A : List Sn} (h : AlC LC p x y r i A) {d c : Cr} (hd : LC[i]? = some d) (hc : LC.find? (fun y => y.pl == d.pl) = some c) :
    AlC LC p x y r (i + 1) (if seeC p x y r c = true ∧ carS c ∉ A then A ++ [carS c] else A) := by
  refine ⟨fun u => ?_⟩
  have e : LC.take (i + 1) = LC.take i ++ [d] := by rw [List.take_add_one, hd]; rfl
  rw [e]
  by_cases hs : seeC p x y r c = true
  · by_cases hm : carS c ∈ A
    · rw [if_neg (by simp [hm])]
      refine (h.o u).trans ⟨fun ⟨d', h1, h2⟩ => ⟨d', List.mem_append_left _ h1, h2⟩, fun ⟨d', h1, c', h2, h3, h4⟩ => ?_⟩
      rcases List.mem_append.1 h1 with k | k
      · exact ⟨d', k, c', h2, h3, h4⟩
      · rw [List.mem_singleton] at k
        subst k
        rw [hc] at h2
        injection h2 with h2
        subst h2
        rw [h4]
        exact (h.o _).1 hm
    · rw [if_pos ⟨hs, hm⟩, List.mem_append, h.o u]
      constructor
      · rintro (⟨d', h1, h2⟩ | k)
        · exact ⟨d', List.mem_append_left _ h1, h2⟩
        · rw [List.mem_singleton] at k
          exact ⟨d, by simp, c, hc, hs, k⟩
      · rintro ⟨d', h1, c', h2, h3, h4⟩
        rcases List.mem_append.1 h1 with k | k
        · exact .inl ⟨d', k, c', h2, h3, h4⟩
        · rw [List.mem_singleton] at k
          subst k
          rw [hc] at h2
          injection h2 with h2
          subst h2
          exact .inr (by rw [h4]; simp)
  · rw [if_neg (by simp [hs])]
    refine (h.o u).trans ⟨fun ⟨d', h1, h2⟩ => ⟨d', List.mem_append_left _ h1, h2⟩, fun ⟨d', h1, c', h2, h3, h4⟩ => ?_⟩
    rcases List.mem_append.1 h1 with k | k
    · exact ⟨d', k, c', h2, h3, h4⟩
    · rw [List.mem_singleton] at k
      subst k
      rw [hc] at h2
      injection h2 with h2
      subst h2
      exact absurd h3 hs
/-- the shots of the second loop -/
structure AlS (LS : List Sh) (x y r : Int) (i : Nat) (A0 A : List Sn) : Prop where
  o : ∀ u, u ∈ A ↔ u ∈ A0 ∨ ∃ s ∈ LS.take i, LS.find? (fun y => y.id == s.id) = some s ∧ nrS x y r (shoS s) = true ∧ u = shoS s
theorem AlS.zero (LS : List Sh) (x y r : Int) (A0 : List Sn) : AlS LS x y r 0 A0 A0 := ⟨fun u => by simp⟩
theorem AlS.step {LS : List Sh} {x y r : Int} {i : Nat} {A0 A : List Sn} (h : AlS LS x y r i A0 A) {s : Sh} (hs : LS[i]? = some s) (fb : Bool) (hf : fb = true ↔ ∀ d ∈ LS.take i, d.id ≠ s.id) :
    AlS LS x y r (i + 1) A0 (if fb = true ∧ nrS x y r (shoS s) = true then A ++ [shoS s] else A) := by
  refine ⟨fun u => ?_⟩
  have e : LS.take (i + 1) = LS.take i ++ [s] := by rw [List.take_add_one, hs]; rfl
  obtain ⟨hl, es⟩ := List.getElem?_eq_some_iff.1 hs
  have hfind : LS.find? (fun y => y.id == s.id) = some s ∨ ∃ d ∈ LS.take i, d.id = s.id := by
    by_cases q : ∃ d ∈ LS.take i, d.id = s.id
    · exact .inr q
    · refine .inl (List.find?_eq_some_iff_getElem.2 ⟨by simp, i, hl, es, fun j hj => ?_⟩)
      have : LS[j].id ≠ s.id := fun k => q ⟨LS[j], List.mem_take_iff_getElem.2 ⟨j, by omega, rfl⟩, k⟩
      simpa using this
  rw [e]
  by_cases hc : fb = true ∧ nrS x y r (shoS s) = true
  · rw [if_pos hc, List.mem_append, h.o u]
    have hno := hf.1 hc.1
    have hfd : LS.find? (fun y => y.id == s.id) = some s := by
      rcases hfind with q | ⟨d, q1, q2⟩
      · exact q
      · exact absurd q2 (hno d q1)
    constructor
    · rintro ((k | ⟨d, h1, h2⟩) | k)
      · exact .inl k
      · exact .inr ⟨d, List.mem_append_left _ h1, h2⟩
      · rw [List.mem_singleton] at k
        exact .inr ⟨s, by simp, hfd, hc.2, k⟩
    · rintro (k | ⟨d, h1, h2⟩)
      · exact .inl (.inl k)
      · rcases List.mem_append.1 h1 with q | q
        · exact .inl (.inr ⟨d, q, h2⟩)
        · rw [List.mem_singleton] at q
          subst q
          exact .inr (by rw [h2.2.2]; simp)
  · rw [if_neg hc]
    refine (h.o u).trans ⟨?_, ?_⟩
    · rintro (k | ⟨d, h1, h2⟩)
      · exact .inl k
      · exact .inr ⟨d, List.mem_append_left _ h1, h2⟩
    · rintro (k | ⟨d, h1, h2⟩)
      · exact .inl k
      · rcases List.mem_append.1 h1 with q | q
        · exact .inr ⟨d, q, h2⟩
        · rw [List.mem_singleton] at q
          subst q
          by_cases hx : ∃ d' ∈ LS.take i, d'.id = d.id
          · obtain ⟨d', hd', e'⟩ := hx
            obtain ⟨h3, j, hj, h4, h5⟩ := List.find?_eq_some_iff_getElem.1 h2.1
            obtain ⟨k, hk, h6⟩ := List.mem_take_iff_getElem.1 hd'
            have hjk : j ≤ k := by
              rcases Nat.lt_or_ge k j with q | q
              · have := h5 k q
                rw [h6] at this
                simp [e'] at this
              · exact q
            exact .inr ⟨d, List.mem_take_iff_getElem.2 ⟨j, by omega, h4⟩, h2⟩
          · exact absurd ⟨hf.2 (fun d' hd' e' => hx ⟨d', hd', e'⟩), h2.2.1⟩ hc
/-- all that is near: the things of the state -/
theorem all_near {LC C : List Cr} {LS S : List Sh} (hC : Fst1 (fun c : Cr => c.pl) LC C) (hS : Fst1 (fun s : Sh => s.id) LS S) {p x y r : Int} {A0 A : List Sn} (h0 : AlC LC p x y r LC.length A0) (h : AlS LS x y r LS.length A0 A) :
    ∀ u, u ∈ A ↔ u ∈ seenC C ++ S.map shoS ∧ nrS x y r u = true ∧ notO p u = true := by
  intro u
  rw [h.o u, h0.o u, List.take_length, List.take_length, List.mem_append]
  constructor
  · rintro (⟨d, _, c, h1, h2, rfl⟩ | ⟨s, _, h1, h2, rfl⟩)
    · simp only [seeC, Bool.and_eq_true, Bool.not_eq_true', decide_eq_true_eq, decide_eq_false_iff_not] at h2
      have e : c.pl = d.pl := by have := List.find?_some h1; simpa using this
      refine ⟨.inl ?_, h2.2.2, by simp [notO, carS, h2.2.1]⟩
      unfold seenC
      exact List.mem_map_of_mem (List.mem_filter.2 ⟨(hC.2 c).2 (by show LC.find? (fun y => y.pl == c.pl) = some c; rw [e]; exact h1), by simp [h2.1]⟩)
    · exact ⟨.inr (List.mem_map_of_mem ((hS.2 s).2 h1)), h2, by simp [notO, shoS]⟩
  · rintro ⟨k | k, h1, h2⟩
    · unfold seenC at k
      obtain ⟨c, hc, rfl⟩ := List.mem_map.1 k
      obtain ⟨k1, k2⟩ := List.mem_filter.1 hc
      have q := (hC.2 c).1 k1
      refine .inl ⟨c, List.mem_of_find?_eq_some q, c, q, ?_, rfl⟩
      simp only [notO, carS, decide_true, Bool.true_and, Bool.not_eq_true'] at h2
      have h2 := of_decide_eq_false h2
      simp [seeC, of_decide_eq_true k2, h2, h1]
    · obtain ⟨s, hs, rfl⟩ := List.mem_map.1 k
      have q := (hS.2 s).1 hs
      exact .inr ⟨s, List.mem_of_find?_eq_some q, q, h1, rfl⟩
/-- how far the farthest of these is -/
def farL (x y : Int) (T : List Sn) : Int := T.foldl (fun m t => max m (d2 x y t.x t.y)) (-1)
theorem farL_app (x y : Int) (T : List Sn) (t : Sn) : farL x y (T ++ [t]) = max (farL x y T) (d2 x y t.x t.y) := by
  unfold farL
  rw [List.foldl_append]
  rfl
theorem d2_nn (x y a b : Int) : 0 ≤ d2 x y a b := by
  unfold d2
  have h : ∀ z : Int, 0 ≤ z * z := fun z => by
    rcases Int.le_total 0 z with q | q
    · exact Int.mul_nonneg q q
    · exact Int.mul_nonneg_of_nonpos_of_nonpos q q
  have := h (lz x a 2147483647)
  have := h (lz y b 2147483647)
  omega
theorem farL_le {x y : Int} {z : Int} (hz : 0 ≤ z) : ∀ {T : List Sn}, (∀ t ∈ T, d2 x y t.x t.y ≤ z) → farL x y T ≤ z := by
  intro T
  suffices ∀ (T : List Sn) (m : Int), m ≤ z → (∀ t ∈ T, d2 x y t.x t.y ≤ z) → T.foldl (fun m t => max m (d2 x y t.x t.y)) m ≤ z from this T (-1) (by omega)
  intro T
  induction T with
  | nil => intro m hm _; exact hm
  | cons a T ih =>
    intro m hm h
    refine ih _ ?_ (fun t ht => h t (List.mem_cons_of_mem _ ht))
    have := h a (List.mem_cons_self ..)
    show max m (d2 x y a.x a.y) ≤ z
    omega
/-- what stays out is no nearer, and then there was no room -/
theorem Told.far {L T : List Sn} {pl x y r : Int} {s : Nat} (h : Told L pl x y r s T) {u : Sn} (h1 : u ∈ L) (h2 : nrS x y r u = true) (h3 : notO pl u = true) (h4 : u ∉ T) : T.length = s ∧ farL x y T ≤ d2 x y u.x u.y := by
  obtain ⟨q1, q2⟩ := h.out u h1 h2 h3 h4
  refine ⟨q1, farL_le (d2_nn _ _ _ _) fun t ht => ?_⟩
  rcases q2 t ht with k | k
  · omega
  · omega
end Go.Proofs.YtgedlabmndlooaaGreat
