/- view: the reference's Of -/
import Derived.Test.YtgedlabmndlooaaGreatN2
import Derived.Test.YtgedlabmndlooaaGreatP6
namespace Go.Proofs.YtgedlabmndlooaaGreat
open Go Go.RowKit Go.Maps Go.Shelf Go.Lib Go.Sort

def lnOf : Value → Nat
  | .slice _ n _ => n
  | _ => 0
theorem ents_iff {LC C : List Cr} {LS S : List Sh} (p : Int) (hC : Fst1 (fun c : Cr => c.pl) LC C) (hS : Fst1 (fun s : Sh => s.id) LS S) (t : Sn) : t ∈ ents LC LS p ↔ t ∈ seenC C ++ S.map shoS ∧ notO p t = true := by
  have fi : ∀ {α : Type} (key : α → Int) (L : List α) (x : α), L.find? (fun y => key y == key x) = some x ↔ ∃ i, L[i]? = some x ∧ ∀ d ∈ L.take i, key d ≠ key x := fun key L x => by
    constructor
    · intro h
      obtain ⟨_, i, hi, e, q⟩ := List.find?_eq_some_iff_getElem.1 h
      refine ⟨i, List.getElem?_eq_some_iff.2 ⟨hi, e⟩, fun d hd => ?_⟩
      obtain ⟨j, hj, rfl⟩ := List.mem_take_iff_getElem.1 hd
      have := q j (by omega)
      simpa using this
    · rintro ⟨i, hi, q⟩
      obtain ⟨h1, h2⟩ := List.getElem?_eq_some_iff.1 hi
      refine List.find?_eq_some_iff_getElem.2 ⟨by simp, i, h1, h2, fun j hj => ?_⟩
      have := q L[j] (List.mem_take_iff_getElem.2 ⟨j, by omega, rfl⟩)
      simpa using this
  constructor
  · intro h
    refine ⟨?_, ents_not LC LS p t h⟩
    rcases List.mem_append.1 h with h | h
    · obtain ⟨i, c, _, h2, h3, _, h5, rfl⟩ := (entC_mem _ _ _ t).1 h
      refine List.mem_append_left _ (List.mem_map.2 ⟨c, List.mem_filter.2 ⟨(hC.2 c).2 ((fi _ LC c).2 ⟨i, h2, h3⟩), by simp [h5]⟩, rfl⟩)
    · obtain ⟨i, s, _, h2, h3, rfl⟩ := (entS_mem _ _ t).1 h
      exact List.mem_append_right _ (List.mem_map.2 ⟨s, (hS.2 s).2 ((fi _ LS s).2 ⟨i, h2, h3⟩), rfl⟩)
  · rintro ⟨h, hn⟩
    rcases List.mem_append.1 h with h | h
    · obtain ⟨c, hc, rfl⟩ := List.mem_map.1 h
      obtain ⟨h1, h2⟩ := List.mem_filter.1 hc
      obtain ⟨i, q1, q2⟩ := (fi _ LC c).1 ((hC.2 c).1 h1)
      refine List.mem_append_left _ ((entC_mem _ _ _ _).2 ⟨i, c, (List.getElem?_eq_some_iff.1 q1).1, q1, q2, fun e => ?_, of_decide_eq_true h2, rfl⟩)
      unfold notO carS at hn
      simp [e] at hn
    · obtain ⟨s, hs, rfl⟩ := List.mem_map.1 h
      obtain ⟨i, q1, q2⟩ := (fi _ LS s).1 ((hS.2 s).1 hs)
      exact List.mem_append_right _ ((entS_mem _ _ _).2 ⟨i, s, (List.getElem?_eq_some_iff.1 q1).1, q1, q2, rfl⟩)
theorem Told.ents {LC C : List Cr} {LS S : List Sh} {p x y r : Int} {s : Nat} {T : List Sn} (hC : Fst1 (fun c : Cr => c.pl) LC C) (hS : Fst1 (fun s : Sh => s.id) LS S) (h : Told (ents LC LS p) p x y r s T) : Told (seenC C ++ S.map shoS) p x y r s T :=
  ⟨h.srt, fun t ht => ⟨((ents_iff p hC hS t).1 (h.mem t ht).1).1, (h.mem t ht).2⟩, h.len, fun u hu h1 h2 h3 => h.out u ((ents_iff p hC hS u).2 ⟨hu, h2⟩) h1 h2 h3⟩
theorem ents_ok {LC : List Cr} {LS : List Sh} (p : Int) (oc : ∀ c ∈ LC, CrOk c) (os : ∀ s ∈ LS, ShOk s) : ∀ t ∈ ents LC LS p, I64 t.x ∧ I64 t.y := by
  intro t ht
  rcases List.mem_append.1 ht with h | h
  · obtain ⟨i, c, _, h2, _, _, _, rfl⟩ := (entC_mem _ _ _ t).1 h
    have := oc c (List.mem_of_getElem? h2)
    exact ⟨this.x, this.y⟩
  · obtain ⟨i, s, _, h2, _, rfl⟩ := (entS_mem _ _ t).1 h
    have := os s (List.mem_of_getElem? h2)
    exact ⟨this.x, this.y⟩
theorem Bs.noN {x y : Int} {L : List Sn} {b i : Nat} {t u : Sn} (hd : DK L) (h : Bs (nearer x y) L b i) (hbi : b < i) (hb : L[b]? = some t) (hi : L[i]? = some u) (hr : decide (nearer x y u t) = false) : Bs (nearer x y) L b (i + 1) :=
  Bs.no (R := nearer x y) (fun _ _ h => nearer_tot h) hd h hbi hb hi (of_decide_eq_false hr)
theorem Bs.yesN {x y : Int} {L : List Sn} {b i : Nat} {t u : Sn} (h : Bs (nearer x y) L b i) (hb : L[b]? = some t) (hi : L[i]? = some u) (hr : decide (nearer x y u t) = true) : Bs (nearer x y) L i (i + 1) :=
  Bs.yes (R := nearer x y) (fun _ _ _ h k => nearer_tr h k) h hb hi (of_decide_eq_true hr)
theorem Bs.noT {L : List Sn} {b i : Nat} {t u : Sn} (hd : DK L) (h : Bs tld L b i) (hbi : b < i) (hb : L[b]? = some t) (hi : L[i]? = some u) (hr : decide (tld u t) = false) : Bs tld L b (i + 1) :=
  Bs.no (R := tld) (fun _ _ h => h) hd h hbi hb hi (of_decide_eq_false hr)
theorem Bs.yesT {L : List Sn} {b i : Nat} {t u : Sn} (h : Bs tld L b i) (hb : L[b]? = some t) (hi : L[i]? = some u) (hr : decide (tld u t) = true) : Bs tld L i (i + 1) :=
  Bs.yes (R := tld) (fun _ _ _ h k => tld_tr h k) h hb hi (of_decide_eq_true hr)
/-- what the reference's Of answers -/
def OfT (tick : Int) (LC : List Cr) (LS : List Sh) (p radius sho tk : Int) (ow : Cr) (T : List Sn) (cd : Int) : Prop :=
  (LC.find? (fun c => c.pl == p) = none ∧ cd = 210 ∧ T = [] ∧ tk = 0 ∧ ow = zcar) ∨ (∃ own, LC.find? (fun c => c.pl == p) = some own ∧ cd = 0 ∧ ow = own ∧ tk = tick ∧ Told (ents LC LS p) p own.x own.y (65536 * kpZ radius 1024) (kpZ sho 32).toNat T)
structure OfW (W W' : World) (tick : Int) (LC : List Cr) (LS : List Sh) (p radius sho : Int) (e : Ending) : Prop where
  o : ∃ (tk : Int) (ow : Cr) (a : Option Addr) (n c : Nat) (T : List Sn) (cd : Int), e = .returned (.tuple #[.agg (vwv tk ow (.slice a n c)).toArray, iv cd]) ∧ T.length = n ∧ n ≤ 32 ∧ Sep W W' [rowV 33 5 (.slice a n c) n (fl snv T)] ∧ OfT tick LC LS p radius sho tk ow T cd
theorem fil_step (P : Sn → Bool) {E : List Sn} {i : Nat} {t : Sn} (h : E[i]? = some t) : (E.take (i + 1)).filter P = (E.take i).filter P ++ (if P t = true then [t] else []) := by
  rw [take_snoc h, List.filter_append]
  by_cases hp : P t = true
  · rw [if_pos hp, List.filter_cons_of_pos hp, List.filter_nil]
  · rw [if_neg hp, List.filter_cons_of_neg hp, List.filter_nil]
theorem xy_box {W : World} {b : Nat} {c : Cr} {ty : TypeId} (h : Has W b (crv c) ty) : W.rangeAt b 2 [iv c.x, iv c.y] := fun j u hu => by
  rw [Nat.add_comm]
  refine h.cellv (j + 2) u ?_
  match j, hu with
  | 0, hu => exact hu
  | 1, hu => exact hu
theorem xy_row {W : World} {g o : Nat} {t : Sn} (h : W.rangeAt g o (snv t)) : W.rangeAt g (o + 2) [iv t.x, iv t.y] := fun j u hu => by
  have q := h (j + 2) u (by
    match j, hu with
    | 0, hu => exact hu
    | 1, hu => exact hu)
  rw [show o + 2 + j = o + (j + 2) by omega]
  exact q
theorem row_blk {w0 W : World} {l : List As} {e : TypeId} {s : Nat} {a : Option Addr} {n c : Nat} {xs : List Value} (h : Sep w0 W l) (hm : rowV e s (.slice a n c) n xs ∈ l) (hn : 0 < n) : ∃ g, a = some ⟨g, 0, none⟩ := by
  obtain ⟨g, c', e, _⟩ := own_any (h.rowGet hm) hn
  injection e with e1 _ _
  exact ⟨g, e1⟩
set_option maxRecDepth 100000 in
set_option maxHeartbeats 16000000 in
theorem rof_c (W : World) (tick nx p rad sho : Int) (vc vs : Value) (LC : List Cr) (LS : List Sh) (hS : StO W vc vs LC LS) (hn : LC.length + LS.length ≤ 1048576) :
    Calls Tryz.prog 24 #[.agg #[.int .u64 tick, vc, vs, iv nx], iv p, iv rad, iv sho] W fun e W' => OfW W W' tick LC LS p rad sho e := by
  have S1 := ((Sep.nil W).newBox #[.int .u64 tick, vc, vs, iv nx] 37).newBox #[.int .u64 0, iv 0, .string { data := #[] }, iv 0, iv 0, iv 0, iv 0, iv 0, iv 0, iv 0, iv 0, iv 0, iv 0, iv 0, iv 0, .slice none 0 0] 29
  simp only [World.size_alloc] at S1
  obtain ⟨b4, hb4⟩ : ∃ b, W.heap.size = b := ⟨_, rfl⟩
  obtain ⟨rb, hrb⟩ : ∃ b, b4 + 1 = b := ⟨_, rfl⟩
  obtain ⟨W1, hW1⟩ : ∃ w, (W.alloc (.cells #[.int .u64 tick, vc, vs, iv nx] 37)).alloc (.cells #[.int .u64 0, iv 0, .string { data := #[] }, iv 0, iv 0, iv 0, iv 0, iv 0, iv 0, iv 0, iv 0, iv 0, iv 0, iv 0, iv 0, .slice none 0 0] 29) = w := ⟨_, rfl⟩
  rw [hW1, hb4, hrb] at S1
  have HB : Keep (Sep W W1 (boxA rb zvw 29 :: boxA b4 [.int .u64 tick, vc, vs, iv nx] 37 :: [])) := ⟨S1⟩
  have HST := Keep.mk hS
  have HNN := Keep.mk hn
  obtain ⟨dv, hdv⟩ := under29
  obtain ⟨dc, hdc⟩ := under26
  obtain ⟨ds, hds⟩ := under37
  obtain ⟨du, hdu⟩ := under33
  obtain ⟨dw, hdw⟩ := under24
  have HR := Keep.mk ((HB.out.boxGet k1m).range)
  clear S1 hS hn
  go_enter Tryz.func24, Tryz.ntmps24
  go_wp2_with (first
    | (with_reducible show wpList _ _ _ ({ dst := some 22, op := Op.load 37 _, type := _, pos := _, after := _, guard := _ } :: _) _ _
       refine wpList_load_mid rfl 37 _ rfl _ _ rfl ([.int .u64 tick, vc, vs, iv nx]) _ HR.out hds.1 hds.2 info37 ?_))
  clear hW1 hb4 hrb HR
  refine (rown_c W1 tick nx p vc vs LC ((HST.out.kept HB.out.g).c) (by have := HNN.out; omega)).mono ?_
  rintro e W3 hOw
  replace HB := Keep.mk (HB.out.grown hOw.g)
  cases hfd : LC.find? (fun c => c.pl == p) with
  | none =>
    obtain rfl := hOw.no hfd
    have HFD := Keep.mk hfd
    have HBT := Keep.mk built29z
    clear hOw hfd
    go_wp2_with (first
      | (with_reducible show wpList _ _ _ ({ dst := _, op := Op.store 26 _ _, type := _, pos := _, after := _, guard := _ } :: _) _ _
         refine store_new W3 (zcr) 26 rfl rfl rfl rfl rfl info26 zcr_one ?_))
    intro W4 hS4 g4
    obtain ⟨ob, hob⟩ : ∃ b, W3.heap.size = b := ⟨_, rfl⟩
    have S4 := hS4 _ _ HB.out
    rw [hob] at S4 ⊢
    replace HB := Keep.mk S4
    clear S4 hS4 g4 hob
    go_wp2_with (first
      | (with_reducible show wpList _ _ _ ({ dst := _, op := Op.build 29 _, type := _, pos := _, after := _, guard := _ } :: _) _ _
         refine wpList_build rfl 29 _ rfl zvw.toArray ((congrArg (Tryz.prog.built 29) (by simp only [List.map_toArray, List.map_nil])).trans HBT.out) ?_)
      | (with_reducible show wpList _ _ _ ({ dst := _, op := Op.store 29 _ _, type := _, pos := _, after := _, guard := _ } :: _) _ _
         refine store_at _ rb 0 zvw zvw 29 29 rfl rfl rfl rfl (HB.out.boxGet k1m) (Nat.le_refl _) info29 zvw_one ?_
         intro w6 hS6 g6
         have S6 := hS6 _ _ (fr1 [_] HB.out)
         rw [over_all _ _ rfl] at S6
         have HS6 := Keep.mk S6
         clear S6 hS6 g6))
    refine ret_ct rfl rfl (HS6.out.boxGet k0m) hdv.1 hdv.2 info29 rfl ?_
    exact ⟨0, zcar, none, 0, 0, [], 210, rfl, rfl, by omega, (Sep.start HS6.out.g).nilV 33 5, .inl ⟨HFD.out, rfl, rfl, rfl, rfl⟩⟩
  | some own =>
    obtain rfl := hOw.yes own hfd
    have HFD := Keep.mk hfd
    have HON := Keep.mk (crv_one own)
    have HOC : Keep (CrOk own) := ⟨HST.out.oc own (List.mem_of_find?_eq_some hfd)⟩
    clear hOw hfd
    go_wp2_with (first
      | (with_reducible show wpList _ _ _ ({ dst := _, op := Op.store 26 _ _, type := _, pos := _, after := _, guard := _ } :: _) _ _
         refine store_new W3 (crv own) 26 rfl rfl rfl rfl rfl info26 HON.out ?_))
    intro W5 hS4 g4
    obtain ⟨ob, hob⟩ : ∃ b, W3.heap.size = b := ⟨_, rfl⟩
    have S4 := hS4 _ _ HB.out
    rw [hob] at S4 ⊢
    replace HB : Keep (Sep W W5 (boxA ob (crv own) 26 :: boxA rb zvw 29 :: boxA b4 [.int .u64 tick, vc, vs, iv nx] 37 :: [])) := ⟨S4⟩
    clear S4 hS4 g4 hob HON
    obtain ⟨r1, hr1⟩ : ∃ r : Int, (if rad < 0 then 0 else rad) = r := ⟨_, rfl⟩
    obtain ⟨R, hR⟩ : ∃ r : Int, (if r1 > 1024 then 1024 else r1) = r := ⟨_, rfl⟩
    obtain ⟨sh, hsh⟩ : ∃ r : Int, (if sho > 32 then 32 else sho) = r := ⟨_, rfl⟩
    have HC1 : Keep ((rad < 0 → r1 = 0) ∧ (¬ rad < 0 → r1 = rad)) := ⟨⟨fun h => by rw [← hr1, if_pos h], fun h => by rw [← hr1, if_neg h]⟩⟩
    have HC2 : Keep ((r1 > 1024 → R = 1024) ∧ (¬ r1 > 1024 → R = r1)) := ⟨⟨fun h => by rw [← hR, if_pos h], fun h => by rw [← hR, if_neg h]⟩⟩
    have HC3 : Keep ((sho > 32 → sh = 32) ∧ (¬ sho > 32 → sh = sho)) := ⟨⟨fun h => by rw [← hsh, if_pos h], fun h => by rw [← hsh, if_neg h]⟩⟩
    have hRk : R = kpZ rad 1024 := by
      have h1 := HC1.out; have h2 := HC2.out
      unfold kpZ
      by_cases q : rad < 0
      · have := h1.1 q; have := h2.2 (by omega); omega
      · have := h1.2 q
        by_cases q2 : r1 > 1024
        · have := h2.1 q2; omega
        · have := h2.2 q2; omega
    have HSH : Keep ((kpZ sho 32).toNat = sh.toNat ∧ sh ≤ 32) := ⟨by
      have h3 := HC3.out
      unfold kpZ
      by_cases q : sho > 32
      · have := h3.1 q; omega
      · have := h3.2 q; omega⟩
    have hRb := kpZ_in rad 1024 (by decide)
    obtain ⟨R65, hR65⟩ : ∃ r : Int, 65536 * kpZ rad 1024 = r := ⟨_, rfl⟩
    have HR65 : Keep (R65 = 65536 * kpZ rad 1024) := ⟨hR65.symm⟩
    have HMW : Keep (IntKind.i64.wrap (R * 65536) = R65) := ⟨by rw [IntKind.wrap_i64]; omega⟩
    clear hr1 hR hsh hRk hRb hR65
    go_upto_if 31 with fail
    go_cut [2] (fun u2 wx => u2 = iv r1 ∧ wx = W5)
    case first =>
      as_aux_lemma =>
        by_cases h0 : rad < 0
        · have HQ := Keep.mk (HC1.out.1 h0)
          go_wp2_with fail
          go_meet
          exact ⟨by rw [HQ.out], rfl⟩
        · have HQ := Keep.mk (HC1.out.2 h0)
          go_wp2_with fail
          go_meet
          exact ⟨by rw [HQ.out], rfl⟩
    case rest =>
    rename World => wc
    obtain ⟨rfl, ewc⟩ := hcut
    replace ewc := ewc.symm
    subst ewc
    go_upto_if 33 with fail
    go_cut [2] (fun u2 wx => u2 = iv R ∧ wx = W5)
    case first =>
      as_aux_lemma =>
        by_cases h0 : r1 > 1024
        · have HQ := Keep.mk (HC2.out.1 h0)
          go_wp2_with fail
          go_meet
          exact ⟨by rw [HQ.out], rfl⟩
        · have HQ := Keep.mk (HC2.out.2 h0)
          go_wp2_with fail
          go_meet
          exact ⟨by rw [HQ.out], rfl⟩
    case rest =>
    rename World => wc
    obtain ⟨rfl, ewc⟩ := hcut
    replace ewc := ewc.symm
    subst ewc
    go_upto_if 35 with fail
    go_cut [3] (fun u3 wx => u3 = iv sh ∧ wx = W5)
    case first =>
      as_aux_lemma =>
        by_cases h0 : sho > 32
        · have HQ := Keep.mk (HC3.out.1 h0)
          go_wp2_with fail
          go_meet
          exact ⟨by rw [HQ.out], rfl⟩
        · have HQ := Keep.mk (HC3.out.2 h0)
          go_wp2_with fail
          go_meet
          exact ⟨by rw [HQ.out], rfl⟩
    case rest =>
    rename World => wc
    obtain ⟨rfl, ewc⟩ := hcut
    replace ewc := ewc.symm
    subst ewc
    have HR := Keep.mk ((HB.out.boxGet k2m).range)
    go_wp2_with (first
      | (with_reducible show wpList _ _ _ ({ dst := some 36, op := Op.load 37 _, type := _, pos := _, after := _, guard := _ } :: _) _ _
         refine wpList_load_mid rfl 37 _ rfl _ _ rfl ([.int .u64 tick, vc, vs, iv nx]) _ HR.out hds.1 hds.2 info37 ?_))
    refine (rent_c W5 tick nx p vc vs LC LS ((HST.out.kept HB.out.g).c) ((HST.out.kept HB.out.g).s) (by have := HNN.out; omega) (by have := HNN.out; omega)).mono ?_
    rintro e W6 ⟨vE, rfl, S6⟩
    obtain ⟨aE, cE, rfl⟩ := own_slice (S6.rowGet k0m)
    obtain ⟨E, hE⟩ : ∃ E, ents LC LS p = E := ⟨_, rfl⟩
    have HDE : Keep (DK E) := ⟨by rw [← hE]; exact ents_dk LC LS p⟩
    have HEO : Keep (∀ t ∈ E, I64 t.x ∧ I64 t.y) := ⟨by rw [← hE]; exact ents_ok p HST.out.oc HST.out.os⟩
    rw [hE] at S6 ⊢
    obtain ⟨nE, hnE⟩ : ∃ n, E.length = n := ⟨_, rfl⟩
    have HNE : Keep (E.length = nE ∧ nE ≤ 1048576 ∧ ents LC LS p = E) := ⟨⟨hnE, by
      rw [← hnE, ← hE]
      unfold ents
      rw [List.length_append]
      have := entC_len LC p LC.length
      have := entS_len LS LS.length
      have := HNN.out
      omega, hE⟩⟩
    rw [hnE] at S6 ⊢
    replace HB : Keep (Sep W W6 (rowV 33 5 (.slice none 0 0) 0 (fl snv ((E.take 0).filter (nrS own.x own.y R65))) :: rowV 33 5 (.slice aE nE cE) nE (fl snv (E)) :: boxA ob (crv own) 26 :: boxA rb zvw 29 :: boxA b4 [.int .u64 tick, vc, vs, iv nx] 37 :: [])) := ⟨(HB.out.join S6).nilV 33 5⟩
    clear S6 hE hnE HR
    go_wp2_with fail
    as_aux_lemma =>
      go_loopw [12, 14] (fun u12 u14 wr => ∃ (i m : Nat) (aL : Option Addr) (cL : Nat), i ≤ nE ∧ u14 = iv i ∧ u12 = .slice aL m cL ∧ Keep (((E.take i).filter (nrS own.x own.y R65)).length = m ∧ m ≤ i) ∧ Keep (Sep W wr (rowV 33 5 (.slice aL m cL) m (fl snv ((E.take i).filter (nrS own.x own.y R65))) :: rowV 33 5 (.slice aE nE cE) nE (fl snv (E)) :: boxA ob (crv own) 26 :: boxA rb zvw 29 :: boxA b4 [.int .u64 tick, vc, vs, iv nx] 37 :: []))) (fun _ u14 _ => (nE - intOf u14).toNat)
      case atStart => exact ⟨0, 0, none, 0, Nat.zero_le _, rfl, rfl, ⟨⟨rfl, Nat.le_refl _⟩⟩, HB⟩
      case round =>
        clear HB
        obtain ⟨i, m, aL, cL, hi, rfl, rfl, HM, HB⟩ := hrel
        by_cases hlt : i < nE
        · have hlt1 : (i : Int) < (nE : Int) := by omega
          have hi0 : (0 : Int) ≤ (i : Int) := by omega
          have hit : ((i : Nat) : Int).toNat = i := by omega
          have hiw : IntKind.i64.wrap ((i : Int) + 1) = ((i + 1 : Nat) : Int) := by rw [IntKind.wrap_i64]; have := HNE.out; omega
          obtain ⟨t, ht⟩ : ∃ y, E[i]? = some y := ⟨_, List.getElem?_eq_getElem (by rw [HNE.out.1]; exact hlt)⟩
          obtain ⟨gE, hgE⟩ := row_blk HB.out k1m (by omega)
          subst hgE
          have HTI := Keep.mk ht
          have HTO := Keep.mk (HEO.out t (List.mem_of_getElem? ht))
          have HIN : Keep (i < nE) := ⟨hlt⟩
          have hmw := HMW.out
          obtain ⟨bb, hbb⟩ : ∃ bb, nrS own.x own.y R65 t = bb := ⟨_, rfl⟩
          have HBB := Keep.mk hbb
          clear ht hlt hi hbb
          go_wp2_with fail
          refine region_Y (S := fun w' => Sep W w' (rowV 33 5 (.slice aL m cL) m (fl snv ((E.take i).filter (nrS own.x own.y R65))) :: rowV 33 5 (.slice (some ⟨gE, 0, none⟩) nE cE) nE (fl snv (E)) :: boxA ob (crv own) 26 :: boxA rb zvw 29 :: boxA b4 [.int .u64 tick, vc, vs, iv nx] 37 :: [])) [] (by kernel_rfl) ?_
          obtain ⟨W0, hW0⟩ : ∃ W_, wr.drew = W_ := ⟨_, rfl⟩
          replace HB := Keep.mk (HB.out.grown (gr_drew _ none))
          rw [hW0] at HB ⊢
          clear hW0
          have hHeld : (fun w' => Sep W w' (rowV 33 5 (.slice aL m cL) m (fl snv ((E.take i).filter (nrS own.x own.y R65))) :: rowV 33 5 (.slice (some ⟨gE, 0, none⟩) nE cE) nE (fl snv (E)) :: boxA ob (crv own) 26 :: boxA rb zvw 29 :: boxA b4 [.int .u64 tick, vc, vs, iv nx] 37 :: [])) W0 := HB.out
          refine yp (i := 0) (v := ?_) rfl (Or.inl ⟨by rfl, ?_⟩) ?_
          rotate_left
          · (intro w hSw; go_simp; first | done | (with_reducible rfl))
          simp only [Act.put, A1, A3, A4, A5, A6]
          refine yt (i := 1) (v := .agg ([iv own.x, iv own.y]).toArray) rfl (yieldsIf_load_mid (by rfl) 24 _ rfl _ _ rfl _ _ (fun w hSw => xy_box (hSw.boxGet k2m)) hdw.1 hdw.2 info24) (by assumption) ?_
          simp only [Act.put, A1, A2, A3, A4, A5, A6]
          refine yp (i := 2) (v := ?_) rfl (Or.inl ⟨by rfl, ?_⟩) ?_
          rotate_left
          · (intro w hSw; go_simp; first | done | (with_reducible rfl))
          simp only [Act.put, A1, A2, A3, A4, A5, A6]
          refine yp (i := 3) (v := ?_) rfl (Or.inl ⟨by rfl, ?_⟩) ?_
          rotate_left
          · (intro w hSw; go_simp; first | done | (with_reducible rfl))
          simp only [Act.put, A1, A2, A3, A4, A5, A6]
          refine yp (i := 4) (v := ?_) rfl (Or.inl ⟨by rfl, ?_⟩) ?_
          rotate_left
          · (intro w hSw; go_simp; first | done | (with_reducible rfl))
          simp only [Act.put, A1, A2, A3, A4, A5, A6]
          refine yp (i := 5) (v := ?_) rfl (Or.inl ⟨by rfl, ?_⟩) ?_
          rotate_left
          · (intro w hSw; go_simp; first | done | (with_reducible rfl))
          simp only [Act.put, A1, A2, A3, A4, A5, A6]
          refine yt (i := 6) (v := .agg ([iv t.x, iv t.y]).toArray) rfl (yieldsIf_load_mid (by rfl) 24 _ rfl _ _ rfl _ _ (fun w hSw => xy_row (fl_range snv_len (hSw.rowGet k1m) (by omega) i t HTI.out)) hdw.1 hdw.2 info24) (by assumption) ?_
          simp only [Act.put, A1, A2, A3, A4, A5, A6]
          refine yp (i := 7) (v := ?_) rfl (Or.inl ⟨by rfl, ?_⟩) ?_
          rotate_left
          · (intro w hSw; go_simp; first | done | (with_reducible rfl))
          simp only [Act.put, A1, A2, A3, A4, A5, A6]
          refine yt (i := 8) (v := .int .i64 R65) rfl (Or.inl ⟨by rfl, ?_⟩) (by assumption) ?_
          · (intro w hSw; have q := hmw; go_simp; first | done | rfl | (simp; done) | trace_state)
          simp only [Act.put, A1, A2, A3, A4, A5, A6]
          refine wpAnyY_one (i := 9) (by kernel_rfl) rfl (fun K hK => ?_)
          go_simp
          refine (rwithin_c own.x own.y t.x t.y R65 HOC.out.x HOC.out.y HTO.out.1 HTO.out.2 _).mono ?_
          rintro e wd ⟨rfl, gd⟩
          rw [show wn (d2 own.x own.y t.x t.y) R65 = bb from HBB.out]
          replace HB := Keep.mk (HB.out.grown gd.g)
          refine hK.out _ _ (fun h => h.grown gd.g) ?_
          clear hK K gd hHeld
          refine wpAnyY_done (by kernel_rfl) ?_ _
          clear hmw
          cases bb
          · have HE : Keep ((E.take (i + 1)).filter (nrS own.x own.y R65) = (E.take i).filter (nrS own.x own.y R65)) := ⟨by rw [fil_step _ HTI.out, HBB.out, if_neg (by simp), List.append_nil]⟩
            go_wp2_with fail
            go_roundw
            case rel => exact ⟨i + 1, m, aL, cL, HIN.out, rfl, rfl, ⟨by rw [HE.out]; have := HM.out; omega⟩, ⟨by rw [HE.out]; exact HB.out⟩⟩
            case measure => simp [intOf]; have := HIN.out; omega
          · have HE : Keep ((E.take (i + 1)).filter (nrS own.x own.y R65) = (E.take i).filter (nrS own.x own.y R65) ++ [t]) := ⟨by rw [fil_step _ HTI.out, HBB.out, if_pos rfl]⟩
            have HX : Keep (wd.rangeAt gE (i * 5) (snv t)) := ⟨fl_range snv_len (HB.out.rowGet k1m) (by have := HIN.out; omega) i t HTI.out⟩
            obtain ⟨g9, c9, w9, ap, S9⟩ := Sep.appSn t HM.out.1 HB.out (by have := HM.out.2; have := HNE.out; have := HIN.out; omega)
            have AP := Keep.mk ap
            have HBS := Keep.mk (bsN2 t)
            have HS9 : Keep (Sep W w9 (rowV 33 5 (.slice (some ⟨g9, 0, none⟩) (m + 1) c9) (m + 1) (fl snv ((E.take (i + 1)).filter (nrS own.x own.y R65))) :: rowV 33 5 (.slice (some ⟨gE, 0, none⟩) nE cE) nE (fl snv (E)) :: boxA ob (crv own) 26 :: boxA rb zvw 29 :: boxA b4 [.int .u64 tick, vc, vs, iv nx] 37 :: [])) := ⟨by rw [HE.out]; exact S9⟩
            clear ap S9 HB
            go_wp2_with (first
              | (with_reducible show wpList _ _ _ ({ dst := some 59, op := Op.load 33 _, type := _, pos := _, after := _, guard := _ } :: _) _ _
                 refine wpList_load_mid rfl 33 _ rfl _ _ rfl (snv t) _ HX.out hdu.1 hdu.2 info33 ?_)
              | (with_reducible show wpList _ _ _ ({ dst := some 60, op := Op.buildSlice 27 _ _, type := _, pos := _, after := _, guard := _ } :: _) _ _
                 refine wpList_bs_run rfl (.tmp 59) 27 rfl _ rfl (HBS.out _) ?_)
              | (with_reducible show wpList _ _ _ ({ dst := some 61, op := Op.call { callee := Callee.builtin Builtin.append, args := _, argTypes := _ }, type := _, pos := _, after := _, guard := _ } :: _) _ _
                 refine wpList_append_run _ rfl (.tmp 55) (.tmp 60) 27 rfl _ _ rfl rfl AP.out ?_))
            go_roundw
            case rel => exact ⟨i + 1, m + 1, some ⟨g9, 0, none⟩, c9, HIN.out, rfl, rfl, ⟨by rw [HE.out, List.length_append, HM.out.1]; have := HM.out.2; exact ⟨rfl, by omega⟩⟩, HS9⟩
            case measure => simp [intOf]; have := HIN.out; omega
        · have hlt1 : ¬ (i : Int) < (nE : Int) := by omega
          have e : E.take i = E := List.take_of_length_le (by rw [HNE.out.1]; omega)
          rw [e] at HM HB
          replace HB : Keep (Sep W wr (rowV 33 5 (.slice aL m cL) m (fl snv (E.filter (nrS own.x own.y R65))) :: rowV 33 5 (.slice none 0 0) 0 (fl snv []) :: boxA ob (crv own) 26 :: boxA rb zvw 29 :: boxA b4 [.int .u64 tick, vc, vs, iv nx] 37 :: [])) := ⟨Sep.dropM [_, _] [_] (HB.out.nilV 33 5).swap⟩
          replace HM : Keep ((E.filter (nrS own.x own.y R65)).length = m ∧ m ≤ nE) := ⟨by have := HM.out; omega⟩
          clear hlt hi e
          go_wp2_with fail
          obtain ⟨F, hF⟩ : ∃ F, E.filter (nrS own.x own.y R65) = F := ⟨_, rfl⟩
          rw [hF] at HM HB
          have HEE : Keep ((ents LC LS p).filter (nrS own.x own.y R65) = F) := ⟨by rw [HNE.out.2.2]; exact hF⟩
          have HDF : Keep (DK F) := ⟨by rw [← hF]; exact HDE.out.sublist List.filter_sublist⟩
          have HFO : Keep (∀ t ∈ F, I64 t.x ∧ I64 t.y) := ⟨fun t ht => HEO.out t (by rw [← hF] at ht; exact (List.mem_filter.1 ht).1)⟩
          clear hF
          as_aux_lemma =>
            go_loopw [12, 15, 16, 17] (fun u12 u15 u16 u17 wr => ∃ (So Lf : List Sn) (l m : Nat) (aL aS : Option Addr) (cL cS : Nat), u12 = .slice aL l cL ∧ u15 = .slice aS m cS ∧ Keep (Sel (nearer own.x own.y) F So Lf ∧ So.length = m ∧ Lf.length = l ∧ (m : Int) ≤ max sh 0 ∧ l ≤ 2097152) ∧ Keep (Sep W wr (rowV 33 5 (.slice aL l cL) l (fl snv (Lf)) :: rowV 33 5 (.slice aS m cS) m (fl snv (So)) :: boxA ob (crv own) 26 :: boxA rb zvw 29 :: boxA b4 [.int .u64 tick, vc, vs, iv nx] 37 :: []))) (fun u12 _ _ _ _ => lnOf u12)
            case atStart => exact ⟨[], F, m, 0, aL, none, cL, 0, rfl, rfl, ⟨⟨Sel.start _ _, rfl, HM.out.1, by omega, by have := HM.out.2; have := HNE.out; omega⟩⟩, HB⟩
            case round =>
              clear HB HM
              obtain ⟨So, Lf, l, m, aL, aS, cL, cS, rfl, rfl, HS, HB⟩ := hrel
              by_cases hl : 0 < l
              · have hl1 : (0 : Int) < (l : Int) := by omega
                by_cases hms : (m : Int) < sh
                · have hms1 : decide ((m : Int) < sh) = true := decide_eq_true hms
                  obtain ⟨gL, hgL⟩ := row_blk HB.out k0m hl
                  subst hgL
                  have HL0 : Keep (1 ≤ l) := ⟨hl⟩
                  have HMS : Keep ((m : Int) < sh) := ⟨hms⟩
                  have HLB : Keep (l ≤ 4194304) := ⟨by have := HS.out.2.2.2.2; omega⟩
                  have HMB : Keep ((m + 1) * 40 ≤ 140737488355328) := ⟨by have := HSH.out; omega⟩
                  have HDL : Keep (DK Lf) := ⟨HS.out.1.dk HDF.out⟩
                  have HLO : Keep (∀ t ∈ Lf, I64 t.x ∧ I64 t.y) := ⟨fun t ht => HFO.out t (HS.out.1.p.subset (List.mem_append_right _ ht))⟩
                  clear hl
                  go_wp2_with fail
                  as_aux_lemma =>
                    go_loopw [16, 17] (fun u16 u17 wr => ∃ (b i : Nat), b < i ∧ i ≤ l ∧ u16 = iv b ∧ u17 = iv i ∧ Keep (Bs (nearer own.x own.y) Lf b i) ∧ Keep (Sep W wr (rowV 33 5 (.slice (some ⟨gL, 0, none⟩) l cL) l (fl snv (Lf)) :: rowV 33 5 (.slice aS m cS) m (fl snv (So)) :: boxA ob (crv own) 26 :: boxA rb zvw 29 :: boxA b4 [.int .u64 tick, vc, vs, iv nx] 37 :: []))) (fun _ u17 _ => (l - intOf u17).toNat)
                    case atStart => exact ⟨0, 1, Nat.one_pos, HL0.out, rfl, rfl, ⟨Bs.start _ (by rw [HS.out.2.2.1]; exact HL0.out)⟩, HB⟩
                    case round =>
                      clear HB
                      obtain ⟨b, i, hb, hi, rfl, rfl, HBs, HB⟩ := hrel
                      by_cases hlt : i < l
                      · have hlt1 : (i : Int) < (l : Int) := by omega
                        have hb1 : (b : Int) < (l : Int) := by omega
                        have hi0 : (0 : Int) ≤ (i : Int) := by omega
                        have hb0 : (0 : Int) ≤ (b : Int) := by omega
                        have hit : ((i : Nat) : Int).toNat = i := by omega
                        have hbt : ((b : Nat) : Int).toNat = b := by omega
                        have hiw : IntKind.i64.wrap ((i : Int) + 1) = ((i + 1 : Nat) : Int) := by rw [IntKind.wrap_i64]; have := HLB.out; omega
                        obtain ⟨u, hu⟩ : ∃ y, Lf[i]? = some y := ⟨_, List.getElem?_eq_getElem (by rw [HS.out.2.2.1]; exact hlt)⟩
                        obtain ⟨t, ht⟩ : ∃ y, Lf[b]? = some y := ⟨_, List.getElem?_eq_getElem (by rw [HS.out.2.2.1]; omega)⟩
                        have HUI := Keep.mk hu
                        have HTB := Keep.mk ht
                        have HUO := Keep.mk (HLO.out u (List.mem_of_getElem? hu))
                        have HTO := Keep.mk (HLO.out t (List.mem_of_getElem? ht))
                        have HIN : Keep (b < i ∧ i < l) := ⟨⟨hb, hlt⟩⟩
                        obtain ⟨bb, hbb⟩ : ∃ bb, decide ((nearer own.x own.y) u t) = bb := ⟨_, rfl⟩
                        have HBB := Keep.mk hbb
                        clear hu ht hlt hi hb hbb
                        go_wp2_with fail
                        refine region_Y (S := fun w' => Sep W w' (rowV 33 5 (.slice (some ⟨gL, 0, none⟩) l cL) l (fl snv (Lf)) :: rowV 33 5 (.slice aS m cS) m (fl snv (So)) :: boxA ob (crv own) 26 :: boxA rb zvw 29 :: boxA b4 [.int .u64 tick, vc, vs, iv nx] 37 :: [])) [] (by kernel_rfl) ?_
                        obtain ⟨W0, hW0⟩ : ∃ W_, wr.drew = W_ := ⟨_, rfl⟩
                        replace HB := Keep.mk (HB.out.grown (gr_drew _ none))
                        rw [hW0] at HB ⊢
                        clear hW0
                        have hHeld : (fun w' => Sep W w' (rowV 33 5 (.slice (some ⟨gL, 0, none⟩) l cL) l (fl snv (Lf)) :: rowV 33 5 (.slice aS m cS) m (fl snv (So)) :: boxA ob (crv own) 26 :: boxA rb zvw 29 :: boxA b4 [.int .u64 tick, vc, vs, iv nx] 37 :: [])) W0 := HB.out
                        refine yp (i := 0) (v := ?_) rfl (Or.inl ⟨by rfl, ?_⟩) ?_
                        rotate_left
                        · (intro w hSw; go_simp; first | done | (with_reducible rfl))
                        simp only [Act.put, A1, A3, A4, A5, A6]
                        refine yt (i := 1) (v := .agg ([iv own.x, iv own.y]).toArray) rfl (yieldsIf_load_mid (by rfl) 24 _ rfl _ _ rfl _ _ (fun w hSw => xy_box (hSw.boxGet k2m)) hdw.1 hdw.2 info24) (by assumption) ?_
                        simp only [Act.put, A1, A2, A3, A4, A5, A6]
                        refine yp (i := 2) (v := ?_) rfl (Or.inl ⟨by rfl, ?_⟩) ?_
                        rotate_left
                        · (intro w hSw; go_simp; first | done | (with_reducible rfl))
                        simp only [Act.put, A1, A2, A3, A4, A5, A6]
                        refine yp (i := 3) (v := ?_) rfl (Or.inl ⟨by rfl, ?_⟩) ?_
                        rotate_left
                        · (intro w hSw; go_simp; first | done | (with_reducible rfl))
                        simp only [Act.put, A1, A2, A3, A4, A5, A6]
                        refine yp (i := 4) (v := ?_) rfl (Or.inl ⟨by rfl, ?_⟩) ?_
                        rotate_left
                        · (intro w hSw; go_simp; first | done | (with_reducible rfl))
                        simp only [Act.put, A1, A2, A3, A4, A5, A6]
                        refine yt (i := 5) (v := .agg (snv u).toArray) rfl (yieldsIf_load_mid (by rfl) 33 _ rfl _ _ rfl _ _ (fun w hSw => fl_range snv_len (hSw.rowGet k0m) (by omega) i u HUI.out) hdu.1 hdu.2 info33) (by assumption) ?_
                        simp only [Act.put, A1, A2, A3, A4, A5, A6]
                        refine yp (i := 6) (v := ?_) rfl (Or.inl ⟨by rfl, ?_⟩) ?_
                        rotate_left
                        · (intro w hSw; go_simp; first | done | (with_reducible rfl))
                        simp only [Act.put, A1, A2, A3, A4, A5, A6]
                        refine yp (i := 7) (v := ?_) rfl (Or.inl ⟨by rfl, ?_⟩) ?_
                        rotate_left
                        · (intro w hSw; go_simp; first | done | (with_reducible rfl))
                        simp only [Act.put, A1, A2, A3, A4, A5, A6]
                        refine yp (i := 8) (v := ?_) rfl (Or.inl ⟨by rfl, ?_⟩) ?_
                        rotate_left
                        · (intro w hSw; go_simp; first | done | (with_reducible rfl))
                        simp only [Act.put, A1, A2, A3, A4, A5, A6]
                        refine yt (i := 9) (v := .agg (snv t).toArray) rfl (yieldsIf_load_mid (by rfl) 33 _ rfl _ _ rfl _ _ (fun w hSw => fl_range snv_len (hSw.rowGet k0m) (by omega) b t HTB.out) hdu.1 hdu.2 info33) (by assumption) ?_
                        simp only [Act.put, A1, A2, A3, A4, A5, A6]
                        refine wpAnyY_one (i := 10) (by kernel_rfl) rfl (fun K hK => ?_)
                        go_simp
                        refine (rnea_c own.x own.y u t HOC.out.x HOC.out.y HUO.out HTO.out _).mono ?_
                        rintro e wd ⟨rfl, gd⟩
                        rw [HBB.out]
                        replace HB := Keep.mk (HB.out.grown gd)
                        refine hK.out _ _ (fun h => h.grown gd) ?_
                        clear hK K gd hHeld
                        refine wpAnyY_done (by kernel_rfl) ?_ _
                        cases bb
                        · have HB2 : Keep (Bs (nearer own.x own.y) Lf b (i + 1)) := ⟨Bs.noN HDL.out HBs.out HIN.out.1 HTB.out HUI.out HBB.out⟩
                          go_wp2_with fail
                          go_roundw
                          case rel => exact ⟨b, i + 1, Nat.lt_succ_of_lt HIN.out.1, HIN.out.2, rfl, rfl, HB2, HB⟩
                          case measure => simp [intOf]; have := HIN.out; omega
                        · have HB2 : Keep (Bs (nearer own.x own.y) Lf i (i + 1)) := ⟨Bs.yesN HBs.out HTB.out HUI.out HBB.out⟩
                          go_wp2_with fail
                          go_roundw
                          case rel => exact ⟨i, i + 1, Nat.lt_succ_self _, HIN.out.2, rfl, rfl, HB2, HB⟩
                          case measure => simp [intOf]; have := HIN.out; omega
                      · have hlt1 : ¬ (i : Int) < (l : Int) := by omega
                        obtain rfl : i = l := by omega
                        have hbi : (b : Int) < (i : Int) := by omega
                        have hb0 : (0 : Int) ≤ (b : Int) := by omega
                        have hbt : ((b : Nat) : Int).toNat = b := by omega
                        obtain ⟨t, ht⟩ : ∃ y, Lf[b]? = some y := ⟨_, List.getElem?_eq_getElem (by rw [HS.out.2.2.1]; exact hb)⟩
                        have HTB := Keep.mk ht
                        have HBI : Keep (b < i) := ⟨hb⟩
                        have HX : Keep (wr.rangeAt gL (b * 5) (snv t)) := ⟨fl_range snv_len (HB.out.rowGet k0m) (by omega) b t ht⟩
                        obtain ⟨g9, c9, w9, ap, S9⟩ := Sep.appSn t HS.out.2.1 HB.out.swap (by have := HMB.out; omega)
                        have AP := Keep.mk ap
                        have HBS := Keep.mk (bsN2 t)
                        have HS9 := Keep.mk S9
                        have HSel := Keep.mk (HS.out.1.step HTB.out (by rw [HS.out.2.2.1]; exact HBs.out))
                        clear ap S9 HB ht hlt hi
                        go_wp2_with (first
                          | (with_reducible show wpList _ _ _ ({ dst := some 93, op := Op.load 33 _, type := _, pos := _, after := _, guard := _ } :: _) _ _
                             refine wpList_load_mid rfl 33 _ rfl _ _ rfl (snv t) _ HX.out hdu.1 hdu.2 info33 ?_)
                          | (with_reducible show wpList _ _ _ ({ dst := some 94, op := Op.buildSlice 27 _ _, type := _, pos := _, after := _, guard := _ } :: _) _ _
                             refine wpList_bs_run rfl (.tmp 93) 27 rfl _ rfl (HBS.out _) ?_)
                          | (with_reducible show wpList _ _ _ ({ dst := some 95, op := Op.call { callee := Callee.builtin Builtin.append, args := _, argTypes := _ }, type := _, pos := _, after := _, guard := _ } :: _) _ _
                             refine wpList_append_run _ rfl (.tmp 89) (.tmp 94) 27 rfl _ _ rfl rfl AP.out ?_))
                        refine (rwo_c w9 (.slice (some ⟨gL, 0, none⟩) i cL) Lf b (Ls.own (e := 33) snv_len HS9.out (by rw [HS.out.2.2.1]; exact k1m)) (by rw [HS.out.2.2.1]; exact HBI.out) (by rw [HS.out.2.2.1]; have := HLB.out; omega)).mono ?_
                        rintro e wd ⟨v9, rfl, S10⟩
                        obtain ⟨a9, c10, rfl⟩ := own_slice (S10.rowGet k0m)
                        obtain ⟨l9, hl9⟩ : ∃ n, (Lf.eraseIdx b).length = n := ⟨_, rfl⟩
                        have HL9 : Keep ((Lf.eraseIdx b).length = l9 ∧ l9 < i) := ⟨⟨hl9, by rw [← hl9, List.length_eraseIdx, HS.out.2.2.1, if_pos HBI.out]; have := HBI.out; omega⟩⟩
                        rw [hl9] at S10 ⊢
                        have HBn : Keep (Sep W wd (rowV 33 5 (.slice a9 l9 c10) l9 (fl snv (Lf.eraseIdx b)) :: rowV 33 5 (.slice (some ⟨g9, 0, none⟩) (m + 1) c9) (m + 1) (fl snv (So ++ [t])) :: boxA ob (crv own) 26 :: boxA rb zvw 29 :: boxA b4 [.int .u64 tick, vc, vs, iv nx] 37 :: [])) := ⟨Sep.dropM [_, _] [_] (HS9.out.join S10)⟩
                        clear HS9 S10 hl9 hbi hb0 hbt
                        go_wp2_with fail
                        go_roundw
                        case rel => exact ⟨So ++ [t], Lf.eraseIdx b, l9, m + 1, a9, some ⟨g9, 0, none⟩, c10, c9, rfl, rfl, ⟨⟨HSel.out, by rw [List.length_append, HS.out.2.1]; rfl, HL9.out.1, by have := HMS.out; omega, by have := HL9.out; have := HS.out.2.2.2; omega⟩⟩, HBn⟩
                        case measure => simp [lnOf]; have := HL9.out; omega

                · have hms1 : decide ((m : Int) < sh) = false := decide_eq_false hms
                  have HS2 : Keep (So.length = m ∧ m ≤ 32 ∧ DK So ∧ ∃ L0, Sel (nearer own.x own.y) ((ents LC LS p).filter (nrS own.x own.y R65)) So L0 ∧ So.length ≤ (kpZ sho 32).toNat ∧ (L0 = [] ∨ So.length = (kpZ sho 32).toNat)) := ⟨by
                    obtain ⟨q1, q2, q3, q4, q5⟩ := HS.out
                    have hz := HSH.out
                    rw [HEE.out]
                    exact ⟨q2, by omega, q1.dk2 HDF.out, Lf, q1, by omega, .inr (by omega)⟩⟩
                  replace HB : Keep (Sep W wr (rowV 33 5 (.slice aS m cS) m (fl snv (So)) :: rowV 33 5 (.slice none 0 0) 0 (fl snv []) :: boxA ob (crv own) 26 :: boxA rb zvw 29 :: boxA b4 [.int .u64 tick, vc, vs, iv nx] 37 :: [])) := ⟨(HB.out.tail.nilV 33 5).swap⟩
                  obtain ⟨S2, hS2⟩ : ∃ S, S = So := ⟨_, rfl⟩
                  rw [← hS2] at HS2 HB
                  clear hS2 HS
                  go_wp2_with fail
                  as_aux_lemma =>
                    go_loopw [15, 18, 19, 20] (fun u15 u18 u19 u20 wr => ∃ (So Lf : List Sn) (l m : Nat) (aL aS : Option Addr) (cL cS : Nat), u15 = .slice aL l cL ∧ u18 = .slice aS m cS ∧ Keep (Sel tld S2 So Lf ∧ So.length = m ∧ Lf.length = l ∧ m + l ≤ 32) ∧ Keep (Sep W wr (rowV 33 5 (.slice aL l cL) l (fl snv (Lf)) :: rowV 33 5 (.slice aS m cS) m (fl snv (So)) :: boxA ob (crv own) 26 :: boxA rb zvw 29 :: boxA b4 [.int .u64 tick, vc, vs, iv nx] 37 :: []))) (fun u15 _ _ _ _ => lnOf u15)
                    case atStart => exact ⟨[], S2, m, 0, aS, none, cS, 0, rfl, rfl, ⟨⟨Sel.start _ _, rfl, HS2.out.1, by have := HS2.out; omega⟩⟩, HB⟩
                    case round =>
                      clear HB
                      obtain ⟨So, Lf, l, m, aL, aS, cL, cS, rfl, rfl, HS, HB⟩ := hrel
                      by_cases hl : 0 < l
                      · have hl1 : (0 : Int) < (l : Int) := by omega
                        obtain ⟨gL, hgL⟩ := row_blk HB.out k0m hl
                        subst hgL
                        have HL0 : Keep (1 ≤ l) := ⟨hl⟩
                        have HLB : Keep (l ≤ 4194304) := ⟨by have := HS.out.2.2.2; omega⟩
                        have HMB : Keep ((m + 1) * 40 ≤ 140737488355328) := ⟨by have := HS.out.2.2.2; omega⟩
                        have HDL : Keep (DK Lf) := ⟨HS.out.1.dk HS2.out.2.2.1⟩
                        have HLO : Keep (∀ t ∈ Lf, True) := ⟨fun _ _ => trivial⟩
                        have hl3 : decide (0 < l) = true := decide_eq_true hl
                        go_wp2_with fail
                        clear hl hl3
                        as_aux_lemma =>
                          go_loopw [19, 20] (fun u19 u20 wr => ∃ (b i : Nat), b < i ∧ i ≤ l ∧ u19 = iv b ∧ u20 = iv i ∧ Keep (Bs (tld) Lf b i) ∧ Keep (Sep W wr (rowV 33 5 (.slice (some ⟨gL, 0, none⟩) l cL) l (fl snv (Lf)) :: rowV 33 5 (.slice aS m cS) m (fl snv (So)) :: boxA ob (crv own) 26 :: boxA rb zvw 29 :: boxA b4 [.int .u64 tick, vc, vs, iv nx] 37 :: []))) (fun _ u20 _ => (l - intOf u20).toNat)
                          case atStart => exact ⟨0, 1, Nat.one_pos, HL0.out, rfl, rfl, ⟨Bs.start _ (by rw [HS.out.2.2.1]; exact HL0.out)⟩, HB⟩
                          case round =>
                            clear HB
                            obtain ⟨b, i, hb, hi, rfl, rfl, HBs, HB⟩ := hrel
                            by_cases hlt : i < l
                            · have hlt1 : (i : Int) < (l : Int) := by omega
                              have hb1 : (b : Int) < (l : Int) := by omega
                              have hi0 : (0 : Int) ≤ (i : Int) := by omega
                              have hb0 : (0 : Int) ≤ (b : Int) := by omega
                              have hit : ((i : Nat) : Int).toNat = i := by omega
                              have hbt : ((b : Nat) : Int).toNat = b := by omega
                              have hiw : IntKind.i64.wrap ((i : Int) + 1) = ((i + 1 : Nat) : Int) := by rw [IntKind.wrap_i64]; have := HLB.out; omega
                              obtain ⟨u, hu⟩ : ∃ y, Lf[i]? = some y := ⟨_, List.getElem?_eq_getElem (by rw [HS.out.2.2.1]; exact hlt)⟩
                              obtain ⟨t, ht⟩ : ∃ y, Lf[b]? = some y := ⟨_, List.getElem?_eq_getElem (by rw [HS.out.2.2.1]; omega)⟩
                              have HUI := Keep.mk hu
                              have HTB := Keep.mk ht
                              have HUO := Keep.mk (HLO.out u (List.mem_of_getElem? hu))
                              have HTO := Keep.mk (HLO.out t (List.mem_of_getElem? ht))
                              have HIN : Keep (b < i ∧ i < l) := ⟨⟨hb, hlt⟩⟩
                              obtain ⟨bb, hbb⟩ : ∃ bb, decide ((tld) u t) = bb := ⟨_, rfl⟩
                              have HBB := Keep.mk hbb
                              clear hu ht hlt hi hb hbb
                              go_wp2_with fail
                              refine region_Y (S := fun w' => Sep W w' (rowV 33 5 (.slice (some ⟨gL, 0, none⟩) l cL) l (fl snv (Lf)) :: rowV 33 5 (.slice aS m cS) m (fl snv (So)) :: boxA ob (crv own) 26 :: boxA rb zvw 29 :: boxA b4 [.int .u64 tick, vc, vs, iv nx] 37 :: [])) [] (by kernel_rfl) ?_
                              obtain ⟨W0, hW0⟩ : ∃ W_, wr.drew = W_ := ⟨_, rfl⟩
                              replace HB := Keep.mk (HB.out.grown (gr_drew _ none))
                              rw [hW0] at HB ⊢
                              clear hW0
                              have hHeld : (fun w' => Sep W w' (rowV 33 5 (.slice (some ⟨gL, 0, none⟩) l cL) l (fl snv (Lf)) :: rowV 33 5 (.slice aS m cS) m (fl snv (So)) :: boxA ob (crv own) 26 :: boxA rb zvw 29 :: boxA b4 [.int .u64 tick, vc, vs, iv nx] 37 :: [])) W0 := HB.out
                              refine yp (i := 0) (v := ?_) rfl (Or.inl ⟨by rfl, ?_⟩) ?_
                              rotate_left
                              · (intro w hSw; go_simp; first | done | (with_reducible rfl))
                              simp only [Act.put, A1, A3, A4, A5, A6]
                              refine yp (i := 1) (v := ?_) rfl (Or.inl ⟨by rfl, ?_⟩) ?_
                              rotate_left
                              · (intro w hSw; go_simp; first | done | (with_reducible rfl))
                              simp only [Act.put, A1, A2, A3, A4, A5, A6]
                              refine yp (i := 2) (v := ?_) rfl (Or.inl ⟨by rfl, ?_⟩) ?_
                              rotate_left
                              · (intro w hSw; go_simp; first | done | (with_reducible rfl))
                              simp only [Act.put, A1, A2, A3, A4, A5, A6]
                              refine yt (i := 3) (v := .agg (snv u).toArray) rfl (yieldsIf_load_mid (by rfl) 33 _ rfl _ _ rfl _ _ (fun w hSw => fl_range snv_len (hSw.rowGet k0m) (by omega) i u HUI.out) hdu.1 hdu.2 info33) (by assumption) ?_
                              simp only [Act.put, A1, A2, A3, A4, A5, A6]
                              refine yp (i := 4) (v := ?_) rfl (Or.inl ⟨by rfl, ?_⟩) ?_
                              rotate_left
                              · (intro w hSw; go_simp; first | done | (with_reducible rfl))
                              simp only [Act.put, A1, A2, A3, A4, A5, A6]
                              refine yp (i := 5) (v := ?_) rfl (Or.inl ⟨by rfl, ?_⟩) ?_
                              rotate_left
                              · (intro w hSw; go_simp; first | done | (with_reducible rfl))
                              simp only [Act.put, A1, A2, A3, A4, A5, A6]
                              refine yp (i := 6) (v := ?_) rfl (Or.inl ⟨by rfl, ?_⟩) ?_
                              rotate_left
                              · (intro w hSw; go_simp; first | done | (with_reducible rfl))
                              simp only [Act.put, A1, A2, A3, A4, A5, A6]
                              refine yt (i := 7) (v := .agg (snv t).toArray) rfl (yieldsIf_load_mid (by rfl) 33 _ rfl _ _ rfl _ _ (fun w hSw => fl_range snv_len (hSw.rowGet k0m) (by omega) b t HTB.out) hdu.1 hdu.2 info33) (by assumption) ?_
                              simp only [Act.put, A1, A2, A3, A4, A5, A6]
                              refine wpAnyY_one (i := 8) (by kernel_rfl) rfl (fun K hK => ?_)
                              go_simp
                              refine (rahd_c u t _).mono ?_
                              rintro e wd ⟨rfl, gd⟩
                              rw [HBB.out]
                              replace HB := Keep.mk (HB.out.grown gd)
                              refine hK.out _ _ (fun h => h.grown gd) ?_
                              clear hK K gd hHeld
                              refine wpAnyY_done (by kernel_rfl) ?_ _
                              cases bb
                              · have HB2 : Keep (Bs (tld) Lf b (i + 1)) := ⟨Bs.noT HDL.out HBs.out HIN.out.1 HTB.out HUI.out HBB.out⟩
                                go_wp2_with fail
                                go_roundw
                                case rel => exact ⟨b, i + 1, Nat.lt_succ_of_lt HIN.out.1, HIN.out.2, rfl, rfl, HB2, HB⟩
                                case measure => simp [intOf]; have := HIN.out; omega
                              · have HB2 : Keep (Bs (tld) Lf i (i + 1)) := ⟨Bs.yesT HBs.out HTB.out HUI.out HBB.out⟩
                                go_wp2_with fail
                                go_roundw
                                case rel => exact ⟨i, i + 1, Nat.lt_succ_self _, HIN.out.2, rfl, rfl, HB2, HB⟩
                                case measure => simp [intOf]; have := HIN.out; omega
                            · have hlt1 : ¬ (i : Int) < (l : Int) := by omega
                              obtain rfl : i = l := by omega
                              have hbi : (b : Int) < (i : Int) := by omega
                              have hb0 : (0 : Int) ≤ (b : Int) := by omega
                              have hbt : ((b : Nat) : Int).toNat = b := by omega
                              obtain ⟨t, ht⟩ : ∃ y, Lf[b]? = some y := ⟨_, List.getElem?_eq_getElem (by rw [HS.out.2.2.1]; exact hb)⟩
                              have HTB := Keep.mk ht
                              have HBI : Keep (b < i) := ⟨hb⟩
                              have HX : Keep (wr.rangeAt gL (b * 5) (snv t)) := ⟨fl_range snv_len (HB.out.rowGet k0m) (by omega) b t ht⟩
                              obtain ⟨g9, c9, w9, ap, S9⟩ := Sep.appSn t HS.out.2.1 HB.out.swap (by have := HMB.out; omega)
                              have AP := Keep.mk ap
                              have HBS := Keep.mk (bsN2 t)
                              have HS9 := Keep.mk S9
                              have HSel := Keep.mk (HS.out.1.step HTB.out (by rw [HS.out.2.2.1]; exact HBs.out))
                              clear ap S9 HB ht hlt hi
                              go_wp2_with (first
                                | (with_reducible show wpList _ _ _ ({ dst := some 122, op := Op.load 33 _, type := _, pos := _, after := _, guard := _ } :: _) _ _
                                   refine wpList_load_mid rfl 33 _ rfl _ _ rfl (snv t) _ HX.out hdu.1 hdu.2 info33 ?_)
                                | (with_reducible show wpList _ _ _ ({ dst := some 123, op := Op.buildSlice 27 _ _, type := _, pos := _, after := _, guard := _ } :: _) _ _
                                   refine wpList_bs_run rfl (.tmp 122) 27 rfl _ rfl (HBS.out _) ?_)
                                | (with_reducible show wpList _ _ _ ({ dst := some 124, op := Op.call { callee := Callee.builtin Builtin.append, args := _, argTypes := _ }, type := _, pos := _, after := _, guard := _ } :: _) _ _
                                   refine wpList_append_run _ rfl (.tmp 118) (.tmp 123) 27 rfl _ _ rfl rfl AP.out ?_))
                              refine (rwo_c w9 (.slice (some ⟨gL, 0, none⟩) i cL) Lf b (Ls.own (e := 33) snv_len HS9.out (by rw [HS.out.2.2.1]; exact k1m)) (by rw [HS.out.2.2.1]; exact HBI.out) (by rw [HS.out.2.2.1]; have := HLB.out; omega)).mono ?_
                              rintro e wd ⟨v9, rfl, S10⟩
                              obtain ⟨a9, c10, rfl⟩ := own_slice (S10.rowGet k0m)
                              obtain ⟨l9, hl9⟩ : ∃ n, (Lf.eraseIdx b).length = n := ⟨_, rfl⟩
                              have HL9 : Keep ((Lf.eraseIdx b).length = l9 ∧ l9 < i) := ⟨⟨hl9, by rw [← hl9, List.length_eraseIdx, HS.out.2.2.1, if_pos HBI.out]; have := HBI.out; omega⟩⟩
                              rw [hl9] at S10 ⊢
                              have HBn : Keep (Sep W wd (rowV 33 5 (.slice a9 l9 c10) l9 (fl snv (Lf.eraseIdx b)) :: rowV 33 5 (.slice (some ⟨g9, 0, none⟩) (m + 1) c9) (m + 1) (fl snv (So ++ [t])) :: boxA ob (crv own) 26 :: boxA rb zvw 29 :: boxA b4 [.int .u64 tick, vc, vs, iv nx] 37 :: [])) := ⟨Sep.dropM [_, _] [_] (HS9.out.join S10)⟩
                              clear HS9 S10 hl9 hbi hb0 hbt
                              go_wp2_with fail
                              go_roundw
                              case rel => exact ⟨So ++ [t], Lf.eraseIdx b, l9, m + 1, a9, some ⟨g9, 0, none⟩, c10, c9, rfl, rfl, ⟨⟨HSel.out, by rw [List.length_append, HS.out.2.1]; rfl, HL9.out.1, by have := HL9.out; have := HS.out.2.2.2; omega⟩⟩, HBn⟩
                              case measure => simp [lnOf]; have := HL9.out; omega
                      · have hl1 : ¬ (0 : Int) < (l : Int) := by omega
                        obtain rfl : l = 0 := by omega
                        obtain rfl : Lf = [] := List.eq_nil_of_length_eq_zero HS.out.2.2.1
                        have HTD : Keep (Told (ents LC LS p) p own.x own.y (65536 * kpZ rad 1024) (kpZ sho 32).toNat So) := ⟨by
                          obtain ⟨L0, q1, q2, q3⟩ := HS2.out.2.2.2
                          rw [← HR65.out]
                          exact sel_told (ents_not LC LS p) q1 q2 q3 HS.out.1⟩
                        have t0 := (HB.out.boxGet k4m).cellv 0 _ rfl
                        have HRO := Keep.mk ((HB.out.boxGet k2m).range)
                        have HBU := Keep.mk (built29 tick own (.slice aS m cS) ⟨_, _, _, rfl⟩)
                        have HON := Keep.mk (vwv_one tick own (.slice aS m cS) ⟨_, _, _, rfl⟩)
                        clear hl
                        go_wp2_with (first
                          | (with_reducible show wpList _ _ _ ({ dst := some 130, op := Op.load 26 _, type := _, pos := _, after := _, guard := _ } :: _) _ _
                             refine wpList_load_mid rfl 26 _ rfl _ _ rfl (crv own) _ HRO.out hdc.1 hdc.2 info26 ?_)
                          | (with_reducible show wpList _ _ _ ({ dst := some 132, op := Op.build 29 _, type := _, pos := _, after := _, guard := _ } :: _) _ _
                             refine wpList_build rfl 29 _ rfl (vwv tick own (.slice aS m cS)).toArray ((congrArg (Tryz.prog.built 29) (by first | (simp only [List.map_toArray, List.map_cons, List.map_nil, Act.eval]; done) | (simp only [List.map_toArray, List.map_cons, List.map_nil, Act.eval]; with_reducible rfl) | (simp only [List.map_toArray, List.map_cons, List.map_nil, Act.eval]; rfl))).trans HBU.out) ?_
                             simp only [Act.put, List.setIfInBounds_toArray, List.set_cons_zero, List.set_cons_succ])
                          | (with_reducible show wpList _ _ _ ({ dst := _, op := Op.store 29 _ _, type := _, pos := _, after := _, guard := _ } :: _) _ _
                             refine store_at _ rb 0 zvw (vwv tick own (.slice aS m cS)) 29 29 rfl rfl rfl rfl (HB.out.boxGet k3m) (Nat.le_refl _) info29 HON.out ?_
                             intro w6 hS6 g6
                             have S6 := hS6 _ _ (fr1 [_, _, _] HB.out)
                             rw [over_all zvw (vwv tick own (.slice aS m cS)) rfl] at S6
                             have HS6 := Keep.mk S6
                             clear S6 hS6 g6))
                        refine ret_ct rfl rfl (HS6.out.boxGet k0m) hdv.1 hdv.2 info29 rfl ?_
                        exact ⟨tick, own, aS, m, cS, So, 0, rfl, HS.out.2.1, by have := HS.out.2.2.2; omega, Sep.dropM (l := []) [_] [_, _] HS6.out.tail.tail, .inr ⟨own, HFD.out, rfl, rfl, rfl, HTD.out⟩⟩
              · have hl1 : ¬ (0 : Int) < (l : Int) := by omega
                obtain rfl : l = 0 := by omega
                clear hl
                have HS2 : Keep (So.length = m ∧ m ≤ 32 ∧ DK So ∧ ∃ L0, Sel (nearer own.x own.y) ((ents LC LS p).filter (nrS own.x own.y R65)) So L0 ∧ So.length ≤ (kpZ sho 32).toNat ∧ (L0 = [] ∨ So.length = (kpZ sho 32).toNat)) := ⟨by
                  obtain ⟨q1, q2, q3, q4, q5⟩ := HS.out
                  have hz := HSH.out
                  rw [HEE.out]
                  exact ⟨q2, by omega, q1.dk2 HDF.out, Lf, q1, by omega, .inl (List.eq_nil_of_length_eq_zero q3)⟩⟩
                replace HB : Keep (Sep W wr (rowV 33 5 (.slice aS m cS) m (fl snv (So)) :: rowV 33 5 (.slice none 0 0) 0 (fl snv []) :: boxA ob (crv own) 26 :: boxA rb zvw 29 :: boxA b4 [.int .u64 tick, vc, vs, iv nx] 37 :: [])) := ⟨(HB.out.tail.nilV 33 5).swap⟩
                obtain ⟨S2, hS2⟩ : ∃ S, S = So := ⟨_, rfl⟩
                rw [← hS2] at HS2 HB
                clear hS2 HS
                go_wp2_with fail
                as_aux_lemma =>
                  go_loopw [15, 18, 19, 20] (fun u15 u18 u19 u20 wr => ∃ (So Lf : List Sn) (l m : Nat) (aL aS : Option Addr) (cL cS : Nat), u15 = .slice aL l cL ∧ u18 = .slice aS m cS ∧ Keep (Sel tld S2 So Lf ∧ So.length = m ∧ Lf.length = l ∧ m + l ≤ 32) ∧ Keep (Sep W wr (rowV 33 5 (.slice aL l cL) l (fl snv (Lf)) :: rowV 33 5 (.slice aS m cS) m (fl snv (So)) :: boxA ob (crv own) 26 :: boxA rb zvw 29 :: boxA b4 [.int .u64 tick, vc, vs, iv nx] 37 :: []))) (fun u15 _ _ _ _ => lnOf u15)
                  case atStart => exact ⟨[], S2, m, 0, aS, none, cS, 0, rfl, rfl, ⟨⟨Sel.start _ _, rfl, HS2.out.1, by have := HS2.out; omega⟩⟩, HB⟩
                  case round =>
                    clear HB
                    obtain ⟨So, Lf, l, m, aL, aS, cL, cS, rfl, rfl, HS, HB⟩ := hrel
                    by_cases hl : 0 < l
                    · have hl1 : (0 : Int) < (l : Int) := by omega
                      obtain ⟨gL, hgL⟩ := row_blk HB.out k0m hl
                      subst hgL
                      have HL0 : Keep (1 ≤ l) := ⟨hl⟩
                      have HLB : Keep (l ≤ 4194304) := ⟨by have := HS.out.2.2.2; omega⟩
                      have HMB : Keep ((m + 1) * 40 ≤ 140737488355328) := ⟨by have := HS.out.2.2.2; omega⟩
                      have HDL : Keep (DK Lf) := ⟨HS.out.1.dk HS2.out.2.2.1⟩
                      have HLO : Keep (∀ t ∈ Lf, True) := ⟨fun _ _ => trivial⟩
                      have hl3 : decide (0 < l) = true := decide_eq_true hl
                      go_wp2_with fail
                      clear hl hl3
                      as_aux_lemma =>
                        go_loopw [19, 20] (fun u19 u20 wr => ∃ (b i : Nat), b < i ∧ i ≤ l ∧ u19 = iv b ∧ u20 = iv i ∧ Keep (Bs (tld) Lf b i) ∧ Keep (Sep W wr (rowV 33 5 (.slice (some ⟨gL, 0, none⟩) l cL) l (fl snv (Lf)) :: rowV 33 5 (.slice aS m cS) m (fl snv (So)) :: boxA ob (crv own) 26 :: boxA rb zvw 29 :: boxA b4 [.int .u64 tick, vc, vs, iv nx] 37 :: []))) (fun _ u20 _ => (l - intOf u20).toNat)
                        case atStart => exact ⟨0, 1, Nat.one_pos, HL0.out, rfl, rfl, ⟨Bs.start _ (by rw [HS.out.2.2.1]; exact HL0.out)⟩, HB⟩
                        case round =>
                          clear HB
                          obtain ⟨b, i, hb, hi, rfl, rfl, HBs, HB⟩ := hrel
                          by_cases hlt : i < l
                          · have hlt1 : (i : Int) < (l : Int) := by omega
                            have hb1 : (b : Int) < (l : Int) := by omega
                            have hi0 : (0 : Int) ≤ (i : Int) := by omega
                            have hb0 : (0 : Int) ≤ (b : Int) := by omega
                            have hit : ((i : Nat) : Int).toNat = i := by omega
                            have hbt : ((b : Nat) : Int).toNat = b := by omega
                            have hiw : IntKind.i64.wrap ((i : Int) + 1) = ((i + 1 : Nat) : Int) := by rw [IntKind.wrap_i64]; have := HLB.out; omega
                            obtain ⟨u, hu⟩ : ∃ y, Lf[i]? = some y := ⟨_, List.getElem?_eq_getElem (by rw [HS.out.2.2.1]; exact hlt)⟩
                            obtain ⟨t, ht⟩ : ∃ y, Lf[b]? = some y := ⟨_, List.getElem?_eq_getElem (by rw [HS.out.2.2.1]; omega)⟩
                            have HUI := Keep.mk hu
                            have HTB := Keep.mk ht
                            have HUO := Keep.mk (HLO.out u (List.mem_of_getElem? hu))
                            have HTO := Keep.mk (HLO.out t (List.mem_of_getElem? ht))
                            have HIN : Keep (b < i ∧ i < l) := ⟨⟨hb, hlt⟩⟩
                            obtain ⟨bb, hbb⟩ : ∃ bb, decide ((tld) u t) = bb := ⟨_, rfl⟩
                            have HBB := Keep.mk hbb
                            clear hu ht hlt hi hb hbb
                            go_wp2_with fail
                            refine region_Y (S := fun w' => Sep W w' (rowV 33 5 (.slice (some ⟨gL, 0, none⟩) l cL) l (fl snv (Lf)) :: rowV 33 5 (.slice aS m cS) m (fl snv (So)) :: boxA ob (crv own) 26 :: boxA rb zvw 29 :: boxA b4 [.int .u64 tick, vc, vs, iv nx] 37 :: [])) [] (by kernel_rfl) ?_
                            obtain ⟨W0, hW0⟩ : ∃ W_, wr.drew = W_ := ⟨_, rfl⟩
                            replace HB := Keep.mk (HB.out.grown (gr_drew _ none))
                            rw [hW0] at HB ⊢
                            clear hW0
                            have hHeld : (fun w' => Sep W w' (rowV 33 5 (.slice (some ⟨gL, 0, none⟩) l cL) l (fl snv (Lf)) :: rowV 33 5 (.slice aS m cS) m (fl snv (So)) :: boxA ob (crv own) 26 :: boxA rb zvw 29 :: boxA b4 [.int .u64 tick, vc, vs, iv nx] 37 :: [])) W0 := HB.out
                            refine yp (i := 0) (v := ?_) rfl (Or.inl ⟨by rfl, ?_⟩) ?_
                            rotate_left
                            · (intro w hSw; go_simp; first | done | (with_reducible rfl))
                            simp only [Act.put, A1, A3, A4, A5, A6]
                            refine yp (i := 1) (v := ?_) rfl (Or.inl ⟨by rfl, ?_⟩) ?_
                            rotate_left
                            · (intro w hSw; go_simp; first | done | (with_reducible rfl))
                            simp only [Act.put, A1, A2, A3, A4, A5, A6]
                            refine yp (i := 2) (v := ?_) rfl (Or.inl ⟨by rfl, ?_⟩) ?_
                            rotate_left
                            · (intro w hSw; go_simp; first | done | (with_reducible rfl))
                            simp only [Act.put, A1, A2, A3, A4, A5, A6]
                            refine yt (i := 3) (v := .agg (snv u).toArray) rfl (yieldsIf_load_mid (by rfl) 33 _ rfl _ _ rfl _ _ (fun w hSw => fl_range snv_len (hSw.rowGet k0m) (by omega) i u HUI.out) hdu.1 hdu.2 info33) (by assumption) ?_
                            simp only [Act.put, A1, A2, A3, A4, A5, A6]
                            refine yp (i := 4) (v := ?_) rfl (Or.inl ⟨by rfl, ?_⟩) ?_
                            rotate_left
                            · (intro w hSw; go_simp; first | done | (with_reducible rfl))
                            simp only [Act.put, A1, A2, A3, A4, A5, A6]
                            refine yp (i := 5) (v := ?_) rfl (Or.inl ⟨by rfl, ?_⟩) ?_
                            rotate_left
                            · (intro w hSw; go_simp; first | done | (with_reducible rfl))
                            simp only [Act.put, A1, A2, A3, A4, A5, A6]
                            refine yp (i := 6) (v := ?_) rfl (Or.inl ⟨by rfl, ?_⟩) ?_
                            rotate_left
                            · (intro w hSw; go_simp; first | done | (with_reducible rfl))
                            simp only [Act.put, A1, A2, A3, A4, A5, A6]
                            refine yt (i := 7) (v := .agg (snv t).toArray) rfl (yieldsIf_load_mid (by rfl) 33 _ rfl _ _ rfl _ _ (fun w hSw => fl_range snv_len (hSw.rowGet k0m) (by omega) b t HTB.out) hdu.1 hdu.2 info33) (by assumption) ?_
                            simp only [Act.put, A1, A2, A3, A4, A5, A6]
                            refine wpAnyY_one (i := 8) (by kernel_rfl) rfl (fun K hK => ?_)
                            go_simp
                            refine (rahd_c u t _).mono ?_
                            rintro e wd ⟨rfl, gd⟩
                            rw [HBB.out]
                            replace HB := Keep.mk (HB.out.grown gd)
                            refine hK.out _ _ (fun h => h.grown gd) ?_
                            clear hK K gd hHeld
                            refine wpAnyY_done (by kernel_rfl) ?_ _
                            cases bb
                            · have HB2 : Keep (Bs (tld) Lf b (i + 1)) := ⟨Bs.noT HDL.out HBs.out HIN.out.1 HTB.out HUI.out HBB.out⟩
                              go_wp2_with fail
                              go_roundw
                              case rel => exact ⟨b, i + 1, Nat.lt_succ_of_lt HIN.out.1, HIN.out.2, rfl, rfl, HB2, HB⟩
                              case measure => simp [intOf]; have := HIN.out; omega
                            · have HB2 : Keep (Bs (tld) Lf i (i + 1)) := ⟨Bs.yesT HBs.out HTB.out HUI.out HBB.out⟩
                              go_wp2_with fail
                              go_roundw
                              case rel => exact ⟨i, i + 1, Nat.lt_succ_self _, HIN.out.2, rfl, rfl, HB2, HB⟩
                              case measure => simp [intOf]; have := HIN.out; omega
                          · have hlt1 : ¬ (i : Int) < (l : Int) := by omega
                            obtain rfl : i = l := by omega
                            have hbi : (b : Int) < (i : Int) := by omega
                            have hb0 : (0 : Int) ≤ (b : Int) := by omega
                            have hbt : ((b : Nat) : Int).toNat = b := by omega
                            obtain ⟨t, ht⟩ : ∃ y, Lf[b]? = some y := ⟨_, List.getElem?_eq_getElem (by rw [HS.out.2.2.1]; exact hb)⟩
                            have HTB := Keep.mk ht
                            have HBI : Keep (b < i) := ⟨hb⟩
                            have HX : Keep (wr.rangeAt gL (b * 5) (snv t)) := ⟨fl_range snv_len (HB.out.rowGet k0m) (by omega) b t ht⟩
                            obtain ⟨g9, c9, w9, ap, S9⟩ := Sep.appSn t HS.out.2.1 HB.out.swap (by have := HMB.out; omega)
                            have AP := Keep.mk ap
                            have HBS := Keep.mk (bsN2 t)
                            have HS9 := Keep.mk S9
                            have HSel := Keep.mk (HS.out.1.step HTB.out (by rw [HS.out.2.2.1]; exact HBs.out))
                            clear ap S9 HB ht hlt hi
                            go_wp2_with (first
                              | (with_reducible show wpList _ _ _ ({ dst := some 122, op := Op.load 33 _, type := _, pos := _, after := _, guard := _ } :: _) _ _
                                 refine wpList_load_mid rfl 33 _ rfl _ _ rfl (snv t) _ HX.out hdu.1 hdu.2 info33 ?_)
                              | (with_reducible show wpList _ _ _ ({ dst := some 123, op := Op.buildSlice 27 _ _, type := _, pos := _, after := _, guard := _ } :: _) _ _
                                 refine wpList_bs_run rfl (.tmp 122) 27 rfl _ rfl (HBS.out _) ?_)
                              | (with_reducible show wpList _ _ _ ({ dst := some 124, op := Op.call { callee := Callee.builtin Builtin.append, args := _, argTypes := _ }, type := _, pos := _, after := _, guard := _ } :: _) _ _
                                 refine wpList_append_run _ rfl (.tmp 118) (.tmp 123) 27 rfl _ _ rfl rfl AP.out ?_))
                            refine (rwo_c w9 (.slice (some ⟨gL, 0, none⟩) i cL) Lf b (Ls.own (e := 33) snv_len HS9.out (by rw [HS.out.2.2.1]; exact k1m)) (by rw [HS.out.2.2.1]; exact HBI.out) (by rw [HS.out.2.2.1]; have := HLB.out; omega)).mono ?_
                            rintro e wd ⟨v9, rfl, S10⟩
                            obtain ⟨a9, c10, rfl⟩ := own_slice (S10.rowGet k0m)
                            obtain ⟨l9, hl9⟩ : ∃ n, (Lf.eraseIdx b).length = n := ⟨_, rfl⟩
                            have HL9 : Keep ((Lf.eraseIdx b).length = l9 ∧ l9 < i) := ⟨⟨hl9, by rw [← hl9, List.length_eraseIdx, HS.out.2.2.1, if_pos HBI.out]; have := HBI.out; omega⟩⟩
                            rw [hl9] at S10 ⊢
                            have HBn : Keep (Sep W wd (rowV 33 5 (.slice a9 l9 c10) l9 (fl snv (Lf.eraseIdx b)) :: rowV 33 5 (.slice (some ⟨g9, 0, none⟩) (m + 1) c9) (m + 1) (fl snv (So ++ [t])) :: boxA ob (crv own) 26 :: boxA rb zvw 29 :: boxA b4 [.int .u64 tick, vc, vs, iv nx] 37 :: [])) := ⟨Sep.dropM [_, _] [_] (HS9.out.join S10)⟩
                            clear HS9 S10 hl9 hbi hb0 hbt
                            go_wp2_with fail
                            go_roundw
                            case rel => exact ⟨So ++ [t], Lf.eraseIdx b, l9, m + 1, a9, some ⟨g9, 0, none⟩, c10, c9, rfl, rfl, ⟨⟨HSel.out, by rw [List.length_append, HS.out.2.1]; rfl, HL9.out.1, by have := HL9.out; have := HS.out.2.2.2; omega⟩⟩, HBn⟩
                            case measure => simp [lnOf]; have := HL9.out; omega
                    · have hl1 : ¬ (0 : Int) < (l : Int) := by omega
                      obtain rfl : l = 0 := by omega
                      obtain rfl : Lf = [] := List.eq_nil_of_length_eq_zero HS.out.2.2.1
                      have HTD : Keep (Told (ents LC LS p) p own.x own.y (65536 * kpZ rad 1024) (kpZ sho 32).toNat So) := ⟨by
                        obtain ⟨L0, q1, q2, q3⟩ := HS2.out.2.2.2
                        rw [← HR65.out]
                        exact sel_told (ents_not LC LS p) q1 q2 q3 HS.out.1⟩
                      have t0 := (HB.out.boxGet k4m).cellv 0 _ rfl
                      have HRO := Keep.mk ((HB.out.boxGet k2m).range)
                      have HBU := Keep.mk (built29 tick own (.slice aS m cS) ⟨_, _, _, rfl⟩)
                      have HON := Keep.mk (vwv_one tick own (.slice aS m cS) ⟨_, _, _, rfl⟩)
                      clear hl
                      go_wp2_with (first
                        | (with_reducible show wpList _ _ _ ({ dst := some 130, op := Op.load 26 _, type := _, pos := _, after := _, guard := _ } :: _) _ _
                           refine wpList_load_mid rfl 26 _ rfl _ _ rfl (crv own) _ HRO.out hdc.1 hdc.2 info26 ?_)
                        | (with_reducible show wpList _ _ _ ({ dst := some 132, op := Op.build 29 _, type := _, pos := _, after := _, guard := _ } :: _) _ _
                           refine wpList_build rfl 29 _ rfl (vwv tick own (.slice aS m cS)).toArray ((congrArg (Tryz.prog.built 29) (by first | (simp only [List.map_toArray, List.map_cons, List.map_nil, Act.eval]; done) | (simp only [List.map_toArray, List.map_cons, List.map_nil, Act.eval]; with_reducible rfl) | (simp only [List.map_toArray, List.map_cons, List.map_nil, Act.eval]; rfl))).trans HBU.out) ?_
                           simp only [Act.put, List.setIfInBounds_toArray, List.set_cons_zero, List.set_cons_succ])
                        | (with_reducible show wpList _ _ _ ({ dst := _, op := Op.store 29 _ _, type := _, pos := _, after := _, guard := _ } :: _) _ _
                           refine store_at _ rb 0 zvw (vwv tick own (.slice aS m cS)) 29 29 rfl rfl rfl rfl (HB.out.boxGet k3m) (Nat.le_refl _) info29 HON.out ?_
                           intro w6 hS6 g6
                           have S6 := hS6 _ _ (fr1 [_, _, _] HB.out)
                           rw [over_all zvw (vwv tick own (.slice aS m cS)) rfl] at S6
                           have HS6 := Keep.mk S6
                           clear S6 hS6 g6))
                      refine ret_ct rfl rfl (HS6.out.boxGet k0m) hdv.1 hdv.2 info29 rfl ?_
                      exact ⟨tick, own, aS, m, cS, So, 0, rfl, HS.out.2.1, by have := HS.out.2.2.2; omega, Sep.dropM (l := []) [_] [_, _] HS6.out.tail.tail, .inr ⟨own, HFD.out, rfl, rfl, rfl, HTD.out⟩⟩

end Go.Proofs.YtgedlabmndlooaaGreat
