/- NameChanges' walk. -/
import Derived.Test.YthhpbonacefmaaaDoorB1
import Derived.Test.YthhpbonacefmaaaDoorL7
import Derived.Deep.DeepCutAuto
namespace Go.Proofs.YthhpbonacefmaaaDoor
open Go Go.RowKit

/-- a slice of numbers that came in -/
def Nums (w : World) (A : Option Addr) (ps : List Int) : Prop := ∀ (j : Nat) x, ps[j]? = some x → ∃ ad, A = some ad ∧ w.cell? (ad.add j) = some (.int .i64 x)
theorem Nums.kept {w w' : World} {A : Option Addr} {ps : List Int} (h : Nums w A ps) (hg : w.grownBy w' none) : Nums w' A ps := fun j x hx => by
  obtain ⟨ad, e, hc⟩ := h j x hx
  exact ⟨ad, e, hg.cell hc (by simp)⟩
theorem wpList_append_run2 {P : Program} (w : World) {ops : Array Oper} {rest : List Oper} {o : Oper} {a : Act} {Q : Exit → Act → World → Prop} (hgd : o.guard = none) (s x : Operand) (t u : TypeId)
    (ho : o.op = .call { callee := .builtin .append, args := #[s, x], argTypes := #[t, u] }) (v y : Value) (hs : a.eval s = v) (hx : a.eval x = y) {v' : Value} {w' : World}
    (hr : (Builtin.append_ #[t, u] o.type #[v, y]).run P w = .ok v' w') (h : wpList P ops Q rest (a.put o.dst v') w') : wpList P ops Q (o :: rest) a w :=
  wpList_plain hgd fun _ hK => by
    unfold Oper.wp execOp
    simp only [ho, resolve, invoke, builtin, Sem.run_bind, Sem.run_pure, Result.andThen_ok, List.map_toArray, List.map_cons, List.map_nil, hs, hx, hr]
    exact hK _ _ h
set_option maxRecDepth 100000 in
theorem and127a : ∀ n : Fin 256, bits BinOp.and IntKind.u8 (n.val : Int) 127 = (n.val : Int) % 128 := by decide +kernel
theorem and127 {z : Int} (h0 : 0 ≤ z) (h1 : z < 256) : bits BinOp.and IntKind.u8 z 127 = z % 128 := by
  have := and127a ⟨z.toNat, by omega⟩
  simpa [Int.toNat_of_nonneg h0] using this
/-- seven bits -/
def low7 (b : UInt8) : UInt8 := UInt8.ofNat (b.toNat % 128)
theorem low7_nat (b : UInt8) : (low7 b).toNat = b.toNat % 128 := by unfold low7; rw [UInt8.toNat_ofNat']; omega
theorem low7_int (b : UInt8) : ((low7 b).toNat : Int) = (b.toNat : Int) % 128 := by rw [low7_nat]; omega
theorem low7_lt (b : UInt8) : (low7 b).toNat < 128 := by rw [low7_nat]; omega

def nl (l : List UInt8) : List Nat := l.map UInt8.toNat
theorem nums_ascii {l : List UInt8} (h : ∀ b ∈ l, b.toNat < 128) : nums (mk l) = nl l := by
  unfold nums nl
  rw [sl_mk, pieces_ascii h, List.map_map]
  rfl
/-- what was changed so far -/
structure CH (F T : List UInt8) (k : Nat) : Prop where
  asc : ∀ b ∈ T, b.toNat < 128
  lev : lev (nl F) (nl T) ≤ k
  one : k = 1 → T.length = F.length + 1
  len : T.length ≤ F.length + k
theorem CH.start {F : List UInt8} (h : ∀ b ∈ F, b.toNat < 128) : CH F F 0 := ⟨h, by rw [lev_self]; exact Nat.le_refl _, fun e => (by cases e), Nat.le_refl _⟩
theorem nl_app (a b : List UInt8) : nl (a ++ b) = nl a ++ nl b := by simp [nl]
theorem CH.put {F T : List UInt8} {k : Nat} (h : CH F T k) (a : Nat) (p : UInt8) (hp : p.toNat < 128) (ha : a ≤ T.length) : CH F (T.take a ++ [p] ++ T.drop a) (k + 1) := by
  have hE : Ed (nl T) (nl (T.take a ++ [p] ++ T.drop a)) 1 := by
    have := (Ed.refl (nl (T.take a))).app ((Ed.refl (nl (T.drop a))).ins p.toNat)
    rw [← nl_app, List.take_append_drop] at this
    rw [List.append_assoc, nl_app]
    simpa [nl] using this
  have hl := lev_le hE
  have ht := lev_tri (nl F) (nl T) (nl (T.take a ++ [p] ++ T.drop a))
  have h1 := h.lev
  have hz : (T.take a ++ [p] ++ T.drop a).length = T.length + 1 := by simp; omega
  refine ⟨fun b hb => ?_, by omega, fun e => ?_, by have := h.len; omega⟩
  · simp only [List.append_assoc, List.mem_append] at hb
    rcases hb with hb | hb | hb
    · exact h.asc b (List.mem_of_mem_take hb)
    · rw [List.mem_singleton.1 hb]; exact hp
    · exact h.asc b (List.mem_of_mem_drop hb)
  · have : k = 0 := by omega
    subst this
    have e2 := lev_zero.1 (Nat.le_zero.1 h1)
    have := congrArg List.length e2
    simp [nl] at this
    omega
theorem CH.del {F T : List UInt8} {k : Nat} (h : CH F T k) (hk : k ≠ 0) (a : Nat) (ha : a < T.length) : CH F (T.take a ++ T.drop (a + 1)) (k + 1) := by
  have hE : Ed (nl T) (nl (T.take a ++ T.drop (a + 1))) 1 := by
    have := (Ed.refl (nl (T.take a))).app ((Ed.refl (nl (T.drop (a + 1)))).del T[a].toNat)
    rw [nl_app]
    have e : nl (T.take a) ++ T[a].toNat :: nl (T.drop (a + 1)) = nl T := by
      conv => rhs; rw [← List.take_append_drop a T, List.drop_eq_getElem_cons ha]
      rw [nl_app]; rfl
    rw [e] at this
    simpa using this
  have hl := lev_le hE
  have ht := lev_tri (nl F) (nl T) (nl (T.take a ++ T.drop (a + 1)))
  have h1 := h.lev
  refine ⟨fun b hb => ?_, by omega, fun e => absurd (by omega) hk, by have := h.len; simp; omega⟩
  rcases List.mem_append.1 hb with hb | hb
  · exact h.asc b (List.mem_of_mem_take hb)
  · exact h.asc b (List.mem_of_mem_drop hb)
theorem CH.sub {F T : List UInt8} {k : Nat} (h : CH F T k) (hk : k ≠ 0) (a : Nat) (p : UInt8) (hp : p.toNat < 128) (ha : a < T.length) : CH F (T.take a ++ [p] ++ T.drop (a + 1)) (k + 1) := by
  have hE : Ed (nl T) (nl (T.take a ++ [p] ++ T.drop (a + 1))) 1 := by
    have := (Ed.refl (nl (T.take a))).app ((Ed.refl (nl (T.drop (a + 1)))).sub T[a].toNat p.toNat)
    have e : nl (T.take a) ++ T[a].toNat :: nl (T.drop (a + 1)) = nl T := by
      conv => rhs; rw [← List.take_append_drop a T, List.drop_eq_getElem_cons ha]
      rw [nl_app]; rfl
    rw [e] at this
    rw [List.append_assoc, nl_app]
    simpa [nl] using this
  have hl := lev_le hE
  have ht := lev_tri (nl F) (nl T) (nl (T.take a ++ [p] ++ T.drop (a + 1)))
  have h1 := h.lev
  refine ⟨fun b hb => ?_, by omega, fun e => absurd (by omega) hk, by have := h.len; simp; omega⟩
  simp only [List.append_assoc, List.mem_append] at hb
  rcases hb with hb | hb | hb
  · exact h.asc b (List.mem_of_mem_take hb)
  · rw [List.mem_singleton.1 hb]; exact hp
  · exact h.asc b (List.mem_of_mem_drop hb)

/-- two rows of the call's own -/
structure TU (w0 w : World) (vt vu : Value) (T U : List UInt8) : Prop where
  t : Row w0.heap.size w vt T
  u : Row w0.heap.size w vu U
  apart : ∀ k, vt.ownBlock = some k → vu.ownBlock ≠ some k
  gr : w0.grownBy w none
theorem TU.start {w0 w : World} {vt : Value} {T : List UInt8} (h : Row w0.heap.size w vt T) (hg : w0.grownBy w none) : TU w0 w vt (.slice none 0 0) T [] :=
  ⟨h, Row.nil _ _, fun _ _ e => (by cases e), hg⟩
theorem TU.alloc {w0 w : World} {vt vu : Value} {T U : List UInt8} (h : TU w0 w vt vu T U) (o : Obj) : TU w0 (w.alloc o) vt vu T U :=
  ⟨h.t.kept (World.grownBy_alloc w o none) (fun _ _ => by simp), h.u.kept (World.grownBy_alloc w o none) (fun _ _ => by simp), h.apart, h.gr.trans (World.grownBy_alloc w o none)⟩
theorem TU.app {w0 w : World} {vt vu : Value} {T U Y : List UInt8} {A : Option Addr} {m c : Nat} (h : TU w0 w vt vu T U) (hs : Src w A m c Y) (hz : U.length + Y.length ≤ 1000000) :
    ∃ vu' w', Keep ((Builtin.append_ #[32, 32] 32 #[vu, .slice A m c]).run Tryd.prog w = .ok vu' w') ∧ Keep (TU w0 w' vt vu' T (U ++ Y)) := by
  obtain ⟨v', w', r1, r2, r3, r4⟩ := app_src h.u hs hz h.gr.size
  refine ⟨v', w', ⟨r1⟩, ⟨h.t.kept r3 (fun k e => h.apart k e), r2, fun k e => ?_, ?_⟩⟩
  · rcases r4 with e4 | e4
    · rw [e4]; exact h.apart k e
    · rw [e4]
      intro e5
      have := (h.t.lt e).2
      cases e5
      omega
  · cases hv : vu.ownBlock with
    | none => rw [hv] at r3; exact h.gr.trans r3
    | some q => rw [hv] at r3; exact gr_new h.gr r3 (h.u.lt hv).1
theorem tmod_bound (x : Int) (m : Nat) : -(m : Int) ≤ x.tmod ((m : Int) + 1) ∧ x.tmod ((m : Int) + 1) ≤ m := by
  have hp : (0 : Int) < (m : Int) + 1 := by omega
  have h1 := Int.tmod_lt_of_pos x hp
  have h2 := Int.lt_tmod_of_pos x hp
  omega

set_option maxRecDepth 100000 in
set_option maxHeartbeats 40000000 in
theorem changes_any (s : ByteArray) (A : Option Addr) (c : Nat) (ps : List Int) (letter : UInt8) (w : World) (hs : s.size ≤ 140737488355328) (hps : ∀ x ∈ ps, -9223372036854775808 ≤ x ∧ x ≤ 9223372036854775807) (hp : Nums w A ps) (hk : Kc w) :
    Calls Tryd.prog 5 #[.string s, .slice A ps.length c, bv letter] w fun e w' => e = .returned (.bool true) ∧ w.grownBy w' none := by
  have HK := Keep.mk hk
  have HP := Keep.mk hp
  have HPS := Keep.mk hps
  clear hk hp hps
  have HG : Keep (w.grownBy w none) := ⟨World.grownBy.refl _ _⟩
  go_enter Tryd.func5, Tryd.ntmps5
  go_wp2_with fail
  refine (alive_c _ (HK.out.kept HG.out)).mono ?_
  rintro e w1 ⟨rfl, hG⟩
  replace HG : Keep (w.grownBy w1 none) := ⟨HG.out.trans hG⟩
  clear hG
  by_cases hb1 : 3000 < s.size
  · go_wp2_with fail
    refine (alive_c _ (HK.out.kept HG.out)).mono ?_
    rintro e w2 ⟨rfl, hG⟩
    replace HG : Keep (w.grownBy w2 none) := ⟨HG.out.trans hG⟩
    clear hG
    go_wp2_with fail
    go_ret
    exact ⟨rfl, HG.out⟩
  by_cases hb2 : 100 < ps.length
  · go_wp2_with fail
    refine (alive_c _ (HK.out.kept HG.out)).mono ?_
    rintro e w2 ⟨rfl, hG⟩
    replace HG : Keep (w.grownBy w2 none) := ⟨HG.out.trans hG⟩
    clear hG
    go_wp2_with fail
    go_ret
    exact ⟨rfl, HG.out⟩
  go_wp2_with fail
  go_loopw [7, 8] (fun v i w' => ∃ k : Nat, i = .int .i64 k ∧ k ≤ s.size ∧ Keep (Row w.heap.size w' v (((sl s).take k).map low7)) ∧ Keep (w.grownBy w' none)) (fun _ i _ => s.size - (intOf i).toNat)
  case atStart => exact ⟨0, rfl, Nat.zero_le _, ⟨Row.nil _ _⟩, HG⟩
  case round =>
    clear HG
    obtain ⟨k, rfl, hk1, HR, HG⟩ := hrel
    by_cases hk : k = s.size
    · subst hk
      obtain ⟨F, hF⟩ : ∃ F, ((sl s).take s.size).map low7 = F := ⟨_, rfl⟩
      have HF : Keep (F.length ≤ 3000 ∧ ∀ b ∈ F, b.toNat < 128) := ⟨by rw [← hF]; simp [sl_len]; omega, by rw [← hF]; intro b hb; obtain ⟨x, _, rfl⟩ := List.mem_map.1 hb; exact low7_lt x⟩
      rw [hF] at HR
      clear hF
      obtain ⟨A0, c0, hv, hsrc⟩ := HR.out.src
      subst hv
      have hcv := cvt_src hsrc
      clear hsrc
      obtain ⟨z, hz⟩ : ∃ z : Int, (letter.toNat : Int) = z := ⟨_, rfl⟩
      have hz0 : 0 ≤ z := by omega
      have hz1 : z < 256 := by have := letter.toNat_lt; omega
      have hand := and127 hz0 hz1
      have HZ : Keep (((low7 letter).toNat : Int) = z % 128) := ⟨by rw [low7_int, hz]⟩
      obtain ⟨q, hq⟩ : ∃ q : Int, z % 128 = q := ⟨_, rfl⟩
      rw [hq] at hand HZ
      have hq0 : 0 ≤ q := by omega
      have hq1 : q < 128 := by omega
      clear hq
      rw [show bv letter = .int .u8 z by rw [bv, hz]]
      clear hz
      go_wp2_with fail
      go_loopw [7, 11] (fun v i w' => ∃ (k : Nat) (T : List UInt8), i = .int .i64 k ∧ k ≤ ps.length ∧ Keep (Row w.heap.size w' v T) ∧ Keep (w.grownBy w' none) ∧ Keep (CH F T k)) (fun _ i _ => ps.length - (intOf i).toNat)
      case atStart => exact ⟨0, F, rfl, Nat.zero_le _, HR, HG, ⟨CH.start HF.out.2⟩⟩
      case round =>
        clear HR HG hcv
        obtain ⟨j, T, rfl, hj1, HR, HG, HC⟩ := hrel
        obtain ⟨A1, c1, hv, hsrc⟩ := HR.out.src
        subst hv
        by_cases hj : j = ps.length
        · subst hj
          have hcv := cvt_src hsrc
          have hTl : T.length ≤ 3100 := by have := HC.out.len; have := HF.out.1; omega
          have hFl := HF.out.1
          have hzF : (mk F).size ≤ 3000 := by rw [mk_size]; exact hFl
          have hzT : (mk T).size ≤ 3100 := by rw [mk_size]; exact hTl
          have hrT := rn_le (mk T)
          obtain ⟨V, hV⟩ : ∃ V, nr (nums (mk F)) (nums (mk T)) = V := ⟨_, rfl⟩
          have hV1 : (V : Int) ≤ lessI ps.length := by
            rw [← hV, nums_ascii HF.out.2, nums_ascii HC.out.asc]
            have := HC.out.lev
            unfold nr lessI
            split <;> omega
          have hV2 : ps.length = 1 → V = 1 := by
            intro e
            rw [← hV, nums_ascii HF.out.2, nums_ascii HC.out.asc]
            have h1 := HC.out.lev
            have h2 := HC.out.one e
            have h3 := lev_len (nl F) (nl T)
            simp only [nl, List.length_map] at h3
            unfold nr
            simp only [nl] at h1 ⊢
            omega
          have HV := Keep.mk hV
          clear hsrc hV
          go_wp2_with fail
          refine (near_c (mk F) (mk T) _ (by omega) (by omega)).mono ?_
          rintro e w9 ⟨rfl, hG⟩
          replace HG : Keep (w.grownBy w9 none) := ⟨HG.out.trans hG⟩
          clear hG hcv
          rw [HV.out]
          go_wp2_with fail
          refine (less_c _ _).mono ?_
          rintro e wq ⟨rfl, rfl⟩
          obtain ⟨Q, hQ⟩ : ∃ Q, lessI (ps.length : Int) = Q := ⟨_, rfl⟩
          rw [hQ] at hV1 ⊢
          clear hQ
          by_cases h1 : ps.length = 1
          · have hV3 : V = 1 := hV2 h1
            subst hV3
            clear hV2
            go_wp2_with fail
            go_ret
            exact ⟨rfl, HG.out⟩
          · clear hV2
            go_wp2_with fail
            go_ret
            exact ⟨by first | rfl | (simp; omega), HG.out⟩
        · obtain ⟨x, hx⟩ : ∃ x, ps[j]? = some x := ⟨_, List.getElem?_eq_getElem (by omega)⟩
          obtain ⟨ad, hA, hc⟩ := HP.out.kept HG.out j x hx
          subst hA
          have hxb := HPS.out x (List.mem_of_getElem? hx)
          obtain ⟨r, hr⟩ : ∃ r, x.tmod ((T.length : Int) + 1) = r := ⟨_, rfl⟩
          have hrb := tmod_bound x T.length
          rw [hr] at hrb
          obtain ⟨a, ha⟩ : ∃ a : Nat, (if r < 0 then -r else r) = a := ⟨(if r < 0 then -r else r).toNat, by split <;> omega⟩
          have hTl : T.length ≤ 3100 := by have := HC.out.len; have := HF.out.1; omega
          have haT : a ≤ T.length := by split at ha <;> omega
          have HA := Keep.mk ha
          clear ha
          have hcap : T.length ≤ c1 := hsrc.2.1
          have hnn := hsrc.2.2.1
          go_upto_if 60 with fail
          clear hr
          go_cut [12] (fun sv wx => sv = iv a ∧ wx = wr)
          case first =>
            by_cases h0 : r < 0
            · have e := HA.out
              rw [if_pos h0] at e
              go_wp2_with fail
              go_meet
              exact ⟨by first | rfl | rw [e], rfl⟩
            · have e := HA.out
              rw [if_neg h0] at e
              subst e
              go_wp2_with fail
              go_meet
              exact ⟨rfl, rfl⟩
          case rest =>
          obtain ⟨rfl, rfl⟩ := hcut
          clear hrb HA
          have hst := TU.start HR.out HG.out
          obtain ⟨v1, w1, R1, T1⟩ := hst.app (hsrc.take a haT) (by simp; omega)
          have esl := slc_h A1 T.length c1 a (by omega)
          clear hst hsrc hc hx
          have hj2 : j < ps.length := by omega
          by_cases h3 : (j : Int) % 3 = 0
          · skip
            have hb1 : Src (w1.alloc (.cells #[.int .u8 q] 5)) (some ⟨w1.heap.size, 0, none⟩) 1 1 [low7 letter] := by
              have := src_byte w1 (low7 letter)
              rw [HZ.out] at this
              exact this
            obtain ⟨v2, w2, R2, T2⟩ := (T1.out.alloc (.cells #[.int .u8 q] 5)).app hb1 (by simp; omega)
            clear hb1
            obtain ⟨S2, n2, b2, e2, f2⟩ := slc_l A1 T.length c1 (a) (by omega) hcap hnn
            obtain ⟨v3, w3, R3, T3⟩ := T2.out.app (f2 w2 T (by obtain ⟨A9, c9, h9, s9⟩ := T2.out.t.src; cases h9; exact s9)) (by simp; omega)
            clear f2 n2 b2
            have HC2 : Keep (CH F (([] ++ T.take a) ++ [low7 letter] ++ T.drop a) (j + 1)) := ⟨by simpa using HC.out.put a (low7 letter) (low7_lt letter) haT⟩
            clear HC
            go_wp2_with (first | (at_builtin; refine wpList_append_run2 _ rfl (.tmp 63) (.tmp 66) 32 32 rfl _ _ rfl rfl R1.out ?_) | (at_builtin; refine wpList_append_run2 _ rfl (.tmp 88) (.tmp 90) 32 32 rfl _ _ rfl rfl R2.out ?_) | (at_builtin; refine wpList_append_run2 _ rfl (.tmp 92) (.tmp 95) 32 32 rfl _ _ rfl rfl R3.out ?_))
            go_roundw
            case rel => exact ⟨j + 1, _, by simp, by omega, ⟨T3.out.u⟩, ⟨T3.out.gr⟩, HC2⟩
            case measure => simp [intOf]; omega
          by_cases ha3 : a = T.length
          · subst ha3
            have hb1 : Src (w1.alloc (.cells #[.int .u8 q] 5)) (some ⟨w1.heap.size, 0, none⟩) 1 1 [low7 letter] := by
              have := src_byte w1 (low7 letter)
              rw [HZ.out] at this
              exact this
            obtain ⟨v2, w2, R2, T2⟩ := (T1.out.alloc (.cells #[.int .u8 q] 5)).app hb1 (by simp; omega)
            clear hb1
            obtain ⟨S2, n2, b2, e2, f2⟩ := slc_l A1 T.length c1 (T.length) (by omega) hcap hnn
            obtain ⟨v3, w3, R3, T3⟩ := T2.out.app (f2 w2 T (by obtain ⟨A9, c9, h9, s9⟩ := T2.out.t.src; cases h9; exact s9)) (by simp; omega)
            clear f2 n2 b2
            simp only [Nat.sub_self] at e2 R3
            have HC2 : Keep (CH F (([] ++ T.take T.length) ++ [low7 letter] ++ T.drop T.length) (j + 1)) := ⟨by simpa using HC.out.put T.length (low7 letter) (low7_lt letter) haT⟩
            clear HC
            go_wp2_with (first | (at_builtin; refine wpList_append_run2 _ rfl (.tmp 63) (.tmp 66) 32 32 rfl _ _ rfl rfl R1.out ?_) | (at_builtin; refine wpList_append_run2 _ rfl (.tmp 88) (.tmp 90) 32 32 rfl _ _ rfl rfl R2.out ?_) | (at_builtin; refine wpList_append_run2 _ rfl (.tmp 92) (.tmp 95) 32 32 rfl _ _ rfl rfl R3.out ?_))
            go_roundw
            case rel => exact ⟨j + 1, _, by simp, by omega, ⟨T3.out.u⟩, ⟨T3.out.gr⟩, HC2⟩
            case measure => simp [intOf]; omega
          by_cases h4 : (j : Int) % 3 = 1
          · skip
            obtain ⟨S1, n1, b1, e1, f1⟩ := slc_l A1 T.length c1 (a + 1) (by omega) hcap hnn
            obtain ⟨v2, w2, R2, T2⟩ := T1.out.app (f1 w1 T (by obtain ⟨A9, c9, h9, s9⟩ := T1.out.t.src; cases h9; exact s9)) (by simp; omega)
            clear f1 n1 b1
            simp only [Int.natCast_add, Int.cast_ofNat_Int] at e1
            have HC2 : Keep (CH F (([] ++ T.take a) ++ T.drop (a + 1)) (j + 1)) := ⟨by simpa using HC.out.del (by omega) a (by omega)⟩
            clear HC
            go_wp2_with (first | (at_builtin; refine wpList_append_run2 _ rfl (.tmp 63) (.tmp 66) 32 32 rfl _ _ rfl rfl R1.out ?_) | (at_builtin; refine wpList_append_run2 _ rfl (.tmp 101) (.tmp 105) 32 32 rfl _ _ rfl rfl R2.out ?_))
            go_roundw
            case rel => exact ⟨j + 1, _, by simp, by omega, ⟨T2.out.u⟩, ⟨T2.out.gr⟩, HC2⟩
            case measure => simp [intOf]; omega
          have h5 : (j : Int) % 3 = 2 := by omega
          have hb1 : Src (w1.alloc (.cells #[.int .u8 q] 5)) (some ⟨w1.heap.size, 0, none⟩) 1 1 [low7 letter] := by
            have := src_byte w1 (low7 letter)
            rw [HZ.out] at this
            exact this
          obtain ⟨v2, w2, R2, T2⟩ := (T1.out.alloc (.cells #[.int .u8 q] 5)).app hb1 (by simp; omega)
          clear hb1
          obtain ⟨S2, n2, b2, e2, f2⟩ := slc_l A1 T.length c1 (a + 1) (by omega) hcap hnn
          obtain ⟨v3, w3, R3, T3⟩ := T2.out.app (f2 w2 T (by obtain ⟨A9, c9, h9, s9⟩ := T2.out.t.src; cases h9; exact s9)) (by simp; omega)
          clear f2 n2 b2
          simp only [Int.natCast_add, Int.cast_ofNat_Int] at e2
          have HC2 : Keep (CH F (([] ++ T.take a) ++ [low7 letter] ++ T.drop (a + 1)) (j + 1)) := ⟨by simpa using HC.out.sub (by omega) a (low7 letter) (low7_lt letter) (by omega)⟩
          clear HC
          go_wp2_with (first | (at_builtin; refine wpList_append_run2 _ rfl (.tmp 63) (.tmp 66) 32 32 rfl _ _ rfl rfl R1.out ?_) | (at_builtin; refine wpList_append_run2 _ rfl (.tmp 68) (.tmp 70) 32 32 rfl _ _ rfl rfl R2.out ?_) | (at_builtin; refine wpList_append_run2 _ rfl (.tmp 72) (.tmp 76) 32 32 rfl _ _ rfl rfl R3.out ?_))
          go_roundw
          case rel => exact ⟨j + 1, _, by simp, by omega, ⟨T3.out.u⟩, ⟨T3.out.gr⟩, HC2⟩
          case measure => simp [intOf]; omega
    · obtain ⟨b, hb⟩ : ∃ b, (sl s)[k]? = some b := ⟨_, List.getElem?_eq_getElem (by rw [sl_len]; omega)⟩
      have hix := idx9' s k b (by omega) hb
      obtain ⟨z, hz⟩ : ∃ z : Int, (b.toNat : Int) = z := ⟨_, rfl⟩
      have hz0 : 0 ≤ z := by omega
      have hz1 : z < 256 := by have := b.toNat_lt; omega
      rw [hz] at hix
      have hand := and127 hz0 hz1
      have hS : Src (wr.alloc (.cells #[.int .u8 (z % 128)] 5)) (some ⟨wr.heap.size, 0, none⟩) 1 1 [low7 b] := by
        have := src_byte wr (low7 b)
        rw [low7_int, hz] at this
        exact this
      clear hz
      have ga := World.grownBy_alloc wr (.cells #[.int .u8 (z % 128)] 5) none
      obtain ⟨v', w', r1, r2, r3, r4⟩ := app_src (HR.out.kept ga (fun _ _ => by simp)) hS (by simp; omega) (by have := HG.out.size; have := ga.size; omega)
      have HR1 := Keep.mk r1
      have HE : Keep (((sl s).take (k + 1)).map low7 = ((sl s).take k).map low7 ++ [low7 b]) := ⟨by rw [List.take_add_one, hb]; simp⟩
      rw [← HE.out] at r2
      have HR2 := Keep.mk r2
      have HG2 : Keep (w.grownBy w' none) := ⟨by
        have hg1 := HG.out.trans ga
        cases hv : u7.ownBlock with
        | none => rw [hv] at r3; exact hg1.trans r3
        | some q => rw [hv] at r3; exact gr_new hg1 r3 (HR.out.lt hv).1⟩
      have hk2 : k < s.size := by omega
      clear r1 r2 r3 r4 hS ga hb
      go_wp2_with (at_builtin; refine wpList_append_run2 _ rfl (.tmp 34) (.tmp 39) 32 32 rfl _ _ rfl rfl HR1.out ?_)
      go_roundw
      case rel => exact ⟨k + 1, by simp, by omega, HR2, HG2⟩
      case measure => simp [intOf]; omega
end Go.Proofs.YthhpbonacefmaaaDoor
