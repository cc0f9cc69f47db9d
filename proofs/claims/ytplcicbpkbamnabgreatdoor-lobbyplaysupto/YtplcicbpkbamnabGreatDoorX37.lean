import Derived.Test.YtplcicbpkbamnabGreatDoorX36
import Derived.Test.YtplcicbpkbamnabGreatDoorX24
/- LobbyPlays: the reference's Join -/
namespace Go.Proofs.YtplcicbpkbamnabGreatDoor.Lo
open Go Go.RowKit Go.Maps

theorem acOf_nm {A : List Ac} {P : List Pr} (h : A = P.map acOf) (hA : ∀ a ∈ A, a.nm.size ≤ 1048576) : ∀ x ∈ P, x.1.size ≤ 1048576 := fun x hx => hA (acOf x) (by rw [h]; exact List.mem_map.2 ⟨x, hx, rfl⟩)
set_option maxRecDepth 100000 in
theorem key_is {X : Lb} {Y : Rl} (hr : Rel X Y) {a : Nat} {sp : Pr} (h : Y.P[a]? = some sp) (nonce salt : ByteArray) : drv (((X.A[a]?).map Ac.sc).getD []) nonce salt X.next = sl (deriveB sp.2 ⟨#[115, 101, 115, 115, 105, 111, 110]⟩ [nonce, salt, ⟨(Mac.len8 X.next).toArray⟩]) := by
  rw [hr.a, List.getElem?_map, h]
  rfl
set_option maxRecDepth 100000 in
theorem said3 (u a b c : ByteArray) (hu : u.size ≤ 100) (ha : a.size ≤ 1048576) (hb : b.size ≤ 1048576) (hc : c.size ≤ 100) : (saidB u [a, b, c]).size ≤ 2147483648 := by
  rw [saidB_size]
  simp only [List.map_cons, List.map_nil, Mac.said]
  simp [Mac.len8_len, sl_len, Mac.flat]
  omega
theorem rel_join {X : Lb} {Y : Rl} (hr : Rel X Y) {s : Se} (hs : s.num = X.next) (hw : s.wh = 0) (hb : s.wb = 0) : Rel { X with next := X.next + 1, S := X.S ++ [s] } { Y with S := Y.S ++ [⟨s, [], false⟩] } := by
  refine ⟨?_, hr.a, hr.most, hr.r, hr.u, hr.idle, ?_, fun i x hx => ?_, fun x hx => ?_⟩
  · show X.S ++ [s] = lvY (Y.S ++ [⟨s, [], false⟩])
    rw [lvY_app, hr.s]; rfl
  · show X.next + 1 = (Y.S ++ [_]).length + 1
    rw [hr.next]; simp
  · have hx : (Y.S ++ [(⟨s, [], false⟩ : Rs)])[i]? = some x := hx
    by_cases h : i < Y.S.length
    · rw [List.getElem?_append_left h] at hx
      exact hr.num i x hx
    · rw [List.getElem?_append_right (by omega)] at hx
      have h2 := (List.getElem?_eq_some_iff.1 hx).1
      simp only [List.length_singleton] at h2
      rw [show i - Y.S.length = 0 by omega] at hx
      obtain rfl : (⟨s, [], false⟩ : Rs) = x := by simpa using hx
      show s.num = i + 1
      rw [hs, hr.next]; omega
  · rcases List.mem_append.1 hx with q | q
    · exact hr.ok x q
    · rw [List.mem_singleton.1 q]
      exact ⟨by show Wi.Inv s.wh s.wb []; rw [hw, hb]; exact Wi.Inv.zero, by simp, by simp⟩
set_option maxRecDepth 100000 in
set_option maxHeartbeats 32000000 in
theorem rjoi_c (w0 W : World) (l : List As) (kb : Nat) (X : Lb) (Y : Rl) (fr nonce salt nm : ByteArray) (tick : Nat) (h : Sep w0 W (rlobA kb Y :: l)) (hr : Rel X Y) (hn : Y.S.length < 1000000) (ok : LbOk X) (hs : nm.size ≤ 1048576) (hA : ∀ a ∈ X.A, a.nm.size ≤ 1048576) (hk : RK w0) (h4 : 4 ≤ w0.heap.size) (hnc : nonce.size ≤ 1048576) (hsl : salt.size ≤ 1048576) :
    Calls Tryz.prog 27 #[pt kb, .string fr, .string nonce, .string salt, .string nm, uv tick] W fun e W' => e = .returned (.tuple #[.agg (((joiS X fr nonce salt nm tick).map lvc).getD z7).toArray, iv (joiC X nm)]) ∧ ∃ Y', Sep w0 W' (rlobA kb Y' :: l) ∧ Rel (joiX X fr nonce salt nm tick) Y' ∧ Y'.S.length ≤ Y.S.length + 1 ∧ ∀ m, (∀ x ∈ Y.S, x.L.length ≤ m) → ∀ x ∈ Y'.S, x.L.length ≤ m := by
  obtain ⟨du, hdu, hdr⟩ := under42
  have S0 := h.newBox z7.toArray 49
  obtain ⟨W1, hW1⟩ : ∃ W1, W.alloc (.cells z7.toArray 49) = W1 := ⟨_, rfl⟩
  obtain ⟨rb, hrb⟩ : ∃ rb, W.heap.size = rb := ⟨_, rfl⟩
  rw [hW1, hrb] at S0
  change Sep w0 W1 (boxA rb z7 49 :: rlobA kb Y :: l) at S0
  have HZ1 := Keep.mk z7_one
  have HBT := Keep.mk b49e
  obtain ⟨⟨v1, v2, ps⟩, S0⟩ := S0.swap.opn
  have hfact : ps.map Rp.x = Y.S := S0.fact (l := rlobL kb Y (v1, v2, ps) ++ boxA rb z7 49 :: l) k0m
  have hPn := acOf_nm hr.a hA
  have hPl : Y.P.length ≤ 64 := by have := ok.a2; rw [hr.a, List.length_map] at this; exact this
  have hac := racc_o w0 W1 (boxA rb z7 49 :: l) kb Y (v1, v2, ps) nm S0 hs hPn hPl
  have HRL := Keep.mk hr
  cases hf : fdI (Y.P.map acOf) nm with
  | none =>
    have hf' : fdI X.A nm = none := by rw [hr.a]; exact hf
    have HR : Keep (joiC X nm = 120 ∧ joiS X fr nonce salt nm tick = none ∧ joiX X fr nonce salt nm tick = X) := ⟨(joi_no hf' fr nonce salt tick).1, (joi_no hf' fr nonce salt tick).2, by unfold joiX; rw [(joi_no hf' fr nonce salt tick).2]⟩
    rw [hf] at hac
    unfold z7 at hW1
    clear h S0 hr ok hs hA hk h4 hnc hsl hPn hPl hf hf' hfact
    go_enter Tryz.func27, Tryz.ntmps27
    go_wp2_with fail
    refine hac.mono ?_
    rintro e w1 ⟨rfl, S1⟩
    have HSB := Keep.mk (S1.perm List.perm_middle)
    have HRB := Keep.mk (HSB.out.boxGet k0m)
    clear hac S1
    unfold aix
    go_wp2_with (first
      | (show wpList _ _ _ ({ dst := _, op := Op.build 49 _, type := _, pos := _, after := _, guard := _ } :: _) _ _
         refine build_p (by rfl) 49 _ rfl _ (HBT.out _) ?_)
      | (show wpList _ _ _ ({ dst := _, op := Op.store 49 _ _, type := _, pos := _, after := _, guard := _ } :: _) _ _
         refine store_box _ rb z7 z7 49 rfl rfl rfl rfl HRB.out rfl (by exact info42) HZ1.out ?_))
    intro w7 hS7 g7
    have HS7 := Keep.mk (hS7 _ _ HSB.out)
    clear hS7 g7 HRB HSB
    go_wp2_with fail
    refine Bu.ret_ct rfl rfl (HS7.out.boxGet k0m) hdu hdr (by exact info42) rfl ?_
    rw [HR.out.1, HR.out.2.1, HR.out.2.2]
    exact ⟨rfl, Y, Sep.cls (rlobL kb Y) (v1, v2, ps) HS7.out.tail, HRL.out, by omega, fun m hm => hm⟩
  | some a =>
    have hf' : fdI X.A nm = some a := by rw [hr.a]; exact hf
    rw [hf] at hac
    have hac : Calls Tryz.prog 71 #[pt kb, .string nm] W1 fun e W' => e = .returned (iv (a : Nat)) ∧ Sep w0 W' (rlobL kb Y (v1, v2, ps) ++ boxA rb z7 49 :: l) := hac
    obtain ⟨sp, hsp⟩ : ∃ sp, Y.P[a]? = some sp ∧ secS X nm = sp.2 := sec_at hr hf
    obtain ⟨n, hnn⟩ : ∃ n, (lvP ps).length = n := ⟨_, rfl⟩
    have hXS : (lvP ps).map (fun p => p.x.s) = X.S := by rw [lvP_s, hfact, hr.s]
    have hXn : X.S.length = n := by rw [← hXS, List.length_map, hnn]
    have hle : n ≤ 32 := by have := ok.le; have := ok.m2; omega
    have hPB : ∀ p ∈ lvP ps, p.x.s.pl < 32 := fun p hp => by
      have hm : p.x.s ∈ X.S := by rw [← hXS]; exact List.mem_map.2 ⟨p, hp, rfl⟩
      have := (ok.s p.x.s hm).2.2.1
      have := ok.m2
      omega
    have HLV : Keep (∀ W', Sep w0 W' (rlobL kb Y (v1, v2, ps) ++ boxA rb z7 49 :: l) → Calls Tryz.prog 47 #[pt kb] W' fun e W' => ∃ v, e = .returned v ∧ Sep w0 W' (rowV 95 1 v n ((lvP ps).map fun (z : Rp) => pt z.sb) :: (rlobL kb Y (v1, v2, ps) ++ boxA rb z7 49 :: l))) := ⟨fun W' hh => by
      have := rlives_o w0 W' (boxA rb z7 49 :: l) kb Y (v1, v2, ps) hh (by omega)
      rw [hnn] at this
      exact this⟩
    have HX := Keep.mk (And.intro hfact (And.intro hnn (And.intro hXS (And.intro hXn hPB))))
    have HOK := Keep.mk (And.intro ok (And.intro hf' (And.intro hsp (And.intro hk h4))))
    have HSZ := Keep.mk (And.intro hnc (And.intro hsl hn))
    have ha0 : ¬ (a : Int) < 0 := by omega
    unfold z7 at hW1
    clear h S0 hr ok hs hA hk h4 hnc hsl hPn hPl hf hf' hfact hsp hXS hXn hPB hn hnn
    go_enter Tryz.func27, Tryz.ntmps27
    go_wp2_with fail
    refine hac.mono ?_
    rintro e w1 ⟨rfl, S1⟩
    have hlv := HLV.out w1 S1
    clear hac S1 HLV
    go_wp2_with fail
    refine hlv.mono ?_
    rintro e w2 ⟨vp, rfl, S2⟩
    obtain ⟨pa, pc', hvp⟩ := own_slice (S2.rowGet k0m)
    subst hvp
    obtain ⟨R, hR⟩ : ∃ R : As, rowV 95 1 (.slice pa n pc') n ((lvP ps).map fun (z : Rp) => pt z.sb) = R := ⟨_, rfl⟩
    have HRR := Keep.mk hR
    rw [hR] at S2
    have S3 : Sep w0 w2 (boxA rb z7 49 :: R :: (rlobL kb Y (v1, v2, ps) ++ l)) := S2.perm (List.perm_middle (l₁ := R :: rlobL kb Y (v1, v2, ps)))
    have S4 := S3.newBox zb32.toArray 132
    obtain ⟨W4, hW4⟩ : ∃ W4, w2.alloc (.cells zb32.toArray 132) = W4 := ⟨_, rfl⟩
    obtain ⟨tb, htb⟩ : ∃ tb, w2.heap.size = tb := ⟨_, rfl⟩
    rw [hW4, htb] at S4
    have HS : Keep (Sep w0 W4 (boxA tb ((tkn (X.S.take 0)).map Value.bool) 132 :: boxA rb z7 49 :: R :: (rlobL kb Y (v1, v2, ps) ++ l))) := ⟨by rw [List.take_zero, tkn_nil]; exact S4⟩
    unfold zb32 at hW4
    clear hlv S2 S3 S4 hR
    go_wp2_with fail
    go_loopw [17] (fun v wr => ∃ i : Nat, i ≤ n ∧ v = iv i ∧ Keep (Sep w0 wr (boxA tb ((tkn (X.S.take i)).map Value.bool) 132 :: boxA rb z7 49 :: R :: (rlobL kb Y (v1, v2, ps) ++ l))) ∧ Keep (∀ s ∈ X.S.take i, s.acc ≠ a)) (fun v _ => (n - intOf v).toNat)
    case atStart => exact ⟨0, by omega, rfl, HS, ⟨by simp⟩⟩
    case round =>
      clear HS
      obtain ⟨i, hi, rfl, hS, hN⟩ := hrel
      by_cases hlt : i < n
      · obtain ⟨p, hp⟩ : ∃ p, (lvP ps)[i]? = some p := ⟨_, List.getElem?_eq_getElem (by rw [HX.out.2.1]; exact hlt)⟩
        have hXi : X.S[i]? = some p.x.s := by rw [← HX.out.2.2.1, List.getElem?_map, hp]; rfl
        have hrow : wr.ownsRow 0 95 1 (.slice pa n pc') (lvP ps).length ((lvP ps).map fun (z : Rp) => pt z.sb) := by
          rw [HX.out.2.1]
          have := hS.out
          rw [← HRR.out] at this
          exact this.rowGet k2m
        obtain ⟨g, c, e, g0⟩ := row_ptr hrow hp
        rw [HX.out.2.1] at e
        injection e with e1 e2 e3
        subst e1 e3
        have hp2 := ((rd_of hS.out.tail.tail.tail).at_ p (lvP_mem hp).1).1
        have s7 : wr.cell? ⟨p.sb, 7, none⟩ = some (iv (p.x.s.acc : Nat)) := hp2.cellv 7 _ rfl
        have s1 : wr.cell? ⟨p.sb, 1, none⟩ = some (iv (p.x.s.pl : Nat)) := hp2.cellv 1 _ rfl
        have hpl : p.x.s.pl < 32 := HX.out.2.2.2.2 p (List.mem_of_getElem? hp)
        have hi0 : (0 : Int) ≤ (i : Int) := by omega
        have hi1 : (i : Int) < (n : Nat) := by omega
        have hti : ((i : Nat) : Int).toNat = i := by omega
        have hwi : IntKind.i64.wrap ((i : Int) + 1) = ((i + 1 : Nat) : Int) := by rw [wi _ (by omega) (by omega)]; omega
        by_cases hacc : p.x.s.acc = a
        · have hply : plyS X a = true := by
            unfold plyS
            rw [List.any_eq_true]
            exact ⟨p.x.s, List.mem_of_getElem? hXi, decide_eq_true hacc⟩
          have HR : Keep (joiC X nm = 121 ∧ joiS X fr nonce salt nm tick = none ∧ joiX X fr nonce salt nm tick = X) := ⟨(joi_taken HOK.out.2.1 hply fr nonce salt tick).1, (joi_taken HOK.out.2.1 hply fr nonce salt tick).2, by unfold joiX; rw [(joi_taken HOK.out.2.1 hply fr nonce salt tick).2]⟩
          have x5 : ((p.x.s.acc : Int) == (a : Int)) = true := beq_iff_eq.2 (by omega)
          have HSB : Keep (Sep w0 wr (boxA rb z7 49 :: R :: (rlobL kb Y (v1, v2, ps) ++ l))) := ⟨hS.out.tail⟩
          have HRB := Keep.mk (HSB.out.boxGet k0m)
          clear hS hp hrow hp2 e2 hXi hply hacc hN s1
          go_wp2_with (first
            | (show wpList _ _ _ ({ dst := _, op := Op.build 49 _, type := _, pos := _, after := _, guard := _ } :: _) _ _
               refine build_p (by rfl) 49 _ rfl _ (HBT.out _) ?_)
            | (show wpList _ _ _ ({ dst := _, op := Op.store 49 _ _, type := _, pos := _, after := _, guard := _ } :: _) _ _
               refine store_box _ rb z7 z7 49 rfl rfl rfl rfl HRB.out rfl (by exact info42) HZ1.out ?_))
          intro w7 hS7 g7
          have HS7 := Keep.mk (hS7 _ _ HSB.out)
          clear hS7 g7 HRB HSB
          go_wp2_with fail
          refine Bu.ret_ct rfl rfl (HS7.out.boxGet k0m) hdu hdr (by exact info42) rfl ?_
          rw [HR.out.1, HR.out.2.1, HR.out.2.2]
          exact ⟨rfl, Y, Sep.cls (rlobL kb Y) (v1, v2, ps) HS7.out.tail.tail, HRL.out, by omega, fun m hm => hm⟩
        · have x5 : ((p.x.s.acc : Int) == (a : Int)) = false := by simpa using (show ¬ (p.x.s.acc : Int) = a by omega)
          obtain ⟨b0, hb0⟩ : ∃ b0, (tkn (X.S.take i))[p.x.s.pl]? = some b0 := ⟨_, tkn_get _ hpl⟩
          have t0 : wr.cell? ⟨tb, p.x.s.pl, none⟩ = some (.bool b0) := (hS.out.boxGet k0m).cellv _ _ (by rw [List.getElem?_map, hb0]; rfl)
          have z0 : wr.frozen? ⟨tb, p.x.s.pl, none⟩ = false := (hS.out.boxGet k0m).frozen _
          have S5 := hS.out.boxPut p.x.s.pl (.bool true)
          have hTK : X.S.take (i + 1) = X.S.take i ++ [p.x.s] := by rw [List.take_add_one, hXi]; rfl
          have HSX : Keep (Sep w0 (wr.setCell ⟨tb, p.x.s.pl, none⟩ (.bool true)) (boxA tb ((tkn (X.S.take (i + 1))).map Value.bool) 132 :: boxA rb z7 49 :: R :: (rlobL kb Y (v1, v2, ps) ++ l))) := ⟨by
            rw [hTK, tkn_snoc _ _ hpl, List.map_set]
            exact S5⟩
          have HN2 : Keep (∀ s ∈ X.S.take (i + 1), s.acc ≠ a) := ⟨by
            rw [hTK]
            intro s hs
            rcases List.mem_append.1 hs with q | q
            · exact hN.out s q
            · rw [List.mem_singleton.1 q]; exact hacc⟩
          have hp0 : (0 : Int) ≤ (p.x.s.pl : Int) := by omega
          have hp1 : (p.x.s.pl : Int) < 32 := by omega
          have hpt : ((p.x.s.pl : Nat) : Int).toNat = p.x.s.pl := by omega
          clear hS hp hrow hp2 e2 hXi hacc hN hb0 S5 hTK
          go_wp2_with fail
          go_roundw
          case rel => exact ⟨i + 1, by omega, rfl, HSX, HN2⟩
          case measure => simp [intOf]; omega
      · have hi1 : ¬ (i : Int) < (n : Nat) := by omega
        have hall : X.S.take i = X.S := List.take_of_length_le (by rw [HX.out.2.2.2.1]; omega)
        rw [hall] at hS hN
        have hply : plyS X a = false := by
          unfold plyS
          rw [List.any_eq_false]
          intro s hs
          simpa using hN.out s hs
        obtain rfl : i = n := by omega
        have hkB : Has wr kb ((cfv Y.c v1).toList ++ [v2]) 78 := hS.out.tail.tail.tail.boxGet (l := rlobL kb Y (v1, v2, ps) ++ l) k1m
        have k0 : wr.cell? ⟨kb, 0, none⟩ = some (iv (X.most : Nat)) := by rw [HRL.out.most]; exact hkB.cellv 0 _ rfl
        by_cases hfull : X.most ≤ i
        · have HR : Keep (joiC X nm = 111 ∧ joiS X fr nonce salt nm tick = none ∧ joiX X fr nonce salt nm tick = X) := by
            have q := joi_full HOK.out.2.1 hply (by rw [HX.out.2.2.2.1]; exact hfull) fr nonce salt tick
            exact ⟨q.1, q.2, by unfold joiX; rw [q.2]⟩
          have x5 : (X.most : Int) ≤ (i : Nat) := by omega
          have HSB : Keep (Sep w0 wr (boxA rb z7 49 :: R :: (rlobL kb Y (v1, v2, ps) ++ l))) := ⟨hS.out.tail⟩
          have HRB := Keep.mk (HSB.out.boxGet k0m)
          clear hS hall hply hN hfull hkB
          go_wp2_with (first
            | (show wpList _ _ _ ({ dst := _, op := Op.build 49 _, type := _, pos := _, after := _, guard := _ } :: _) _ _
               refine build_p (by rfl) 49 _ rfl _ (HBT.out _) ?_)
            | (show wpList _ _ _ ({ dst := _, op := Op.store 49 _ _, type := _, pos := _, after := _, guard := _ } :: _) _ _
               refine store_box _ rb z7 z7 49 rfl rfl rfl rfl HRB.out rfl (by exact info42) HZ1.out ?_))
          intro w7 hS7 g7
          have HS7 := Keep.mk (hS7 _ _ HSB.out)
          clear hS7 g7 HRB HSB
          go_wp2_with fail
          refine Bu.ret_ct rfl rfl (HS7.out.boxGet k0m) hdu hdr (by exact info42) rfl ?_
          rw [HR.out.1, HR.out.2.1, HR.out.2.2]
          exact ⟨rfl, Y, Sep.cls (rlobL kb Y) (v1, v2, ps) HS7.out.tail.tail, HRL.out, by omega, fun m hm => hm⟩
        · have x5 : ¬ (X.most : Int) ≤ (i : Nat) := by omega
          obtain ⟨j, hj, hjm, hjn, hjb⟩ := frS_at X (by rw [HX.out.2.2.2.1]; omega) HOK.out.1.m2
          have hj32 : j < 32 := by have := HOK.out.1.m2; omega
          have HTJ : Keep (∀ k, k ≤ j → (tkn X.S)[k]? = some (decide (k < j))) := ⟨fun k hk => by
            rw [tkn_get _ (by omega)]
            congr 1
            by_cases q : k < j
            · rw [decide_eq_true q, List.any_eq_true]
              obtain ⟨s, h1, h2⟩ := hjb k q
              exact ⟨s, h1, decide_eq_true h2⟩
            · rw [decide_eq_false q, List.any_eq_false]
              intro s hs e
              exact hjn s hs (by have := of_decide_eq_true e; omega)⟩
          have HY := Keep.mk (joi_yes HOK.out.2.1 hply (show X.S.length < X.most by rw [HX.out.2.2.2.1]; omega) fr nonce salt tick)
          have HJ := Keep.mk hj
          clear hall hply hN hfull hkB hj hjm hjn hjb
          go_wp2_with fail
          clear k0 x5
          go_loopw [18] (fun v wr' => ∃ k : Nat, k ≤ j ∧ v = iv k ∧ wr' = wr) (fun v _ => (j - intOf v).toNat)
          case atStart => exact ⟨0, by omega, rfl, rfl⟩
          case round =>
            obtain ⟨k, hkj, rfl, hwr⟩ := hrel
            subst hwr
            have tk0 : wr.cell? ⟨tb, k, none⟩ = some (.bool (decide (k < j))) := (hS.out.boxGet k0m).cellv _ _ (by rw [List.getElem?_map, HTJ.out k hkj]; rfl)
            have hp0 : (0 : Int) ≤ (k : Int) := by omega
            have hp1 : (k : Int) < 32 := by omega
            have hpt : ((k : Nat) : Int).toNat = k := by omega
            by_cases hkl : k < j
            · rw [decide_eq_true hkl] at tk0
              have hwk : IntKind.i64.wrap ((k : Int) + 1) = ((k + 1 : Nat) : Int) := by rw [wi _ (by omega) (by omega)]; omega
              go_wp2_with fail
              go_roundw
              case rel => exact ⟨k + 1, by omega, rfl, trivial⟩
              case measure => simp [intOf]; omega
            · rw [decide_eq_false hkl] at tk0
              obtain rfl : k = j := by omega
              have SA : Sep w0 wr (boxA rb z7 49 :: (rlobL kb Y (v1, v2, ps) ++ l)) := Sep.tail (hS.out.tail.perm (List.Perm.swap ..))
              have hxn := HRL.out.next
              obtain ⟨nx, hnx⟩ : ∃ nx, X.next = nx := ⟨_, rfl⟩
              obtain ⟨r, hrr⟩ : ∃ r, Y.c.rate = r := ⟨_, rfl⟩
              obtain ⟨u, huu⟩ : ∃ u, Y.c.burst = u := ⟨_, rfl⟩
              have HOKR : Keep (Bu.okay r u) := ⟨by rw [← hrr, ← huu, ← HRL.out.r, ← HRL.out.u]; exact HOK.out.1.r⟩
              have HNX : Keep (X.next = nx ∧ Y.c.rate = r ∧ Y.c.burst = u) := ⟨hnx, hrr, huu⟩
              have S1 := SA.newBox #[.slice none 0 0, uv 0] 135
              obtain ⟨Wa, hWa⟩ : ∃ Wa, wr.alloc (.cells #[.slice none 0 0, uv 0] 135) = Wa := ⟨_, rfl⟩
              obtain ⟨wb, hwb⟩ : ∃ wb, wr.heap.size = wb := ⟨_, rfl⟩
              rw [hWa, hwb] at S1
              have S2 := S1.newBox #[(.int .u64 0 : Value), .int .i64 0, .string ⟨#[]⟩, .string ⟨#[]⟩, .int .u64 0, .int .u64 0, .int .u64 0, iv (a : Nat), .string ⟨#[]⟩, pt wb, .int .i64 0, .int .i64 0, .int .i64 0, .bool false] 94
              obtain ⟨Wb, hWb⟩ : ∃ Wb, Wa.alloc (.cells #[(.int .u64 0 : Value), .int .i64 0, .string ⟨#[]⟩, .string ⟨#[]⟩, .int .u64 0, .int .u64 0, .int .u64 0, iv (a : Nat), .string ⟨#[]⟩, pt wb, .int .i64 0, .int .i64 0, .int .i64 0, .bool false] 94) = Wb := ⟨_, rfl⟩
              obtain ⟨sb, hsb⟩ : ∃ sb, Wa.heap.size = sb := ⟨_, rfl⟩
              rw [hWb, hsb] at S2
              change Sep w0 Wb (boxA sb [(.int .u64 0 : Value), .int .i64 0, .string ⟨#[]⟩, .string ⟨#[]⟩, .int .u64 0, .int .u64 0, .int .u64 0, iv (a : Nat), .string ⟨#[]⟩, pt wb, .int .i64 0, .int .i64 0, .int .i64 0, .bool false] 94 :: boxA wb [.slice none 0 0, uv 0] 135 :: boxA rb z7 49 :: (rlobL kb Y (v1, v2, ps) ++ l)) at S2
              have hNx := rnext_o w0 Wb l kb Y (v1, v2, ps) S2.tail.tail.tail (by have := HSZ.out.2.2; omega) nx (by omega)
              have s0 : Wb.cell? ⟨sb, 0, none⟩ = some (uv 0) := (S2.boxGet k0m).cellv 0 _ rfl
              have z0 : Wb.frozen? ⟨sb, 0, none⟩ = false := (S2.boxGet k0m).frozen 0
              have s1 : Wb.cell? ⟨sb, 1, none⟩ = some (iv 0) := (S2.boxGet k0m).cellv 1 _ rfl
              have z1 : Wb.frozen? ⟨sb, 1, none⟩ = false := (S2.boxGet k0m).frozen 1
              have s2 : Wb.cell? ⟨sb, 2, none⟩ = some (.string ⟨#[]⟩) := (S2.boxGet k0m).cellv 2 _ rfl
              have z2 : Wb.frozen? ⟨sb, 2, none⟩ = false := (S2.boxGet k0m).frozen 2
              have s3 : Wb.cell? ⟨sb, 3, none⟩ = some (.string ⟨#[]⟩) := (S2.boxGet k0m).cellv 3 _ rfl
              have z3 : Wb.frozen? ⟨sb, 3, none⟩ = false := (S2.boxGet k0m).frozen 3
              have s4 : Wb.cell? ⟨sb, 4, none⟩ = some (uv 0) := (S2.boxGet k0m).cellv 4 _ rfl
              have z4 : Wb.frozen? ⟨sb, 4, none⟩ = false := (S2.boxGet k0m).frozen 4
              have s5 : Wb.cell? ⟨sb, 5, none⟩ = some (uv 0) := (S2.boxGet k0m).cellv 5 _ rfl
              have z5 : Wb.frozen? ⟨sb, 5, none⟩ = false := (S2.boxGet k0m).frozen 5
              have s6 : Wb.cell? ⟨sb, 6, none⟩ = some (uv 0) := (S2.boxGet k0m).cellv 6 _ rfl
              have z6 : Wb.frozen? ⟨sb, 6, none⟩ = false := (S2.boxGet k0m).frozen 6
              have S3 := (((((((S2.boxPut 0 (.int .u64 (nx : Nat))).boxPut 1 (.int .i64 (k : Nat))).boxPut 2 (.string nm)).boxPut 3 (.string fr)).boxPut 4 (.int .u64 (tick : Nat))).boxPut 5 (.int .u64 0)).boxPut 6 (.int .u64 0))
              obtain ⟨Wc, hWc⟩ : ∃ Wc, (((((((Wb.setCell ⟨sb, 0, none⟩ (.int .u64 (nx : Nat))).setCell ⟨sb, 1, none⟩ (.int .i64 (k : Nat))).setCell ⟨sb, 2, none⟩ (.string nm)).setCell ⟨sb, 3, none⟩ (.string fr)).setCell ⟨sb, 4, none⟩ (.int .u64 (tick : Nat))).setCell ⟨sb, 5, none⟩ (.int .u64 0)).setCell ⟨sb, 6, none⟩ (.int .u64 0)) = Wc := ⟨_, rfl⟩
              rw [hWc] at S3
              have HS3 : Keep (Sep w0 Wc (boxA sb [uv nx, iv (k : Nat), .string nm, .string fr, uv tick, uv 0, uv 0, iv (a : Nat), .string ⟨#[]⟩, pt wb, iv 0, iv 0, iv 0, .bool false] 94 :: boxA wb [.slice none 0 0, uv 0] 135 :: boxA rb z7 49 :: (rlobL kb Y (v1, v2, ps) ++ l))) := ⟨S3⟩
              have HB135 := Keep.mk b135e
              have HB94 : Keep (∀ (a : Int) (wb : Nat), Tryz.prog.built 94 [(1, iv a), (3, pt wb)] = some #[(.int .u64 0 : Value), .int .i64 0, .string ⟨#[]⟩, .string ⟨#[]⟩, .int .u64 0, .int .u64 0, .int .u64 0, iv a, .string ⟨#[]⟩, pt wb, .int .i64 0, .int .i64 0, .int .i64 0, .bool false]) := ⟨b94⟩
              have HB49 := Keep.mk b49f
              clear hS SA S1 S2 S3 hkj hkl
              go_wp2_with (first
                | (show wpList _ _ _ ({ dst := _, op := Op.build 135 _, type := _, pos := _, after := _, guard := _ } :: _) _ _
                   refine build_p (by rfl) 135 _ rfl _ (HB135.out _) ?_)
                | (show wpList _ _ _ ({ dst := _, op := Op.build 94 _, type := _, pos := _, after := _, guard := _ } :: _) _ _
                   refine build_p (by rfl) 94 _ rfl _ ((congrArg (Tryz.prog.built 94) (by simp only [List.map_toArray, List.map_cons, List.map_nil]; rfl)).trans (HB94.out _ _)) ?_))
              refine hNx.mono ?_
              rintro e w5 ⟨rfl, hw⟩
              subst hw
              clear hNx
              go_wp2_with (first
                | (show wpList _ _ _ ({ dst := _, op := Op.build 49 _, type := _, pos := _, after := _, guard := _ } :: _) _ _
                   refine build_p (by rfl) 49 _ rfl _ ((congrArg (Tryz.prog.built 49) (by simp only [List.map_toArray, List.map_cons, List.map_nil]; rfl)).trans (HB49.out _ _ _ _ _)) ?_))
              have HKB : Keep (∀ W' cs, Sep w0 W' (boxA sb cs 94 :: boxA wb [.slice none 0 0, uv 0] 135 :: boxA rb z7 49 :: (rlobL kb Y (v1, v2, ps) ++ l)) → W'.cell? ⟨kb, 2, none⟩ = some (iv r) ∧ W'.cell? ⟨kb, 3, none⟩ = some (iv u)) := ⟨fun W' cs hh => by
                have hkB : Has W' kb ((cfv Y.c v1).toList ++ [v2]) 78 := hh.tail.tail.tail.boxGet (l := rlobL kb Y (v1, v2, ps) ++ l) k1m
                rw [← HNX.out.2.1, ← HNX.out.2.2]
                exact ⟨hkB.cellv 2 _ rfl, hkB.cellv 3 _ rfl⟩⟩
              have HNW : Keep (∀ W', Calls Tryz.prog 72 #[iv r, iv u] W' fun e w' => e = .returned (.tuple #[Bu.bv r (16 * u) (16 * u), .int .i64 0]) ∧ W'.grownBy w' none) := ⟨fun W' => Bu.rnew_yes r u W' HOKR.out⟩
              have SD := HS3.out.grown (gr_drew Wc none)
              clear HS3 hWa hWb hWc hwb hsb s0 s1 s2 s3 s4 s5 s6 z0 z1 z2 z3 z4 z5 z6 tk0
              refine wp_region_held_drew (S := fun w' => ∃ y0 y1 y2, Sep w0 w' (boxA sb [uv nx, iv (k : Nat), .string nm, .string fr, uv tick, uv 0, uv 0, iv (a : Nat), .string ⟨#[]⟩, pt wb, iv y0, iv y1, iv y2, .bool false] 94 :: boxA wb [.slice none 0 0, uv 0] 135 :: boxA rb z7 49 :: (rlobL kb Y (v1, v2, ps) ++ l))) (by kernel_rfl) ⟨_, _, _, SD⟩ (fun hHeld => ?_)
              generalize Wc.drew = wA0 at SD hHeld ⊢
              have HSD := Keep.mk SD
              clear SD
              refine wpAnyH_take (i := 0) (oi := { dst := some 83, op := Op.move (Operand.tmp 19), type := 95, pos := "ref.go:126", after := #[], guard := none }) (v := ?_) rfl (by kernel_rfl) (by kernel_rfl) (by kernel_rfl) (fun _ _ _ h => h) (Or.inl ⟨by rfl, ?_⟩) (by assumption) ?_
              rotate_left
              · (intro w hSw; go_simp; first | done | (with_reducible rfl))
              simp only [Act.put, List.setIfInBounds_toArray, List.set_cons_zero, List.set_cons_succ]
              refine wpAnyH_take (i := 1) (oi := { dst := some 84, op := Op.move (Operand.tmp 0), type := 29, pos := "ref.go:126", after := #[], guard := none }) (v := ?_) rfl (by kernel_rfl) (by kernel_rfl) (by kernel_rfl) (fun _ _ _ h => h) (Or.inl ⟨by rfl, ?_⟩) (by assumption) ?_
              rotate_left
              · (intro w hSw; go_simp; first | done | (with_reducible rfl))
              simp only [Act.put, List.setIfInBounds_toArray, List.set_cons_zero, List.set_cons_succ]
              refine wpAnyH_take (i := 2) (oi := { dst := some 85, op := Op.nilCheck (Operand.tmp 84), type := 0, pos := "ref.go:126", after := #[{ on := 1, ground := Ground.data }], guard := none }) (v := ?_) rfl (by kernel_rfl) (by kernel_rfl) (by kernel_rfl) (fun _ _ _ h => h) (Or.inl ⟨by rfl, ?_⟩) (by assumption) ?_
              rotate_left
              · (intro w hSw; go_simp; first | done | (with_reducible rfl))
              simp only [Act.put, List.setIfInBounds_toArray, List.set_cons_zero, List.set_cons_succ]
              refine wpAnyH_take (i := 3) (oi := { dst := some 86, op := Op.fieldAddr 78 (Operand.tmp 85) 0, type := 0, pos := "ref.go:126", after := #[{ on := 2, ground := Ground.data }], guard := none }) (v := ?_) rfl (by kernel_rfl) (by kernel_rfl) (by kernel_rfl) (fun _ _ _ h => h) (Or.inl ⟨by rfl, ?_⟩) (by assumption) ?_
              rotate_left
              · (intro w hSw; go_simp; first | done | (with_reducible rfl))
              simp only [Act.put, List.setIfInBounds_toArray, List.set_cons_zero, List.set_cons_succ]
              refine wpAnyH_take (i := 4) (oi := { dst := some 87, op := Op.fieldAddr 24 (Operand.tmp 86) 2, type := 0, pos := "ref.go:126", after := #[{ on := 3, ground := Ground.data }], guard := none }) (v := ?_) rfl (by kernel_rfl) (by kernel_rfl) (by kernel_rfl) (fun _ _ _ h => h) (Or.inl ⟨by rfl, ?_⟩) (by assumption) ?_
              rotate_left
              · (intro w hSw; go_simp; first | done | (with_reducible rfl))
              simp only [Act.put, List.setIfInBounds_toArray, List.set_cons_zero, List.set_cons_succ]
              refine wpAnyH_take (i := 5) (oi := { dst := some 88, op := Op.load 3 (Operand.tmp 87), type := 3, pos := "ref.go:126", after := #[{ on := 4, ground := Ground.data }], guard := none }) (v := ?_) rfl (by kernel_rfl) (by kernel_rfl) (by kernel_rfl) (fun _ _ _ h => h) (Or.inl ⟨by rfl, ?_⟩) (by assumption) ?_
              rotate_left
              · (intro w hSw; obtain ⟨y0, y1, y2, hSw⟩ := hSw; obtain ⟨q2, q3⟩ := HKB.out _ _ hSw; go_simp; first | done | (with_reducible rfl))
              simp only [Act.put, List.setIfInBounds_toArray, List.set_cons_zero, List.set_cons_succ]
              refine wpAnyH_take (i := 6) (oi := { dst := some 89, op := Op.move (Operand.tmp 0), type := 29, pos := "ref.go:126", after := #[], guard := none }) (v := ?_) rfl (by kernel_rfl) (by kernel_rfl) (by kernel_rfl) (fun _ _ _ h => h) (Or.inl ⟨by rfl, ?_⟩) (by assumption) ?_
              rotate_left
              · (intro w hSw; go_simp; first | done | (with_reducible rfl))
              simp only [Act.put, List.setIfInBounds_toArray, List.set_cons_zero, List.set_cons_succ]
              refine wpAnyH_take (i := 7) (oi := { dst := some 90, op := Op.nilCheck (Operand.tmp 89), type := 0, pos := "ref.go:126", after := #[{ on := 6, ground := Ground.data }], guard := none }) (v := ?_) rfl (by kernel_rfl) (by kernel_rfl) (by kernel_rfl) (fun _ _ _ h => h) (Or.inl ⟨by rfl, ?_⟩) (by assumption) ?_
              rotate_left
              · (intro w hSw; go_simp; first | done | (with_reducible rfl))
              simp only [Act.put, List.setIfInBounds_toArray, List.set_cons_zero, List.set_cons_succ]
              refine wpAnyH_take (i := 8) (oi := { dst := some 91, op := Op.fieldAddr 78 (Operand.tmp 90) 0, type := 0, pos := "ref.go:126", after := #[{ on := 7, ground := Ground.data }], guard := none }) (v := ?_) rfl (by kernel_rfl) (by kernel_rfl) (by kernel_rfl) (fun _ _ _ h => h) (Or.inl ⟨by rfl, ?_⟩) (by assumption) ?_
              rotate_left
              · (intro w hSw; go_simp; first | done | (with_reducible rfl))
              simp only [Act.put, List.setIfInBounds_toArray, List.set_cons_zero, List.set_cons_succ]
              refine wpAnyH_take (i := 9) (oi := { dst := some 92, op := Op.fieldAddr 24 (Operand.tmp 91) 3, type := 0, pos := "ref.go:126", after := #[{ on := 8, ground := Ground.data }], guard := none }) (v := ?_) rfl (by kernel_rfl) (by kernel_rfl) (by kernel_rfl) (fun _ _ _ h => h) (Or.inl ⟨by rfl, ?_⟩) (by assumption) ?_
              rotate_left
              · (intro w hSw; go_simp; first | done | (with_reducible rfl))
              simp only [Act.put, List.setIfInBounds_toArray, List.set_cons_zero, List.set_cons_succ]
              refine wpAnyH_take (i := 10) (oi := { dst := some 93, op := Op.load 3 (Operand.tmp 92), type := 3, pos := "ref.go:126", after := #[{ on := 9, ground := Ground.data }], guard := none }) (v := ?_) rfl (by kernel_rfl) (by kernel_rfl) (by kernel_rfl) (fun _ _ _ h => h) (Or.inl ⟨by rfl, ?_⟩) (by assumption) ?_
              rotate_left
              · (intro w hSw; obtain ⟨y0, y1, y2, hSw⟩ := hSw; obtain ⟨q2, q3⟩ := HKB.out _ _ hSw; go_simp; first | done | (with_reducible rfl))
              simp only [Act.put, List.setIfInBounds_toArray, List.set_cons_zero, List.set_cons_succ]
              refine wpAnyH_ready (rs := [11]) (by kernel_rfl) (by simp) ?_
              refine AllReadyH.cons (o := { dst := some 94, op := Op.call { callee := Callee.value (Operand.func 72), args := #[Operand.tmp 88, Operand.tmp 93], argTypes := #[3, 3] }, type := 136, pos := "ref.go:126", after := #[{ on := 5, ground := Ground.data }, { on := 10, ground := Ground.data }], guard := none }) rfl (fun K hK => ?_) AllReadyH.nil
              go_simp
              refine (HNW.out _).mono ?_
              rintro e wB ⟨rfl, gB⟩
              have SB := HSD.out.grown gB
              have s10 : wB.cell? ⟨sb, 10, none⟩ = some (iv 0) := (SB.boxGet k0m).cellv 10 _ rfl
              have z10 : wB.frozen? ⟨sb, 10, none⟩ = false := (SB.boxGet k0m).frozen 10
              have s11 : wB.cell? ⟨sb, 11, none⟩ = some (iv 0) := (SB.boxGet k0m).cellv 11 _ rfl
              have z11 : wB.frozen? ⟨sb, 11, none⟩ = false := (SB.boxGet k0m).frozen 11
              have s12 : wB.cell? ⟨sb, 12, none⟩ = some (iv 0) := (SB.boxGet k0m).cellv 12 _ rfl
              have z12 : wB.frozen? ⟨sb, 12, none⟩ = false := (SB.boxGet k0m).frozen 12
              have S5 := ((SB.boxPut 10 (iv r)).boxPut 11 (iv (16 * u))).boxPut 12 (iv (16 * u))
              obtain ⟨W5, hW5⟩ : ∃ W5, ((wB.setCell ⟨sb, 10, none⟩ (iv r)).setCell ⟨sb, 11, none⟩ (iv (16 * u))).setCell ⟨sb, 12, none⟩ (iv (16 * u)) = W5 := ⟨_, rfl⟩
              rw [hW5] at S5
              have HS5 : Keep (Sep w0 W5 (boxA sb [uv nx, iv (k : Nat), .string nm, .string fr, uv tick, uv 0, uv 0, iv (a : Nat), .string ⟨#[]⟩, pt wb, iv r, iv (16 * u), iv (16 * u), .bool false] 94 :: boxA wb [.slice none 0 0, uv 0] 135 :: boxA rb z7 49 :: (rlobL kb Y (v1, v2, ps) ++ l))) := ⟨S5⟩
              refine hK.out _ _ ⟨_, _, _, SB⟩ (fun hHeld => ?_)
              clear hK K gB SB S5 HSD
              refine wpAnyH_take (i := 12) (oi := { dst := some 82, op := Op.move (Operand.tmp 94), type := 136, pos := "ref.go:126", after := #[{ on := 11, ground := Ground.data }], guard := none }) (v := ?_) rfl (by kernel_rfl) (by kernel_rfl) (by kernel_rfl) (fun _ _ _ h => h) (Or.inl ⟨by rfl, ?_⟩) (by assumption) ?_
              rotate_left
              · (intro w hSw; go_simp; first | done | (with_reducible rfl))
              simp only [Act.put, List.setIfInBounds_toArray, List.set_cons_zero, List.set_cons_succ]
              refine wpAnyH_take (i := 13) (oi := { dst := some 95, op := Op.extract (Operand.tmp 82) 0, type := 92, pos := "ref.go:126", after := #[{ on := 12, ground := Ground.data }], guard := none }) (v := ?_) rfl (by kernel_rfl) (by kernel_rfl) (by kernel_rfl) (fun _ _ _ h => h) (Or.inl ⟨by rfl, ?_⟩) (by assumption) ?_
              rotate_left
              · (intro w hSw; go_simp; first | done | (with_reducible rfl))
              simp only [Act.put, List.setIfInBounds_toArray, List.set_cons_zero, List.set_cons_succ]
              refine wpAnyH_take (i := 14) (oi := { dst := some 96, op := Op.extract (Operand.tmp 82) 1, type := 32, pos := "ref.go:126", after := #[{ on := 12, ground := Ground.data }, { on := 17, ground := Ground.gcOnly Departure.lateStores }], guard := none }) (v := ?_) rfl (by kernel_rfl) (by kernel_rfl) (by kernel_rfl) (fun _ _ _ h => h) (Or.inl ⟨by rfl, ?_⟩) (by assumption) ?_
              rotate_left
              · (intro w hSw; go_simp; first | done | (with_reducible rfl))
              simp only [Act.put, List.setIfInBounds_toArray, List.set_cons_zero, List.set_cons_succ]
              refine wpAnyH_take (i := 15) (oi := { dst := some 97, op := Op.nilCheck (Operand.tmp 83), type := 0, pos := "ref.go:126", after := #[{ on := 0, ground := Ground.data }, { on := 0, ground := Ground.phase }, { on := 1, ground := Ground.phase }, { on := 2, ground := Ground.phase }, { on := 3, ground := Ground.phase }, { on := 4, ground := Ground.phase }, { on := 5, ground := Ground.phase }, { on := 6, ground := Ground.phase }, { on := 7, ground := Ground.phase }, { on := 8, ground := Ground.phase }, { on := 9, ground := Ground.phase }, { on := 10, ground := Ground.phase }, { on := 11, ground := Ground.phase }, { on := 12, ground := Ground.phase }, { on := 13, ground := Ground.phase }, { on := 14, ground := Ground.textOnly Departure.lateStores }], guard := none }) (v := ?_) rfl (by kernel_rfl) (by kernel_rfl) (by kernel_rfl) (fun _ _ _ h => h) (Or.inl ⟨by rfl, ?_⟩) (by assumption) ?_
              rotate_left
              · (intro w hSw; go_simp; first | done | (with_reducible rfl))
              simp only [Act.put, List.setIfInBounds_toArray, List.set_cons_zero, List.set_cons_succ]
              refine wpAnyH_take (i := 16) (oi := { dst := some 98, op := Op.fieldAddr 94 (Operand.tmp 97) 4, type := 0, pos := "ref.go:126", after := #[{ on := 15, ground := Ground.data }, { on := 0, ground := Ground.phase }, { on := 1, ground := Ground.phase }, { on := 2, ground := Ground.phase }, { on := 3, ground := Ground.phase }, { on := 4, ground := Ground.phase }, { on := 5, ground := Ground.phase }, { on := 6, ground := Ground.phase }, { on := 7, ground := Ground.phase }, { on := 8, ground := Ground.phase }, { on := 9, ground := Ground.phase }, { on := 10, ground := Ground.phase }, { on := 11, ground := Ground.phase }, { on := 12, ground := Ground.phase }, { on := 13, ground := Ground.phase }, { on := 14, ground := Ground.textOnly Departure.lateStores }], guard := none }) (v := ?_) rfl (by kernel_rfl) (by kernel_rfl) (by kernel_rfl) (fun _ _ _ h => h) (Or.inl ⟨by rfl, ?_⟩) (by assumption) ?_
              rotate_left
              · (intro w hSw; go_simp; first | done | (with_reducible rfl))
              simp only [Act.put, List.setIfInBounds_toArray, List.set_cons_zero, List.set_cons_succ]
              refine wpAnyH_ready (rs := [17]) (by kernel_rfl) (by simp) ?_
              refine AllReadyH.cons (o := { dst := none, op := Op.store 92 (Operand.tmp 98) (Operand.tmp 95), type := 0, pos := "ref.go:126", after := #[{ on := 16, ground := Ground.data }, { on := 13, ground := Ground.data }, { on := 11, ground := Ground.chain }, { on := 0, ground := Ground.phase }, { on := 1, ground := Ground.phase }, { on := 2, ground := Ground.phase }, { on := 3, ground := Ground.phase }, { on := 4, ground := Ground.phase }, { on := 5, ground := Ground.phase }, { on := 6, ground := Ground.phase }, { on := 7, ground := Ground.phase }, { on := 8, ground := Ground.phase }, { on := 9, ground := Ground.phase }, { on := 10, ground := Ground.phase }, { on := 11, ground := Ground.phase }, { on := 12, ground := Ground.phase }, { on := 13, ground := Ground.phase }, { on := 14, ground := Ground.textOnly Departure.lateStores }], guard := none }) rfl (fun K hK => ?_) AllReadyH.nil
              go_simp
              refine hK.out _ _ ⟨_, _, _, HS5.out⟩ (fun hHeld => ?_)
              clear hK K
              refine wpAnyH_done (by kernel_rfl) ?_ _
              go_wp2_with fail
              obtain ⟨l8, hl8⟩ : ∃ l8 : ByteArray, (⟨(Mac.len8 nx).toArray⟩ : ByteArray) = l8 := ⟨_, rfl⟩
              obtain ⟨dv, hdv⟩ : ∃ dv, deriveB sp.2 ⟨#[115, 101, 115, 115, 105, 111, 110]⟩ [nonce, salt, l8] = dv := ⟨_, rfl⟩
              obtain ⟨np, hnp⟩ : ∃ np, Y.P.length = np := ⟨_, rfl⟩
              have HAI : Keep (a < np) := ⟨by rw [← hnp]; exact (List.getElem?_eq_some_iff.1 HOK.out.2.2.1.1).1⟩
              have HLN : Keep (∀ W', Calls Tryz.prog 74 #[uv nx] W' fun e w' => e = .returned (.string l8) ∧ W'.grownBy w' none) := ⟨fun W' => by rw [← hl8]; exact length_any nx W' (by have := HNX.out.1; have := HOK.out.1.n2; omega)⟩
              have HL8 : Keep (l8.size = 8) := ⟨by rw [← hl8]; rfl⟩
              have HS32 : Keep (sp.2.size = 32) := ⟨by
                have hm : acOf sp ∈ X.A := by rw [HRL.out.a]; exact List.mem_map.2 ⟨sp, List.mem_of_getElem? HOK.out.2.2.1.1, rfl⟩
                exact HOK.out.1.a1 _ hm⟩
              have HDV : Keep (∀ W' xb, Has W' xb [.string nonce, .string salt, .string l8] 9 → w0.grownBy W' none → Calls Tryz.prog 73 #[.string sp.2, .string ⟨#[115, 101, 115, 115, 105, 111, 110]⟩, .slice (some ⟨xb, 0, none⟩) 3 3] W' fun e w' => e = .returned (.string dv) ∧ W'.grownBy w' none) := ⟨fun W' xb hh hg => by
                rw [← hdv]
                exact rderive_any sp.2 _ _ 3 3 _ W' (HOK.out.2.2.2.1.kept hg) (Nat.le_trans HOK.out.2.2.2.2 hg.size) (strs3 hh) (by rw [HS32.out]; decide) (said3 _ _ _ _ (by decide) HSZ.out.1 HSZ.out.2.1 (by rw [HL8.out]; decide))⟩
              obtain ⟨gp, cp, ep⟩ : ∃ gp cp, v1 = .slice (some ⟨gp, 0, none⟩) np cp := by
                obtain ⟨g, c, e, _⟩ := (pr_get HS5.out.tail.tail.tail).2 a sp HOK.out.2.2.1.1
                rw [hnp] at e
                exact ⟨g, c, e⟩
              have HKP : Keep (∀ W' cs, Sep w0 W' (boxA sb cs 94 :: boxA wb [.slice none 0 0, uv 0] 135 :: boxA rb z7 49 :: (rlobL kb Y (v1, v2, ps) ++ l)) → W'.cell? ⟨kb, 12, none⟩ = some (.slice (some ⟨gp, 0, none⟩) np cp) ∧ W'.cell? ⟨gp, a * 2 + 1, none⟩ = some (.string sp.2)) := ⟨fun W' cs hh => by
                have h1 := (rd_of hh.tail.tail.tail).c12
                obtain ⟨g, c, e, _, q⟩ := (pr_get hh.tail.tail.tail).2 a sp HOK.out.2.2.1.1
                have e : v1 = _ := e
                have h1 : W'.cell? ⟨kb, 12, none⟩ = some v1 := h1
                rw [ep] at h1 e
                injection e with e1 _ _
                injection e1 with e1
                injection e1 with e1
                rw [e1]
                rw [e1] at h1
                exact ⟨h1, q⟩⟩
              have HEQ : Keep ((⟨(Mac.len8 nx).toArray⟩ : ByteArray) = l8 ∧ deriveB sp.2 ⟨#[115, 101, 115, 115, 105, 111, 110]⟩ [nonce, salt, l8] = dv) := ⟨hl8, hdv⟩
              have SD := HS5.out.grown (gr_drew W5 none)
              clear HS5 hW5 s10 s11 s12 z10 z11 z12 hHeld HKB HNW hl8 hdv hnp ep
              refine wp_region_held_drew (S := fun w' => ∃ ks, Sep w0 w' (boxA sb [uv nx, iv (k : Nat), .string nm, .string fr, uv tick, uv 0, uv 0, iv (a : Nat), .string ks, pt wb, iv r, iv (16 * u), iv (16 * u), .bool false] 94 :: boxA wb [.slice none 0 0, uv 0] 135 :: boxA rb z7 49 :: (rlobL kb Y (v1, v2, ps) ++ l))) (by kernel_rfl) ⟨_, SD⟩ (fun hHeld => ?_)
              generalize W5.drew = wC0 at SD hHeld ⊢
              have HSD := Keep.mk SD
              have hNx := rnext_o w0 wC0 l kb Y (v1, v2, ps) SD.tail.tail.tail (by have := HSZ.out.2.2; omega) nx (by have := HNX.out.1; omega)
              clear SD
              refine wpAnyH_take (i := 0) (oi := { dst := some 99, op := Op.move (Operand.tmp 19), type := 95, pos := "ref.go:127", after := #[], guard := none }) (v := ?_) rfl (by kernel_rfl) (by kernel_rfl) (by kernel_rfl) (fun _ _ _ h => h) (Or.inl ⟨by rfl, ?_⟩) (by assumption) ?_
              rotate_left
              · (intro w hSw; go_simp; first | done | (with_reducible rfl))
              simp only [Act.put, List.setIfInBounds_toArray, List.set_cons_zero, List.set_cons_succ]
              refine wpAnyH_take (i := 1) (oi := { dst := some 100, op := Op.move (Operand.tmp 0), type := 29, pos := "ref.go:127", after := #[], guard := none }) (v := ?_) rfl (by kernel_rfl) (by kernel_rfl) (by kernel_rfl) (fun _ _ _ h => h) (Or.inl ⟨by rfl, ?_⟩) (by assumption) ?_
              rotate_left
              · (intro w hSw; go_simp; first | done | (with_reducible rfl))
              simp only [Act.put, List.setIfInBounds_toArray, List.set_cons_zero, List.set_cons_succ]
              refine wpAnyH_take (i := 2) (oi := { dst := some 101, op := Op.nilCheck (Operand.tmp 100), type := 0, pos := "ref.go:127", after := #[{ on := 1, ground := Ground.data }], guard := none }) (v := ?_) rfl (by kernel_rfl) (by kernel_rfl) (by kernel_rfl) (fun _ _ _ h => h) (Or.inl ⟨by rfl, ?_⟩) (by assumption) ?_
              rotate_left
              · (intro w hSw; go_simp; first | done | (with_reducible rfl))
              simp only [Act.put, List.setIfInBounds_toArray, List.set_cons_zero, List.set_cons_succ]
              refine wpAnyH_take (i := 3) (oi := { dst := some 102, op := Op.fieldAddr 78 (Operand.tmp 101) 0, type := 0, pos := "ref.go:127", after := #[{ on := 2, ground := Ground.data }], guard := none }) (v := ?_) rfl (by kernel_rfl) (by kernel_rfl) (by kernel_rfl) (fun _ _ _ h => h) (Or.inl ⟨by rfl, ?_⟩) (by assumption) ?_
              rotate_left
              · (intro w hSw; go_simp; first | done | (with_reducible rfl))
              simp only [Act.put, List.setIfInBounds_toArray, List.set_cons_zero, List.set_cons_succ]
              refine wpAnyH_take (i := 4) (oi := { dst := some 103, op := Op.fieldAddr 24 (Operand.tmp 102) 12, type := 0, pos := "ref.go:127", after := #[{ on := 3, ground := Ground.data }], guard := none }) (v := ?_) rfl (by kernel_rfl) (by kernel_rfl) (by kernel_rfl) (fun _ _ _ h => h) (Or.inl ⟨by rfl, ?_⟩) (by assumption) ?_
              rotate_left
              · (intro w hSw; go_simp; first | done | (with_reducible rfl))
              simp only [Act.put, List.setIfInBounds_toArray, List.set_cons_zero, List.set_cons_succ]
              refine wpAnyH_take (i := 5) (oi := { dst := some 104, op := Op.load 22 (Operand.tmp 103), type := 22, pos := "ref.go:127", after := #[{ on := 4, ground := Ground.data }], guard := none }) (v := ?_) rfl (by kernel_rfl) (by kernel_rfl) (by kernel_rfl) (fun _ _ _ h => h) (Or.inl ⟨by rfl, ?_⟩) (by assumption) ?_
              rotate_left
              · (intro w hSw; obtain ⟨ks, hSw⟩ := hSw; obtain ⟨q2, q3⟩ := HKP.out _ _ hSw; go_simp; first | done | (with_reducible rfl))
              simp only [Act.put, List.setIfInBounds_toArray, List.set_cons_zero, List.set_cons_succ]
              refine wpAnyH_take (i := 6) (oi := { dst := some 105, op := Op.move (Operand.tmp 14), type := 3, pos := "ref.go:127", after := #[], guard := none }) (v := ?_) rfl (by kernel_rfl) (by kernel_rfl) (by kernel_rfl) (fun _ _ _ h => h) (Or.inl ⟨by rfl, ?_⟩) (by assumption) ?_
              rotate_left
              · (intro w hSw; go_simp; first | done | (with_reducible rfl))
              simp only [Act.put, List.setIfInBounds_toArray, List.set_cons_zero, List.set_cons_succ]
              refine wpAnyH_take (i := 7) (oi := { dst := some 106, op := Op.indexAddr 22 (Operand.tmp 104) (Operand.tmp 105), type := 0, pos := "ref.go:127", after := #[{ on := 5, ground := Ground.data }, { on := 6, ground := Ground.data }], guard := none }) (v := ?_) rfl (by kernel_rfl) (by kernel_rfl) (by kernel_rfl) (fun _ _ _ h => h) (Or.inl ⟨by rfl, ?_⟩) (by assumption) ?_
              rotate_left
              · (intro w hSw; have l1 : (0 : Int) ≤ (a : Int) := (by omega); have l2 : (a : Int) < (np : Nat) := (by have := HAI.out; omega); have l3 : ((a : Nat) : Int).toNat = a := (by omega); go_simp; first | done | (with_reducible rfl))
              simp only [Act.put, List.setIfInBounds_toArray, List.set_cons_zero, List.set_cons_succ]
              refine wpAnyH_take (i := 8) (oi := { dst := some 107, op := Op.fieldAddr 73 (Operand.tmp 106) 1, type := 0, pos := "ref.go:127", after := #[{ on := 7, ground := Ground.data }], guard := none }) (v := ?_) rfl (by kernel_rfl) (by kernel_rfl) (by kernel_rfl) (fun _ _ _ h => h) (Or.inl ⟨by rfl, ?_⟩) (by assumption) ?_
              rotate_left
              · (intro w hSw; go_simp; first | done | (with_reducible rfl))
              simp only [Act.put, List.setIfInBounds_toArray, List.set_cons_zero, List.set_cons_succ]
              refine wpAnyH_take (i := 9) (oi := { dst := some 108, op := Op.load 9 (Operand.tmp 107), type := 9, pos := "ref.go:127", after := #[{ on := 8, ground := Ground.data }], guard := none }) (v := ?_) rfl (by kernel_rfl) (by kernel_rfl) (by kernel_rfl) (fun _ _ _ h => h) (Or.inl ⟨by rfl, ?_⟩) (by assumption) ?_
              rotate_left
              · (intro w hSw; obtain ⟨ks, hSw⟩ := hSw; obtain ⟨q2, q3⟩ := HKP.out _ _ hSw; go_simp; first | done | (with_reducible rfl))
              simp only [Act.put, List.setIfInBounds_toArray, List.set_cons_zero, List.set_cons_succ]
              refine wpAnyH_take (i := 10) (oi := { dst := some 109, op := Op.move (Operand.tmp 2), type := 9, pos := "ref.go:127", after := #[], guard := none }) (v := ?_) rfl (by kernel_rfl) (by kernel_rfl) (by kernel_rfl) (fun _ _ _ h => h) (Or.inl ⟨by rfl, ?_⟩) (by assumption) ?_
              rotate_left
              · (intro w hSw; go_simp; first | done | (with_reducible rfl))
              simp only [Act.put, List.setIfInBounds_toArray, List.set_cons_zero, List.set_cons_succ]
              refine wpAnyH_take (i := 11) (oi := { dst := some 110, op := Op.move (Operand.tmp 3), type := 9, pos := "ref.go:127", after := #[], guard := none }) (v := ?_) rfl (by kernel_rfl) (by kernel_rfl) (by kernel_rfl) (fun _ _ _ h => h) (Or.inl ⟨by rfl, ?_⟩) (by assumption) ?_
              rotate_left
              · (intro w hSw; go_simp; first | done | (with_reducible rfl))
              simp only [Act.put, List.setIfInBounds_toArray, List.set_cons_zero, List.set_cons_succ]
              refine wpAnyH_take (i := 12) (oi := { dst := some 111, op := Op.move (Operand.tmp 0), type := 29, pos := "ref.go:127", after := #[], guard := none }) (v := ?_) rfl (by kernel_rfl) (by kernel_rfl) (by kernel_rfl) (fun _ _ _ h => h) (Or.inl ⟨by rfl, ?_⟩) (by assumption) ?_
              rotate_left
              · (intro w hSw; go_simp; first | done | (with_reducible rfl))
              simp only [Act.put, List.setIfInBounds_toArray, List.set_cons_zero, List.set_cons_succ]
              refine wpAnyH_ready (rs := [13]) (by kernel_rfl) (by simp) ?_
              refine AllReadyH.cons (o := { dst := some 112, op := Op.call { callee := Callee.value (Operand.func 12), args := #[Operand.tmp 111], argTypes := #[29] }, type := 38, pos := "ref.go:127", after := #[{ on := 12, ground := Ground.data }], guard := none }) rfl (fun K hK => ?_) AllReadyH.nil
              go_simp
              refine hNx.mono ?_
              rintro e wD ⟨rfl, hw⟩
              subst hw
              refine hK.out _ _ ⟨_, HSD.out⟩ (fun hHeld => ?_)
              clear hK K hNx
              refine wpAnyH_ready (rs := [14]) (by kernel_rfl) (by simp) ?_
              refine AllReadyH.cons (o := { dst := some 113, op := Op.call { callee := Callee.value (Operand.func 74), args := #[Operand.tmp 112], argTypes := #[38] }, type := 9, pos := "ref.go:127", after := #[{ on := 13, ground := Ground.data }, { on := 13, ground := Ground.chain }], guard := none }) rfl (fun K hK => ?_) AllReadyH.nil
              go_simp
              refine (HLN.out _).mono ?_
              rintro e wE ⟨rfl, gE⟩
              have SE := HSD.out.grown gE
              have HSE := Keep.mk SE
              refine hK.out _ _ ⟨_, SE⟩ (fun hHeld => ?_)
              clear hK K gE SE HSD
              refine wpAnyH_ready (rs := [15]) (by kernel_rfl) (by simp) ?_
              refine AllReadyH.cons (o := { dst := some 114, op := Op.buildSlice 113 3 #[(0, Operand.tmp 109), (1, Operand.tmp 110), (2, Operand.tmp 113)], type := 113, pos := "ref.go:127", after := #[{ on := 10, ground := Ground.data }, { on := 11, ground := Ground.data }, { on := 14, ground := Ground.data }], guard := none }) rfl (fun K hK => ?_) AllReadyH.nil
              go_simp
              go_wp2_with fail
              have S6 := HSE.out.newBox #[.string nonce, .string salt, .string l8] 9
              refine hK.out _ _ ⟨_, S6.tail⟩ (fun hHeld => ?_)
              clear hK K
              generalize hw6 : World.alloc wE _ = w6 at S6 hHeld ⊢
              clear hw6 HSE
              generalize wE.heap.size = xb at S6 ⊢
              have HS6 := Keep.mk S6
              clear S6
              refine wpAnyH_ready (rs := [16]) (by kernel_rfl) (by simp) ?_
              refine AllReadyH.cons (o := { dst := some 115, op := Op.call { callee := Callee.value (Operand.func 73), args := #[Operand.tmp 108, Operand.const (Value.string { data := #[115, 101, 115, 115, 105, 111, 110] }), Operand.tmp 114], argTypes := #[9, 9, 113] }, type := 9, pos := "ref.go:127", after := #[{ on := 9, ground := Ground.data }, { on := 15, ground := Ground.data }, { on := 14, ground := Ground.chain }], guard := none }) rfl (fun K hK => ?_) AllReadyH.nil
              go_simp
              refine (HDV.out _ xb (HS6.out.boxGet k0m) HS6.out.g).mono ?_
              rintro e wF ⟨rfl, gF⟩
              have SF := (HS6.out.grown gF).tail
              have s8 : wF.cell? ⟨sb, 8, none⟩ = some (.string ⟨#[]⟩) := (SF.boxGet k0m).cellv 8 _ rfl
              have z8 : wF.frozen? ⟨sb, 8, none⟩ = false := (SF.boxGet k0m).frozen 8
              have S7 := SF.boxPut 8 (.string dv)
              obtain ⟨W7, hW7⟩ : ∃ W7, wF.setCell ⟨sb, 8, none⟩ (.string dv) = W7 := ⟨_, rfl⟩
              rw [hW7] at S7
              have HS7 : Keep (Sep w0 W7 (boxA sb [uv nx, iv (k : Nat), .string nm, .string fr, uv tick, uv 0, uv 0, iv (a : Nat), .string dv, pt wb, iv r, iv (16 * u), iv (16 * u), .bool false] 94 :: boxA wb [.slice none 0 0, uv 0] 135 :: boxA rb z7 49 :: (rlobL kb Y (v1, v2, ps) ++ l))) := ⟨S7⟩
              refine hK.out _ _ ⟨_, SF⟩ (fun hHeld => ?_)
              clear hK K gF SF S7 HS6
              refine wpAnyH_take (i := 17) (oi := { dst := some 116, op := Op.nilCheck (Operand.tmp 99), type := 0, pos := "ref.go:127", after := #[{ on := 0, ground := Ground.data }, { on := 0, ground := Ground.phase }, { on := 1, ground := Ground.phase }, { on := 2, ground := Ground.phase }, { on := 3, ground := Ground.phase }, { on := 4, ground := Ground.phase }, { on := 5, ground := Ground.phase }, { on := 6, ground := Ground.phase }, { on := 7, ground := Ground.phase }, { on := 8, ground := Ground.phase }, { on := 9, ground := Ground.phase }, { on := 10, ground := Ground.phase }, { on := 11, ground := Ground.phase }, { on := 12, ground := Ground.phase }, { on := 13, ground := Ground.phase }, { on := 14, ground := Ground.phase }, { on := 15, ground := Ground.phase }, { on := 16, ground := Ground.phase }], guard := none }) (v := ?_) rfl (by kernel_rfl) (by kernel_rfl) (by kernel_rfl) (fun _ _ _ h => h) (Or.inl ⟨by rfl, ?_⟩) (by assumption) ?_
              rotate_left
              · (intro w hSw; go_simp; first | done | (with_reducible rfl))
              simp only [Act.put, List.setIfInBounds_toArray, List.set_cons_zero, List.set_cons_succ]
              refine wpAnyH_take (i := 18) (oi := { dst := some 117, op := Op.fieldAddr 94 (Operand.tmp 116) 2, type := 0, pos := "ref.go:127", after := #[{ on := 17, ground := Ground.data }, { on := 0, ground := Ground.phase }, { on := 1, ground := Ground.phase }, { on := 2, ground := Ground.phase }, { on := 3, ground := Ground.phase }, { on := 4, ground := Ground.phase }, { on := 5, ground := Ground.phase }, { on := 6, ground := Ground.phase }, { on := 7, ground := Ground.phase }, { on := 8, ground := Ground.phase }, { on := 9, ground := Ground.phase }, { on := 10, ground := Ground.phase }, { on := 11, ground := Ground.phase }, { on := 12, ground := Ground.phase }, { on := 13, ground := Ground.phase }, { on := 14, ground := Ground.phase }, { on := 15, ground := Ground.phase }, { on := 16, ground := Ground.phase }], guard := none }) (v := ?_) rfl (by kernel_rfl) (by kernel_rfl) (by kernel_rfl) (fun _ _ _ h => h) (Or.inl ⟨by rfl, ?_⟩) (by assumption) ?_
              rotate_left
              · (intro w hSw; go_simp; first | done | (with_reducible rfl))
              simp only [Act.put, List.setIfInBounds_toArray, List.set_cons_zero, List.set_cons_succ]
              refine wpAnyH_ready (rs := [19]) (by kernel_rfl) (by simp) ?_
              refine AllReadyH.cons (o := { dst := none, op := Op.store 9 (Operand.tmp 117) (Operand.tmp 115), type := 0, pos := "ref.go:127", after := #[{ on := 18, ground := Ground.data }, { on := 16, ground := Ground.data }, { on := 16, ground := Ground.chain }, { on := 0, ground := Ground.phase }, { on := 1, ground := Ground.phase }, { on := 2, ground := Ground.phase }, { on := 3, ground := Ground.phase }, { on := 4, ground := Ground.phase }, { on := 5, ground := Ground.phase }, { on := 6, ground := Ground.phase }, { on := 7, ground := Ground.phase }, { on := 8, ground := Ground.phase }, { on := 9, ground := Ground.phase }, { on := 10, ground := Ground.phase }, { on := 11, ground := Ground.phase }, { on := 12, ground := Ground.phase }, { on := 13, ground := Ground.phase }, { on := 14, ground := Ground.phase }, { on := 15, ground := Ground.phase }, { on := 16, ground := Ground.phase }], guard := none }) rfl (fun K hK => ?_) AllReadyH.nil
              go_simp
              refine hK.out _ _ ⟨_, HS7.out⟩ (fun hHeld => ?_)
              clear hK K
              refine wpAnyH_done (by kernel_rfl) ?_ _
              obtain ⟨xx, hxx⟩ : ∃ xx : Rs, (⟨joiE X fr nonce salt nm tick a, [], false⟩ : Rs) = xx := ⟨_, rfl⟩
              have hbx : [uv nx, iv (k : Nat), .string nm, .string fr, uv tick, uv 0, uv 0, iv (a : Nat), .string dv, pt wb, iv r, iv (16 * u), iv (16 * u), .bool false] = rsv Y.c.rate Y.c.burst wb xx := by
                have e1 : txt (joiE X fr nonce salt nm tick a).key = dv := by
                  show txt (drv _ nonce salt X.next) = dv
                  rw [key_is HRL.out HOK.out.2.2.1.1 nonce salt, HNX.out.1, HEQ.out.1, HEQ.out.2]
                  rfl
                have e2 : (frS X).toNat = k := by rw [HJ.out]; omega
                rw [← hxx]
                unfold rsv
                rw [e1, HNX.out.2.1, HNX.out.2.2]
                show _ = [uv X.next, iv ((frS X).toNat : Nat), .string nm, .string fr, uv tick, uv 0, uv 0] ++ [iv (a : Nat), .string dv, pt wb, iv r, iv (16 * u), iv (16 * X.u), .bool false]
                rw [e2, HNX.out.1, HRL.out.u, HNX.out.2.2]
                rfl
              have S8 := HS7.out
              rw [hbx] at S8
              have S9 : Sep w0 W7 (boxA sb (rsv Y.c.rate Y.c.burst wb xx) 94 :: boxA wb [.slice none 0 0, uv 0] 135 :: (rlobL kb Y (v1, v2, ps) ++ boxA rb z7 49 :: l)) := S8.perm (List.Perm.cons _ (List.Perm.cons _ (List.perm_middle).symm))
              have c13 : W7.cell? ⟨kb, 13, none⟩ = some v2 := (rd_of S9.tail.tail).c13
              obtain ⟨av, cv, hv2⟩ : ∃ av cv, v2 = .slice av Y.S.length cv := (rd_of S9.tail.tail).sl
              obtain ⟨gn, cn, W9, rA, f13, d13, RNG, SZ⟩ := rl_push S9 (by rw [← hxx]; rfl) (by rw [← hxx]) (by have := HSZ.out.2.2; omega)
              obtain ⟨m1, hm1⟩ : ∃ m1, Y.S.length + 1 = m1 := ⟨_, rfl⟩
              rw [hm1] at rA RNG SZ
              obtain ⟨WA, hWA⟩ : ∃ WA, W9.setCell ⟨kb, 13, none⟩ (.slice (some ⟨gn, 0, none⟩) m1 cn) = WA := ⟨_, rfl⟩
              rw [hWA] at RNG SZ
              have HLV : Keep (lvc xx.s = lvc (joiE X fr nonce salt nm tick a)) := ⟨by rw [← hxx]⟩
              have HRJ : Keep (Rel { X with next := X.next + 1, S := X.S ++ [joiE X fr nonce salt nm tick a] } { Y with S := Y.S ++ [xx] } ∧ (Y.S ++ [xx]).length ≤ Y.S.length + 1 ∧ ∀ m, (∀ x ∈ Y.S, x.L.length ≤ m) → ∀ x ∈ Y.S ++ [xx], x.L.length ≤ m) := ⟨by
                rw [← hxx]
                refine ⟨rel_join HRL.out rfl rfl rfl, by simp, fun m hm x hx => ?_⟩
                rcases List.mem_append.1 hx with q | q
                · exact hm x q
                · rw [List.mem_singleton.1 q]; simp⟩
              have SZ' := SZ.swap
              have HSB := Keep.mk SZ'
              have HRB := Keep.mk (SZ'.boxGet k0m)
              have HA := Keep.mk rA
              have HL1 := Keep.mk (lvc_one xx.s)
              have HL7 : Keep ((lvc xx.s).length = 7) := ⟨rfl⟩
              have HRNG := Keep.mk RNG
              generalize lvc xx.s = lv at HLV HL1 HL7 HRNG
              obtain ⟨ny, hny⟩ : ∃ ny, Y.S.length = ny := ⟨_, rfl⟩
              rw [hny] at hv2
              subst hv2
              clear S8 S9 hbx hxx rA RNG SZ SZ' HS7 hW7 hHeld s8 z8 hm1 hny HDV HLN HKP HEQ
              go_wp2_with (first
                | (show wpList _ _ _ ({ dst := _, op := Op.load 49 _, type := _, pos := _, after := _, guard := _ } :: _) _ _
                   refine wpList_load_mid rfl 49 _ rfl _ _ rfl _ _ HRNG.out hdu hdr (by rw [HL7.out]; exact info42) ?_)
                | (show wpList _ _ _ ({ dst := _, op := Op.store 49 _ _, type := _, pos := _, after := _, guard := _ } :: _) _ _
                   refine store_box _ rb z7 lv 49 rfl rfl rfl rfl HRB.out (by rw [HL7.out]; rfl) (by rw [HL7.out]; exact info42) HL1.out ?_)
                | (at_builtin; refine wpList_append_run _ rfl (.tmp 122) (.tmp 124) 76 rfl _ _ rfl rfl HA.out ?_))
              intro w7 hS7 g7
              have HS7 := Keep.mk (hS7 _ _ HSB.out)
              clear hS7 g7 HRB HSB
              go_wp2_with fail
              refine Bu.ret_ct rfl rfl (HS7.out.boxGet k0m) hdu hdr (by rw [HL7.out]; exact info42) rfl ?_
              rw [HY.out.1, HY.out.2]
              refine ⟨by rw [HLV.out]; rfl, _, HS7.out.tail, ?_, HRJ.out.2⟩
              unfold joiX
              rw [HY.out.2]
              exact HRJ.out.1

end Go.Proofs.YtplcicbpkbamnabGreatDoor.Lo

