/- CarRound: the walk -/
import Derived.Test.YtobdcngjpgndiaaDoorD2
namespace Go.Proofs.YtobdcngjpgndiaaDoor.Bo
open Go Go.RowKit

def xB : ByteArray := ⟨#[120]⟩
/-- the car of a number of comings -/
def rnd (L : Bo) (p : Int) (k : Nat) (s : Int) : Cr := frC L { zC p xB with sp := k, sc := s }
set_option maxRecDepth 100000 in
theorem built30p : Tryd.prog.built 30 [(0, iv 5), (1, iv (-5))] = some #[iv 5, iv (-5)] := by kernel_rfl
set_option maxRecDepth 100000 in
set_option maxHeartbeats 64000000 in
theorem round_c (w : World) (s : ByteArray) (pl tm : Int) (hk : Kc w) :
    Calls Tryd.prog 3 #[.string s, iv pl, iv tm] w fun e w' => e = .returned (.bool true) ∧ w.grownBy w' none := by
  obtain ⟨du, hdu, hdr⟩ := underC
  have hA := alive_c w hk
  have HP := Keep.mk (fun W => parse_c W s)
  clear hk
  obtain ⟨p, hp⟩ : ∃ p, pl.tmod 1000000 = p := ⟨_, rfl⟩
  have hp1 := Int.tmod_lt_of_pos pl (show (0 : Int) < 1000000 by omega)
  have hp2 := Int.lt_tmod_of_pos pl (show (0 : Int) < 1000000 by omega)
  rw [hp] at hp1 hp2
  obtain ⟨t, ht⟩ : ∃ t, tm.tmod 30 = t := ⟨_, rfl⟩
  have ht1 := Int.tmod_lt_of_pos tm (show (0 : Int) < 30 by omega)
  have ht2 := Int.lt_tmod_of_pos tm (show (0 : Int) < 30 by omega)
  rw [ht] at ht1 ht2
  have hw9 : IntKind.i64.wrap (9 + t) = 9 + t := wi _ (by omega) (by omega)
  go_enter Tryd.func3, Tryd.ntmps3
  go_wp2_with fail
  refine hA.mono ?_
  rintro e w0 ⟨rfl, g0⟩
  have hP := HP.out w0
  have HG0 := Keep.mk g0
  clear hA g0 HP
  go_wp2_with fail
  refine hP.mono ?_
  rintro e w1 ⟨g1, h1⟩
  have HG1 := Keep.mk (HG0.out.trans g1)
  clear hP g1 HG0
  rcases h1 with ⟨_, rfl⟩ | ⟨_, _, rfl⟩ | ⟨_, hne, v, rfl, hB⟩
  · go_wp2_with fail
    go_ret
    exact ⟨rfl, HG1.out⟩
  · go_wp2_with fail
    go_ret
    exact ⟨rfl, HG1.out⟩
  generalize lns s = L at *
  obtain ⟨kb, _, _, hv, _⟩ := hB.o
  subst hv
  have HB := Keep.mk hB
  have hS := spawns_c w1 (pt kb) L hB
  have HNE := Keep.mk hne
  have h0 : 0 < (spn L).length := List.length_pos_iff.2 hne
  have h4 := spn_len hB.sh
  clear hB hne
  go_wp2_with fail
  refine hS.mono ?_
  rintro e w2 ⟨u, rfl, S2⟩
  obtain ⟨A, hAA⟩ : ∃ A, spn L = A := ⟨_, rfl⟩
  rw [hAA] at S2 h0 h4
  obtain ⟨m, hm⟩ : ∃ m, A.length = m := ⟨_, rfl⟩
  obtain ⟨g, cap, hu, _⟩ := own_any S2.rowLo h0
  rw [hm] at hu h0 h4
  subst hu
  have HAA := Keep.mk (And.intro hAA hm)
  have hN := new_c w2 (pt kb) L p xB (HB.out.kept S2.g) HNE.out (by decide)
  have HS := Keep.mk S2
  have hm0 : ((m : Int) == 0) = false := by simp; omega
  have hme : (m : Int) ≠ 0 := by omega
  clear hS S2 hAA hm
  go_wp2_with fail
  refine hN.mono ?_
  rintro e w3 ⟨rfl, g3⟩
  replace HS := Keep.mk (HS.out.grown g3)
  clear hN g3
  have S4 := HS.out.newBox zC14.toArray 32
  obtain ⟨W4, hW4⟩ : ∃ W_, w3.alloc (.cells zC14.toArray 32) = W_ := ⟨_, rfl⟩
  obtain ⟨cb, hcb⟩ : ∃ b_, w3.heap.size = b_ := ⟨_, rfl⟩
  rw [hW4, hcb] at S4
  unfold zC14 crv zC at hW4
  change w3.alloc _ = W4 at hW4
  change Sep w1 W4 [boxA cb zC14 32, vrow (.slice (some ⟨g, 0, none⟩) m cap) A] at S4
  replace HS := Keep.mk S4
  have HX_ := Keep.mk (S4.boxGet k0m)
  have HO_ := Keep.mk (crv_one (newC L p xB))
  clear S4
  go_wp2_with (first
    | (show wpList _ _ _ ({ dst := _, op := Op.store 32 _ _, type := _, pos := _, after := _, guard := _ } :: _) _ _
       refine store_at _ cb 0 zC14 (crv (newC L p xB)) 32 32 rfl rfl rfl rfl HX_.out (Nat.le_refl _) (infoC' (newC L p xB)) HO_.out ?_))
  intro w5 hS_ g_
  have S5 := hS_ _ _ HS.out
  rw [over_all zC14 (crv (newC L p xB)) rfl] at S5
  change Sep w1 w5 [boxA cb (crv (newC L p xB)) 32, vrow (.slice (some ⟨g, 0, none⟩) m cap) A] at S5
  replace HS := Keep.mk S5
  clear S5 hS_ g_ HX_ HO_ hW4 hcb
  go_wp2_with fail
  go_loopw [12] (fun u wr => ∃ (k : Nat) (c : Cr), k ≤ 39 ∧ u = iv k ∧ Keep (∃ s, c = rnd L p k s) ∧ Keep (Sep w1 wr [boxA cb (crv c) 32, vrow (.slice (some ⟨g, 0, none⟩) m cap) A])) (fun u _ => (9 + t - intOf u).toNat)
  case atStart => exact ⟨0, newC L p xB, by omega, rfl, ⟨0, rfl⟩, HS⟩
  case round =>
    obtain ⟨k, c, hk39, rfl, hC, hR⟩ := hrel
    replace HS := hR
    clear hR
    by_cases hlt : (k : Int) < 9 + t
    · have hd : decide ((k : Int) < 9 + t) = true := decide_eq_true hlt
      have hki : IntKind.i64.wrap ((k : Int) + 1) = ((k + 1 : Nat) : Int) := by rw [wi _ (by omega) (by omega)]; omega
      have hpk : IntKind.i64.wrap (p + (k : Int)) = p + (k : Int) := wi _ (by omega) (by omega)
      have hnk : IntKind.i64.wrap (-(k : Int)) = -(k : Int) := wi _ (by omega) (by omega)
      have h3k : IntKind.i64.wrap (3 * (k : Int)) = 3 * (k : Int) := wi _ (by omega) (by omega)
      obtain ⟨sc, hc⟩ := hC.out
      clear hC
      obtain ⟨q, hq⟩ : ∃ q, p + (k : Int) = q := ⟨_, rfl⟩
      obtain ⟨r, hr⟩ : ∃ r, q.tmod (m : Int) = r := ⟨_, rfl⟩
      obtain ⟨e1, e2, e3, e4⟩ := tm_em q m r (by omega) hr
      obtain ⟨kk, hkk⟩ : ∃ kk, (q % (m : Int)).toNat = kk := ⟨_, rfl⟩
      have hem := Int.emod_nonneg q hme
      have hlm := Int.emod_lt_of_pos q (show (0 : Int) < (m : Int) by omega)
      have hkm : (kk : Int) < (m : Int) := by omega
      have hkt : ((kk : Nat) : Int).toNat = kk := by omega
      have d1 : r < 0 → IntKind.i64.wrap (r + m) = (kk : Int) := fun z => by
        rw [wi _ (by omega) (by omega)]
        have := e1 z
        omega
      have d2 : 0 ≤ r → r = (kk : Int) := fun z => by
        have := e2 z
        omega
      have hget := spw_get L HNE.out q
      rw [HAA.out.1, HAA.out.2, hkk] at hget
      have HVQ := Keep.mk (vcs_get hget)
      have hw64 : w64 (p + (k : Int)) = q := by rw [← hq]; exact hpk
      have hr2 : (p + (k : Int)).tmod (m : Int) = r := by rw [hq]; exact hr
      have HSC : Keep ((crv c)[13]? = some (iv sc)) := ⟨by rw [hc]; rfl⟩
      have HBU : Keep (Tryd.prog.built 32 [(0, iv p), (1, .string xB), (2, vv (spw L q).1 (spw L q).2), (5, iv 100), (6, iv 100), (7, iv 20), (10, iv (k : Int)), (11, iv sc)] = some (crv c).toArray) := ⟨by
        rw [built32, hc]
        unfold rnd frC zC
        simp only [hw64]
        rfl⟩
      have HCM : Keep (∀ W (c2 : Cr), w1.grownBy W none → c2 = { c with sx := 5, sy := -5, hd := 7, he := -(k : Int), en := (k : Int), am := -1, co := 3, wa := (k : Int), sc := 3 * (k : Int) } → Calls Tryd.prog 13 #[pt kb, .agg (crv c2).toArray] W fun e w' => e = .returned (.agg (crv (rnd L p (k + 1) (3 * (k : Int)))).toArray) ∧ W.grownBy w' none) := ⟨fun W c2 gW h2 => by
        have h := come_c W (pt kb) L c2 (HB.out.kept gW) HNE.out (by rw [h2, hc]; show xB.size ≤ _; decide)
        have e : comC L c2 = rnd L p (k + 1) (3 * (k : Int)) := by
          rw [h2, hc]
          unfold comC rnd frC zC
          simp only [show w64 ((k : Int) + 1) = ((k + 1 : Nat) : Int) from hki]
        rw [e] at h
        exact h⟩
      have HVC : Keep (∀ W, Sep w1 W [boxA cb (crv c) 32, vrow (.slice (some ⟨g, 0, none⟩) m cap) A] → W.cell? ⟨g, kk * 2, none⟩ = some (iv (spw L q).1) ∧ W.cell? ⟨g, kk * 2 + 1, none⟩ = some (iv (spw L q).2)) := ⟨fun W hS => by
        obtain ⟨g', c', e', hc'⟩ := own_any hS.swap.rowLo (by rw [HAA.out.2]; exact h0)
        injection e' with e1' e2' e3'
        injection e1' with e1'
        injection e1' with e1'
        subst e1'
        exact ⟨(hc' _ _ HVQ.out.1).1, (hc' _ _ HVQ.out.2).1⟩⟩
      obtain ⟨cn, hcn⟩ : ∃ cn, rnd L p (k + 1) (3 * (k : Int)) = cn := ⟨_, rfl⟩
      rw [hcn] at HCM
      have HCN : Keep (∃ s, cn = rnd L p (k + 1) s) := ⟨3 * (k : Int), hcn.symm⟩
      clear hc hget hw64 hcn e1 e2 hkk hem hlm hq HVQ hr
      generalize (spw L q).1 = vx at *
      generalize (spw L q).2 = vy at *
      have hrw : IntKind.i64.wrap r = r := wi _ (by omega) (by omega)
      by_cases hneg : r < 0
      · have d := d1 hneg
        have hdn : decide (r < 0) = true := decide_eq_true hneg
        clear d1 d2
        go_wp2_with fail
        refine region_X (S := fun w' => Sep w1 w' [boxA cb (crv c) 32, vrow (.slice (some ⟨g, 0, none⟩) m cap) A]) [] (by kernel_rfl) (HS.out.grown (gr_drew _ _)) (fun hHeld => ?_)
        replace HS := Keep.mk hHeld
        refine wpAnyX_take (i := 0) (oi := _) (v := _) rfl (by kernel_rfl) (by kernel_rfl) (by kernel_rfl) (by kernel_rfl) (by kernel_rfl) (fun _ _ _ h => h) (yieldsIf_load_mid (by rfl) 32 _ rfl _ _ rfl _ _ (fun w_ hS_ => (hS_.boxGet k0m).range) hdu hdr (infoC' c)) (by assumption) ?_
        simp only [Act.put, List.getElem_toArray, List.getElem_cons_zero, List.setIfInBounds_toArray, List.set_cons_zero, List.set_cons_succ]
        refine wpAnyX_take (i := 1) (oi := _) (v := ?_) rfl (by kernel_rfl) (by kernel_rfl) (by kernel_rfl) (by kernel_rfl) (by kernel_rfl) (fun _ _ _ h => h) (Or.inl ⟨by rfl, ?_⟩) (by assumption) ?_
        rotate_left
        · (intro w hSw; go_simp; first | done | (with_reducible rfl))
        simp only [Act.put, List.getElem_toArray, List.getElem_cons_succ, List.getElem_cons_zero, List.setIfInBounds_toArray, List.set_cons_zero, List.set_cons_succ]
        refine wpAnyX_take (i := 2) (oi := _) (v := ?_) rfl (by kernel_rfl) (by kernel_rfl) (by kernel_rfl) (by kernel_rfl) (by kernel_rfl) (fun _ _ _ h => h) (Or.inl ⟨by rfl, ?_⟩) (by assumption) ?_
        rotate_left
        · (intro w hSw; go_simp; first | done | (with_reducible rfl))
        simp only [Act.put, List.getElem_toArray, List.getElem_cons_succ, List.getElem_cons_zero, List.setIfInBounds_toArray, List.set_cons_zero, List.set_cons_succ]
        refine wpAnyX_take (i := 3) (oi := _) (v := ?_) rfl (by kernel_rfl) (by kernel_rfl) (by kernel_rfl) (by kernel_rfl) (by kernel_rfl) (fun _ _ _ h => h) (Or.inl ⟨by rfl, ?_⟩) (by assumption) ?_
        rotate_left
        · (intro w hSw; go_simp; first | done | (with_reducible rfl))
        simp only [Act.put, List.getElem_toArray, List.getElem_cons_succ, List.getElem_cons_zero, List.setIfInBounds_toArray, List.set_cons_zero, List.set_cons_succ]
        refine wpAnyX_take (i := 4) (oi := _) (v := ?_) rfl (by kernel_rfl) (by kernel_rfl) (by kernel_rfl) (by kernel_rfl) (by kernel_rfl) (fun _ _ _ h => h) (Or.inl ⟨by rfl, ?_⟩) (by assumption) ?_
        rotate_left
        · (intro w hSw; go_simp; first | done | (with_reducible rfl))
        simp only [Act.put, List.getElem_toArray, List.getElem_cons_succ, List.getElem_cons_zero, List.setIfInBounds_toArray, List.set_cons_zero, List.set_cons_succ]
        refine wpAnyX_take (i := 5) (oi := _) (v := ?_) rfl (by kernel_rfl) (by kernel_rfl) (by kernel_rfl) (by kernel_rfl) (by kernel_rfl) (fun _ _ _ h => h) (Or.inl ⟨by rfl, ?_⟩) (by assumption) ?_
        rotate_left
        · (intro w hSw; obtain ⟨q0, q1⟩ := HVC.out _ hSw; go_simp; first | done | (with_reducible rfl))
        simp only [Act.put, List.getElem_toArray, List.getElem_cons_succ, List.getElem_cons_zero, List.setIfInBounds_toArray, List.set_cons_zero, List.set_cons_succ]
        refine wpAnyX_take (i := 6) (oi := _) (v := ?_) rfl (by kernel_rfl) (by kernel_rfl) (by kernel_rfl) (by kernel_rfl) (by kernel_rfl) (fun _ _ _ h => h) (Or.inl ⟨by rfl, ?_⟩) (by assumption) ?_
        rotate_left
        · (intro w hSw; go_simp; first | done | (with_reducible rfl))
        simp only [Act.put, List.getElem_toArray, List.getElem_cons_succ, List.getElem_cons_zero, List.setIfInBounds_toArray, List.set_cons_zero, List.set_cons_succ]
        refine wpAnyX_take (i := 7) (oi := _) (v := ?_) rfl (by kernel_rfl) (by kernel_rfl) (by kernel_rfl) (by kernel_rfl) (by kernel_rfl) (fun _ _ _ h => h) (Or.inl ⟨by rfl, ?_⟩) (by assumption) ?_
        rotate_left
        · (intro w hSw; go_simp; first | done | (with_reducible rfl))
        simp only [Act.put, List.getElem_toArray, List.getElem_cons_succ, List.getElem_cons_zero, List.setIfInBounds_toArray, List.set_cons_zero, List.set_cons_succ]
        refine wpAnyX_take (i := 8) (oi := _) (v := ?_) rfl (by kernel_rfl) (by kernel_rfl) (by kernel_rfl) (by kernel_rfl) (by kernel_rfl) (fun _ _ _ h => h) (Or.inl ⟨by rfl, ?_⟩) (by assumption) ?_
        rotate_left
        · (intro w hSw; have q13 := (hSw.boxGet k0m).cellv 13 _ HSC.out; go_simp; first | done | (with_reducible rfl))
        simp only [Act.put, List.getElem_toArray, List.getElem_cons_succ, List.getElem_cons_zero, List.setIfInBounds_toArray, List.set_cons_zero, List.set_cons_succ]
        refine wpAnyX_take (i := 9) (oi := _) (v := .agg (crv c).toArray) rfl (by kernel_rfl) (by kernel_rfl) (by kernel_rfl) (by kernel_rfl) (by kernel_rfl) (fun _ _ _ h => h) (yieldsIf_build (by rfl) 32 _ rfl _ ?_) (by assumption) ?_
        · refine (congrArg (Tryd.prog.built 32) ?_).trans HBU.out
          simp only [List.map_toArray, List.map_cons, List.map_nil]
          rfl
        simp only [Act.put, List.getElem_toArray, List.getElem_cons_succ, List.getElem_cons_zero, List.setIfInBounds_toArray, List.set_cons_zero, List.set_cons_succ]
        refine wpAnyX_take (i := 10) (oi := _) (v := ?_) rfl (by kernel_rfl) (by kernel_rfl) (by kernel_rfl) (by kernel_rfl) (by kernel_rfl) (fun _ _ _ h => h) (Or.inl ⟨by rfl, ?_⟩) (by assumption) ?_
        rotate_left
        · (intro w hSw; have hE := eq32 c w; go_simp; first | done | (with_reducible rfl))
        simp only [Act.put, List.getElem_toArray, List.getElem_cons_succ, List.getElem_cons_zero, List.setIfInBounds_toArray, List.set_cons_zero, List.set_cons_succ]
        refine wpAnyX_done (by kernel_rfl) ?_ _
        clear hHeld
        obtain ⟨wz, hwz⟩ : ∃ wz, wr.drew = wz := ⟨_, rfl⟩
        rw [hwz] at HS ⊢
        clear hwz
        have y1_ : wz.cell? ⟨cb, 5, none⟩ = some (iv c.sy) := (HS.out.boxGet k0m).cellv 5 _ rfl
        have f1_ : wz.frozen? ⟨cb, 5, none⟩ = false := (HS.out.boxGet k0m).frozen 5
        have y2_ : wz.cell? ⟨cb, 4, none⟩ = some (iv c.sx) := (HS.out.boxGet k0m).cellv 4 _ rfl
        have f2_ : wz.frozen? ⟨cb, 4, none⟩ = false := (HS.out.boxGet k0m).frozen 4
        have S_ := (fr1 [] HS.out).boxPut 4 (iv 5)
        obtain ⟨w2_, hw2_⟩ : ∃ W_, wz.setCell ⟨cb, 4, none⟩ (iv 5) = W_ := ⟨_, rfl⟩
        rw [hw2_] at S_
        change Sep w1 w2_ [boxA cb (crv { c with sx := 5 }) 32, vrow (.slice (some ⟨g, 0, none⟩) m cap) A] at S_
        replace HS := Keep.mk S_
        clear S_
        have y3_ : w2_.cell? ⟨cb, 5, none⟩ = some (iv c.sy) := (HS.out.boxGet k0m).cellv 5 _ rfl
        have f3_ : w2_.frozen? ⟨cb, 5, none⟩ = false := (HS.out.boxGet k0m).frozen 5
        have S_ := (fr1 [] HS.out).boxPut 5 (iv (-5))
        obtain ⟨w3_, hw3_⟩ : ∃ W_, w2_.setCell ⟨cb, 5, none⟩ (iv (-5)) = W_ := ⟨_, rfl⟩
        rw [hw3_] at S_
        change Sep w1 w3_ [boxA cb (crv { c with sx := 5, sy := -5 }) 32, vrow (.slice (some ⟨g, 0, none⟩) m cap) A] at S_
        replace HS := Keep.mk S_
        clear S_
        have y4_ : w3_.cell? ⟨cb, 6, none⟩ = some (iv c.hd) := (HS.out.boxGet k0m).cellv 6 _ rfl
        have f4_ : w3_.frozen? ⟨cb, 6, none⟩ = false := (HS.out.boxGet k0m).frozen 6
        have S_ := (fr1 [] HS.out).boxPut 6 (iv 7)
        obtain ⟨w4_, hw4_⟩ : ∃ W_, w3_.setCell ⟨cb, 6, none⟩ (iv 7) = W_ := ⟨_, rfl⟩
        rw [hw4_] at S_
        change Sep w1 w4_ [boxA cb (crv { c with sx := 5, sy := -5, hd := 7 }) 32, vrow (.slice (some ⟨g, 0, none⟩) m cap) A] at S_
        replace HS := Keep.mk S_
        clear S_
        have y5_ : w4_.cell? ⟨cb, 7, none⟩ = some (iv c.he) := (HS.out.boxGet k0m).cellv 7 _ rfl
        have f5_ : w4_.frozen? ⟨cb, 7, none⟩ = false := (HS.out.boxGet k0m).frozen 7
        have S_ := (fr1 [] HS.out).boxPut 7 (iv (-(k : Int)))
        obtain ⟨w5_, hw5_⟩ : ∃ W_, w4_.setCell ⟨cb, 7, none⟩ (iv (-(k : Int))) = W_ := ⟨_, rfl⟩
        rw [hw5_] at S_
        change Sep w1 w5_ [boxA cb (crv { c with sx := 5, sy := -5, hd := 7, he := (-(k : Int)) }) 32, vrow (.slice (some ⟨g, 0, none⟩) m cap) A] at S_
        replace HS := Keep.mk S_
        clear S_
        have y6_ : w5_.cell? ⟨cb, 8, none⟩ = some (iv c.en) := (HS.out.boxGet k0m).cellv 8 _ rfl
        have f6_ : w5_.frozen? ⟨cb, 8, none⟩ = false := (HS.out.boxGet k0m).frozen 8
        have S_ := (fr1 [] HS.out).boxPut 8 (iv (k : Int))
        obtain ⟨w6_, hw6_⟩ : ∃ W_, w5_.setCell ⟨cb, 8, none⟩ (iv (k : Int)) = W_ := ⟨_, rfl⟩
        rw [hw6_] at S_
        change Sep w1 w6_ [boxA cb (crv { c with sx := 5, sy := -5, hd := 7, he := (-(k : Int)), en := (k : Int) }) 32, vrow (.slice (some ⟨g, 0, none⟩) m cap) A] at S_
        replace HS := Keep.mk S_
        clear S_
        have y7_ : w6_.cell? ⟨cb, 9, none⟩ = some (iv c.am) := (HS.out.boxGet k0m).cellv 9 _ rfl
        have f7_ : w6_.frozen? ⟨cb, 9, none⟩ = false := (HS.out.boxGet k0m).frozen 9
        have S_ := (fr1 [] HS.out).boxPut 9 (iv (-1))
        obtain ⟨w7_, hw7_⟩ : ∃ W_, w6_.setCell ⟨cb, 9, none⟩ (iv (-1)) = W_ := ⟨_, rfl⟩
        rw [hw7_] at S_
        change Sep w1 w7_ [boxA cb (crv { c with sx := 5, sy := -5, hd := 7, he := (-(k : Int)), en := (k : Int), am := (-1) }) 32, vrow (.slice (some ⟨g, 0, none⟩) m cap) A] at S_
        replace HS := Keep.mk S_
        clear S_
        have y8_ : w7_.cell? ⟨cb, 10, none⟩ = some (iv c.co) := (HS.out.boxGet k0m).cellv 10 _ rfl
        have f8_ : w7_.frozen? ⟨cb, 10, none⟩ = false := (HS.out.boxGet k0m).frozen 10
        have S_ := (fr1 [] HS.out).boxPut 10 (iv 3)
        obtain ⟨w8_, hw8_⟩ : ∃ W_, w7_.setCell ⟨cb, 10, none⟩ (iv 3) = W_ := ⟨_, rfl⟩
        rw [hw8_] at S_
        change Sep w1 w8_ [boxA cb (crv { c with sx := 5, sy := -5, hd := 7, he := (-(k : Int)), en := (k : Int), am := (-1), co := 3 }) 32, vrow (.slice (some ⟨g, 0, none⟩) m cap) A] at S_
        replace HS := Keep.mk S_
        clear S_
        have y9_ : w8_.cell? ⟨cb, 11, none⟩ = some (iv c.wa) := (HS.out.boxGet k0m).cellv 11 _ rfl
        have f9_ : w8_.frozen? ⟨cb, 11, none⟩ = false := (HS.out.boxGet k0m).frozen 11
        have S_ := (fr1 [] HS.out).boxPut 11 (iv (k : Int))
        obtain ⟨w9_, hw9_⟩ : ∃ W_, w8_.setCell ⟨cb, 11, none⟩ (iv (k : Int)) = W_ := ⟨_, rfl⟩
        rw [hw9_] at S_
        change Sep w1 w9_ [boxA cb (crv { c with sx := 5, sy := -5, hd := 7, he := (-(k : Int)), en := (k : Int), am := (-1), co := 3, wa := (k : Int) }) 32, vrow (.slice (some ⟨g, 0, none⟩) m cap) A] at S_
        replace HS := Keep.mk S_
        clear S_
        have y10_ : w9_.cell? ⟨cb, 13, none⟩ = some (iv c.sc) := (HS.out.boxGet k0m).cellv 13 _ rfl
        have f10_ : w9_.frozen? ⟨cb, 13, none⟩ = false := (HS.out.boxGet k0m).frozen 13
        have S_ := (fr1 [] HS.out).boxPut 13 (iv (3 * (k : Int)))
        obtain ⟨w10_, hw10_⟩ : ∃ W_, w9_.setCell ⟨cb, 13, none⟩ (iv (3 * (k : Int))) = W_ := ⟨_, rfl⟩
        rw [hw10_] at S_
        change Sep w1 w10_ [boxA cb (crv { c with sx := 5, sy := -5, hd := 7, he := (-(k : Int)), en := (k : Int), am := (-1), co := 3, wa := (k : Int), sc := (3 * (k : Int)) }) 32, vrow (.slice (some ⟨g, 0, none⟩) m cap) A] at S_
        replace HS := Keep.mk S_
        clear S_
        obtain ⟨c2, hc2_⟩ : ∃ c_ : Cr, ({ c with sx := 5, sy := -5, hd := 7, he := (-(k : Int)), en := (k : Int), am := (-1), co := 3, wa := (k : Int), sc := (3 * (k : Int)) } : Cr) = c_ := ⟨_, rfl⟩
        rw [hc2_] at HS
        have HC2 := Keep.mk hc2_
        clear hc2_
        have RN11 := Keep.mk (HS.out.boxGet k0m).range
        have hcm := HCM.out w10_ c2 (HS.out.g) HC2.out.symm
        go_wp2_with (first
          | (show wpList _ _ _ ({ dst := _, op := Op.load 32 (Operand.tmp 11), type := _, pos := _, after := _, guard := _ } :: _) _ _
             refine load_g (by rfl) 32 _ rfl _ _ rfl _ _ RN11.out hdu hdr (infoC' c2) ?_))
        refine (hcm).mono ?_
        rintro e w11_ ⟨rfl, g_⟩
        clear RN11
        replace HS := Keep.mk (HS.out.grown g_)
        clear g_
        have RN11 := Keep.mk (HS.out.boxGet k0m).range
        have HX_ := Keep.mk (HS.out.boxGet k0m)
        have HO_ := Keep.mk (crv_one cn)
        go_wp2_with (first
          | (show wpList _ _ _ ({ dst := _, op := Op.load 32 (Operand.tmp 11), type := _, pos := _, after := _, guard := _ } :: _) _ _
             refine load_g (by rfl) 32 _ rfl _ _ rfl _ _ RN11.out hdu hdr (infoC' c2) ?_)
          | (show wpList _ _ _ ({ dst := _, op := Op.store 32 (Operand.tmp 11) _, type := _, pos := _, after := _, guard := _ } :: _) _ _
             refine store_at _ cb 0 (crv c2) (crv cn) 32 32 rfl rfl rfl rfl HX_.out (Nat.le_refl _) (infoC' cn) HO_.out ?_))
        intro w12_ hS_ g_
        have S_ := hS_ _ _ (fr1 [] HS.out)
        rw [over_all (crv c2) (crv cn) rfl] at S_
        clear RN11
        change Sep w1 w12_ [boxA cb (crv cn) 32, vrow (.slice (some ⟨g, 0, none⟩) m cap) A] at S_
        replace HS := Keep.mk S_
        clear S_ hS_ g_ HX_ HO_
        have RN11 := Keep.mk (HS.out.boxGet k0m).range
        clear hcm
        clear RN11
        go_wp2_with fail
        exact ⟨⟨k + 1, cn, by omega, rfl, HCN, HS⟩, by simp [intOf]; omega⟩
      · have d := d2 (by omega)
        have hdn : decide (r < 0) = false := decide_eq_false hneg
        clear d1 d2
        subst d
        go_wp2_with fail
        refine region_X (S := fun w' => Sep w1 w' [boxA cb (crv c) 32, vrow (.slice (some ⟨g, 0, none⟩) m cap) A]) [] (by kernel_rfl) (HS.out.grown (gr_drew _ _)) (fun hHeld => ?_)
        replace HS := Keep.mk hHeld
        refine wpAnyX_take (i := 0) (oi := _) (v := _) rfl (by kernel_rfl) (by kernel_rfl) (by kernel_rfl) (by kernel_rfl) (by kernel_rfl) (fun _ _ _ h => h) (yieldsIf_load_mid (by rfl) 32 _ rfl _ _ rfl _ _ (fun w_ hS_ => (hS_.boxGet k0m).range) hdu hdr (infoC' c)) (by assumption) ?_
        simp only [Act.put, List.getElem_toArray, List.getElem_cons_zero, List.setIfInBounds_toArray, List.set_cons_zero, List.set_cons_succ]
        refine wpAnyX_take (i := 1) (oi := _) (v := ?_) rfl (by kernel_rfl) (by kernel_rfl) (by kernel_rfl) (by kernel_rfl) (by kernel_rfl) (fun _ _ _ h => h) (Or.inl ⟨by rfl, ?_⟩) (by assumption) ?_
        rotate_left
        · (intro w hSw; go_simp; first | done | (with_reducible rfl))
        simp only [Act.put, List.getElem_toArray, List.getElem_cons_succ, List.getElem_cons_zero, List.setIfInBounds_toArray, List.set_cons_zero, List.set_cons_succ]
        refine wpAnyX_take (i := 2) (oi := _) (v := ?_) rfl (by kernel_rfl) (by kernel_rfl) (by kernel_rfl) (by kernel_rfl) (by kernel_rfl) (fun _ _ _ h => h) (Or.inl ⟨by rfl, ?_⟩) (by assumption) ?_
        rotate_left
        · (intro w hSw; go_simp; first | done | (with_reducible rfl))
        simp only [Act.put, List.getElem_toArray, List.getElem_cons_succ, List.getElem_cons_zero, List.setIfInBounds_toArray, List.set_cons_zero, List.set_cons_succ]
        refine wpAnyX_take (i := 3) (oi := _) (v := ?_) rfl (by kernel_rfl) (by kernel_rfl) (by kernel_rfl) (by kernel_rfl) (by kernel_rfl) (fun _ _ _ h => h) (Or.inl ⟨by rfl, ?_⟩) (by assumption) ?_
        rotate_left
        · (intro w hSw; go_simp; first | done | (with_reducible rfl))
        simp only [Act.put, List.getElem_toArray, List.getElem_cons_succ, List.getElem_cons_zero, List.setIfInBounds_toArray, List.set_cons_zero, List.set_cons_succ]
        refine wpAnyX_take (i := 4) (oi := _) (v := ?_) rfl (by kernel_rfl) (by kernel_rfl) (by kernel_rfl) (by kernel_rfl) (by kernel_rfl) (fun _ _ _ h => h) (Or.inl ⟨by rfl, ?_⟩) (by assumption) ?_
        rotate_left
        · (intro w hSw; go_simp; first | done | (with_reducible rfl))
        simp only [Act.put, List.getElem_toArray, List.getElem_cons_succ, List.getElem_cons_zero, List.setIfInBounds_toArray, List.set_cons_zero, List.set_cons_succ]
        refine wpAnyX_take (i := 5) (oi := _) (v := ?_) rfl (by kernel_rfl) (by kernel_rfl) (by kernel_rfl) (by kernel_rfl) (by kernel_rfl) (fun _ _ _ h => h) (Or.inl ⟨by rfl, ?_⟩) (by assumption) ?_
        rotate_left
        · (intro w hSw; obtain ⟨q0, q1⟩ := HVC.out _ hSw; go_simp; first | done | (with_reducible rfl))
        simp only [Act.put, List.getElem_toArray, List.getElem_cons_succ, List.getElem_cons_zero, List.setIfInBounds_toArray, List.set_cons_zero, List.set_cons_succ]
        refine wpAnyX_take (i := 6) (oi := _) (v := ?_) rfl (by kernel_rfl) (by kernel_rfl) (by kernel_rfl) (by kernel_rfl) (by kernel_rfl) (fun _ _ _ h => h) (Or.inl ⟨by rfl, ?_⟩) (by assumption) ?_
        rotate_left
        · (intro w hSw; go_simp; first | done | (with_reducible rfl))
        simp only [Act.put, List.getElem_toArray, List.getElem_cons_succ, List.getElem_cons_zero, List.setIfInBounds_toArray, List.set_cons_zero, List.set_cons_succ]
        refine wpAnyX_take (i := 7) (oi := _) (v := ?_) rfl (by kernel_rfl) (by kernel_rfl) (by kernel_rfl) (by kernel_rfl) (by kernel_rfl) (fun _ _ _ h => h) (Or.inl ⟨by rfl, ?_⟩) (by assumption) ?_
        rotate_left
        · (intro w hSw; go_simp; first | done | (with_reducible rfl))
        simp only [Act.put, List.getElem_toArray, List.getElem_cons_succ, List.getElem_cons_zero, List.setIfInBounds_toArray, List.set_cons_zero, List.set_cons_succ]
        refine wpAnyX_take (i := 8) (oi := _) (v := ?_) rfl (by kernel_rfl) (by kernel_rfl) (by kernel_rfl) (by kernel_rfl) (by kernel_rfl) (fun _ _ _ h => h) (Or.inl ⟨by rfl, ?_⟩) (by assumption) ?_
        rotate_left
        · (intro w hSw; have q13 := (hSw.boxGet k0m).cellv 13 _ HSC.out; go_simp; first | done | (with_reducible rfl))
        simp only [Act.put, List.getElem_toArray, List.getElem_cons_succ, List.getElem_cons_zero, List.setIfInBounds_toArray, List.set_cons_zero, List.set_cons_succ]
        refine wpAnyX_take (i := 9) (oi := _) (v := .agg (crv c).toArray) rfl (by kernel_rfl) (by kernel_rfl) (by kernel_rfl) (by kernel_rfl) (by kernel_rfl) (fun _ _ _ h => h) (yieldsIf_build (by rfl) 32 _ rfl _ ?_) (by assumption) ?_
        · refine (congrArg (Tryd.prog.built 32) ?_).trans HBU.out
          simp only [List.map_toArray, List.map_cons, List.map_nil]
          rfl
        simp only [Act.put, List.getElem_toArray, List.getElem_cons_succ, List.getElem_cons_zero, List.setIfInBounds_toArray, List.set_cons_zero, List.set_cons_succ]
        refine wpAnyX_take (i := 10) (oi := _) (v := ?_) rfl (by kernel_rfl) (by kernel_rfl) (by kernel_rfl) (by kernel_rfl) (by kernel_rfl) (fun _ _ _ h => h) (Or.inl ⟨by rfl, ?_⟩) (by assumption) ?_
        rotate_left
        · (intro w hSw; have hE := eq32 c w; go_simp; first | done | (with_reducible rfl))
        simp only [Act.put, List.getElem_toArray, List.getElem_cons_succ, List.getElem_cons_zero, List.setIfInBounds_toArray, List.set_cons_zero, List.set_cons_succ]
        refine wpAnyX_done (by kernel_rfl) ?_ _
        clear hHeld
        obtain ⟨wz, hwz⟩ : ∃ wz, wr.drew = wz := ⟨_, rfl⟩
        rw [hwz] at HS ⊢
        clear hwz
        have y1_ : wz.cell? ⟨cb, 5, none⟩ = some (iv c.sy) := (HS.out.boxGet k0m).cellv 5 _ rfl
        have f1_ : wz.frozen? ⟨cb, 5, none⟩ = false := (HS.out.boxGet k0m).frozen 5
        have y2_ : wz.cell? ⟨cb, 4, none⟩ = some (iv c.sx) := (HS.out.boxGet k0m).cellv 4 _ rfl
        have f2_ : wz.frozen? ⟨cb, 4, none⟩ = false := (HS.out.boxGet k0m).frozen 4
        have S_ := (fr1 [] HS.out).boxPut 4 (iv 5)
        obtain ⟨w2_, hw2_⟩ : ∃ W_, wz.setCell ⟨cb, 4, none⟩ (iv 5) = W_ := ⟨_, rfl⟩
        rw [hw2_] at S_
        change Sep w1 w2_ [boxA cb (crv { c with sx := 5 }) 32, vrow (.slice (some ⟨g, 0, none⟩) m cap) A] at S_
        replace HS := Keep.mk S_
        clear S_
        have y3_ : w2_.cell? ⟨cb, 5, none⟩ = some (iv c.sy) := (HS.out.boxGet k0m).cellv 5 _ rfl
        have f3_ : w2_.frozen? ⟨cb, 5, none⟩ = false := (HS.out.boxGet k0m).frozen 5
        have S_ := (fr1 [] HS.out).boxPut 5 (iv (-5))
        obtain ⟨w3_, hw3_⟩ : ∃ W_, w2_.setCell ⟨cb, 5, none⟩ (iv (-5)) = W_ := ⟨_, rfl⟩
        rw [hw3_] at S_
        change Sep w1 w3_ [boxA cb (crv { c with sx := 5, sy := -5 }) 32, vrow (.slice (some ⟨g, 0, none⟩) m cap) A] at S_
        replace HS := Keep.mk S_
        clear S_
        have y4_ : w3_.cell? ⟨cb, 6, none⟩ = some (iv c.hd) := (HS.out.boxGet k0m).cellv 6 _ rfl
        have f4_ : w3_.frozen? ⟨cb, 6, none⟩ = false := (HS.out.boxGet k0m).frozen 6
        have S_ := (fr1 [] HS.out).boxPut 6 (iv 7)
        obtain ⟨w4_, hw4_⟩ : ∃ W_, w3_.setCell ⟨cb, 6, none⟩ (iv 7) = W_ := ⟨_, rfl⟩
        rw [hw4_] at S_
        change Sep w1 w4_ [boxA cb (crv { c with sx := 5, sy := -5, hd := 7 }) 32, vrow (.slice (some ⟨g, 0, none⟩) m cap) A] at S_
        replace HS := Keep.mk S_
        clear S_
        have y5_ : w4_.cell? ⟨cb, 7, none⟩ = some (iv c.he) := (HS.out.boxGet k0m).cellv 7 _ rfl
        have f5_ : w4_.frozen? ⟨cb, 7, none⟩ = false := (HS.out.boxGet k0m).frozen 7
        have S_ := (fr1 [] HS.out).boxPut 7 (iv (-(k : Int)))
        obtain ⟨w5_, hw5_⟩ : ∃ W_, w4_.setCell ⟨cb, 7, none⟩ (iv (-(k : Int))) = W_ := ⟨_, rfl⟩
        rw [hw5_] at S_
        change Sep w1 w5_ [boxA cb (crv { c with sx := 5, sy := -5, hd := 7, he := (-(k : Int)) }) 32, vrow (.slice (some ⟨g, 0, none⟩) m cap) A] at S_
        replace HS := Keep.mk S_
        clear S_
        have y6_ : w5_.cell? ⟨cb, 8, none⟩ = some (iv c.en) := (HS.out.boxGet k0m).cellv 8 _ rfl
        have f6_ : w5_.frozen? ⟨cb, 8, none⟩ = false := (HS.out.boxGet k0m).frozen 8
        have S_ := (fr1 [] HS.out).boxPut 8 (iv (k : Int))
        obtain ⟨w6_, hw6_⟩ : ∃ W_, w5_.setCell ⟨cb, 8, none⟩ (iv (k : Int)) = W_ := ⟨_, rfl⟩
        rw [hw6_] at S_
        change Sep w1 w6_ [boxA cb (crv { c with sx := 5, sy := -5, hd := 7, he := (-(k : Int)), en := (k : Int) }) 32, vrow (.slice (some ⟨g, 0, none⟩) m cap) A] at S_
        replace HS := Keep.mk S_
        clear S_
        have y7_ : w6_.cell? ⟨cb, 9, none⟩ = some (iv c.am) := (HS.out.boxGet k0m).cellv 9 _ rfl
        have f7_ : w6_.frozen? ⟨cb, 9, none⟩ = false := (HS.out.boxGet k0m).frozen 9
        have S_ := (fr1 [] HS.out).boxPut 9 (iv (-1))
        obtain ⟨w7_, hw7_⟩ : ∃ W_, w6_.setCell ⟨cb, 9, none⟩ (iv (-1)) = W_ := ⟨_, rfl⟩
        rw [hw7_] at S_
        change Sep w1 w7_ [boxA cb (crv { c with sx := 5, sy := -5, hd := 7, he := (-(k : Int)), en := (k : Int), am := (-1) }) 32, vrow (.slice (some ⟨g, 0, none⟩) m cap) A] at S_
        replace HS := Keep.mk S_
        clear S_
        have y8_ : w7_.cell? ⟨cb, 10, none⟩ = some (iv c.co) := (HS.out.boxGet k0m).cellv 10 _ rfl
        have f8_ : w7_.frozen? ⟨cb, 10, none⟩ = false := (HS.out.boxGet k0m).frozen 10
        have S_ := (fr1 [] HS.out).boxPut 10 (iv 3)
        obtain ⟨w8_, hw8_⟩ : ∃ W_, w7_.setCell ⟨cb, 10, none⟩ (iv 3) = W_ := ⟨_, rfl⟩
        rw [hw8_] at S_
        change Sep w1 w8_ [boxA cb (crv { c with sx := 5, sy := -5, hd := 7, he := (-(k : Int)), en := (k : Int), am := (-1), co := 3 }) 32, vrow (.slice (some ⟨g, 0, none⟩) m cap) A] at S_
        replace HS := Keep.mk S_
        clear S_
        have y9_ : w8_.cell? ⟨cb, 11, none⟩ = some (iv c.wa) := (HS.out.boxGet k0m).cellv 11 _ rfl
        have f9_ : w8_.frozen? ⟨cb, 11, none⟩ = false := (HS.out.boxGet k0m).frozen 11
        have S_ := (fr1 [] HS.out).boxPut 11 (iv (k : Int))
        obtain ⟨w9_, hw9_⟩ : ∃ W_, w8_.setCell ⟨cb, 11, none⟩ (iv (k : Int)) = W_ := ⟨_, rfl⟩
        rw [hw9_] at S_
        change Sep w1 w9_ [boxA cb (crv { c with sx := 5, sy := -5, hd := 7, he := (-(k : Int)), en := (k : Int), am := (-1), co := 3, wa := (k : Int) }) 32, vrow (.slice (some ⟨g, 0, none⟩) m cap) A] at S_
        replace HS := Keep.mk S_
        clear S_
        have y10_ : w9_.cell? ⟨cb, 13, none⟩ = some (iv c.sc) := (HS.out.boxGet k0m).cellv 13 _ rfl
        have f10_ : w9_.frozen? ⟨cb, 13, none⟩ = false := (HS.out.boxGet k0m).frozen 13
        have S_ := (fr1 [] HS.out).boxPut 13 (iv (3 * (k : Int)))
        obtain ⟨w10_, hw10_⟩ : ∃ W_, w9_.setCell ⟨cb, 13, none⟩ (iv (3 * (k : Int))) = W_ := ⟨_, rfl⟩
        rw [hw10_] at S_
        change Sep w1 w10_ [boxA cb (crv { c with sx := 5, sy := -5, hd := 7, he := (-(k : Int)), en := (k : Int), am := (-1), co := 3, wa := (k : Int), sc := (3 * (k : Int)) }) 32, vrow (.slice (some ⟨g, 0, none⟩) m cap) A] at S_
        replace HS := Keep.mk S_
        clear S_
        obtain ⟨c2, hc2_⟩ : ∃ c_ : Cr, ({ c with sx := 5, sy := -5, hd := 7, he := (-(k : Int)), en := (k : Int), am := (-1), co := 3, wa := (k : Int), sc := (3 * (k : Int)) } : Cr) = c_ := ⟨_, rfl⟩
        rw [hc2_] at HS
        have HC2 := Keep.mk hc2_
        clear hc2_
        have RN11 := Keep.mk (HS.out.boxGet k0m).range
        have hcm := HCM.out w10_ c2 (HS.out.g) HC2.out.symm
        go_wp2_with (first
          | (show wpList _ _ _ ({ dst := _, op := Op.load 32 (Operand.tmp 11), type := _, pos := _, after := _, guard := _ } :: _) _ _
             refine load_g (by rfl) 32 _ rfl _ _ rfl _ _ RN11.out hdu hdr (infoC' c2) ?_))
        refine (hcm).mono ?_
        rintro e w11_ ⟨rfl, g_⟩
        clear RN11
        replace HS := Keep.mk (HS.out.grown g_)
        clear g_
        have RN11 := Keep.mk (HS.out.boxGet k0m).range
        have HX_ := Keep.mk (HS.out.boxGet k0m)
        have HO_ := Keep.mk (crv_one cn)
        go_wp2_with (first
          | (show wpList _ _ _ ({ dst := _, op := Op.load 32 (Operand.tmp 11), type := _, pos := _, after := _, guard := _ } :: _) _ _
             refine load_g (by rfl) 32 _ rfl _ _ rfl _ _ RN11.out hdu hdr (infoC' c2) ?_)
          | (show wpList _ _ _ ({ dst := _, op := Op.store 32 (Operand.tmp 11) _, type := _, pos := _, after := _, guard := _ } :: _) _ _
             refine store_at _ cb 0 (crv c2) (crv cn) 32 32 rfl rfl rfl rfl HX_.out (Nat.le_refl _) (infoC' cn) HO_.out ?_))
        intro w12_ hS_ g_
        have S_ := hS_ _ _ (fr1 [] HS.out)
        rw [over_all (crv c2) (crv cn) rfl] at S_
        clear RN11
        change Sep w1 w12_ [boxA cb (crv cn) 32, vrow (.slice (some ⟨g, 0, none⟩) m cap) A] at S_
        replace HS := Keep.mk S_
        clear S_ hS_ g_ HX_ HO_
        have RN11 := Keep.mk (HS.out.boxGet k0m).range
        clear hcm
        clear RN11
        go_wp2_with fail
        exact ⟨⟨k + 1, cn, by omega, rfl, HCN, HS⟩, by simp [intOf]; omega⟩
    · have hd : decide ((k : Int) < 9 + t) = false := decide_eq_false hlt
      go_wp2_with fail
      go_ret
      exact ⟨rfl, HG1.out.trans HS.out.g⟩
end Go.Proofs.YtobdcngjpgndiaaDoor.Bo
