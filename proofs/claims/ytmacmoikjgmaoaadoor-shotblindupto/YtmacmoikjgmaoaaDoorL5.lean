/- ShotBlind: the walk -/
import Derived.Test.YtmacmoikjgmaoaaDoorHA
namespace Go.Proofs.YtmacmoikjgmaoaaDoor.Bo
open Go Go.RowKit

def wpart (pl : Int) (ws : List Cr) (i : Nat) : List (Cr × Int) := match ws[i]? with | some c => [(bli pl c i, -1)] | none => []
theorem mix_step (pl : Int) (cs ws : List Cr) (i : Nat) : mix2 pl cs ws (i + 1) = (mix2 pl cs ws i ++ wpart pl ws i) ++ (match cs[i]? with | some c => [(c, (i : Int))] | none => []) := by
  rw [mix2, stp, List.append_assoc]; rfl
def blv (tx : ByteArray) (cv : Value) (s : Sh) (wv : Value) : List Value := .string tx :: cv :: (shv s ++ [wv])
theorem wi_small (x : Int) (h : 0 ≤ x ∧ x ≤ 1000) : IntKind.i64.wrap x = x := wi _ (by omega) (by omega)
theorem fst_app (A B : List (Cr × Int)) : (A ++ B).map Prod.fst = A.map Prod.fst ++ B.map Prod.fst := List.map_append ..
set_option maxRecDepth 100000 in
set_option maxHeartbeats 64000000 in
theorem blind_c (w : World) (tx : ByteArray) (cv wv : Value) (cs ws : List Cr) (s : Sh) (hC : Crs w cv cs) (hW : Crs w wv ws) (ok : ShOk s) (hk : Kc w) (hb : cs.length + ws.length ≤ 2000000) :
    Calls Tryd.prog 4 #[.agg (blv tx cv s wv).toArray] w fun e w' => e = .returned (.bool true) ∧ w.grownBy w' none := by
  obtain ⟨du, hdu, hdr⟩ := underC
  obtain ⟨ds, hds, hdsr⟩ := underS
  have hh := Has.newA w (blv tx cv s wv).toArray 42
  have hg0 : w.grownBy (w.alloc (.cells (blv tx cv s wv).toArray 42)) none := World.grownBy_alloc _ _ _
  have hsz : (blv tx cv s wv).toArray.size = 10 := rfl
  have HZ0 : Keep ((blv tx cv s wv)[0]? = some (.string tx) ∧ (blv tx cv s wv)[1]? = some cv ∧ (blv tx cv s wv)[9]? = some wv ∧ blv tx cv s wv = [.string tx, cv] ++ shv s ++ [wv]) := ⟨rfl, rfl, rfl, rfl⟩
  obtain ⟨zl, hzl⟩ : ∃ zl, blv tx cv s wv = zl := ⟨_, rfl⟩
  rw [hzl] at hh hg0 hsz HZ0 ⊢
  clear hzl
  obtain ⟨W1, hW1⟩ : ∃ W1, w.alloc (.cells zl.toArray 42) = W1 := ⟨_, rfl⟩
  obtain ⟨zb, hzb⟩ : ∃ xb, w.heap.size = xb := ⟨_, rfl⟩
  rw [hW1, hzb] at hh
  rw [hW1] at hg0
  have HA := Keep.mk (alive_c W1 (hk.kept hg0))
  have HP := Keep.mk (fun W => parse_c W tx)
  have HKW := Keep.mk hk
  have HX1 : Keep (Has W1 zb zl 42) := ⟨hh⟩
  have HG0 := Keep.mk hg0
  have HC := Keep.mk hC
  have HW := Keep.mk hW
  have HOK := Keep.mk ok
  have HBB := Keep.mk hb
  obtain ⟨a0, cap, rfl, _⟩ := hC.o
  obtain ⟨a2, cap2, rfl, _⟩ := hW.o
  clear hh hg0 hk hC hW ok hb
  obtain ⟨n, hnn⟩ : ∃ n, cs.length = n := ⟨_, rfl⟩
  obtain ⟨m, hmm⟩ : ∃ n, ws.length = n := ⟨_, rfl⟩
  rw [hnn] at HC HZ0
  rw [hmm] at HW HZ0
  rw [hnn, hmm] at HBB
  have HNN := Keep.mk (And.intro hnn hmm)
  clear hnn hmm
  go_enter Tryd.func4, Tryd.ntmps4
  go_wp2_with fail
  refine HA.out.mono ?_
  rintro e w0 ⟨rfl, g0⟩
  have HG1 := Keep.mk (HG0.out.trans g0)
  have HX : Keep (Has w0 zb zl 42) := ⟨HX1.out.kept g0 (by simp)⟩
  clear HA g0 HX1 HG0 hW1 hzb
  have y1 : w0.cell? ⟨zb, 1, none⟩ = some (.slice a0 n cap) := HX.out.cellv 1 _ HZ0.out.2.1
  have RO2 : Keep (w0.rangeAt zb 2 (shv s)) := ⟨HX.out.rangeMid 2 [.string tx, .slice a0 n cap] (shv s) [.slice a2 m cap2] HZ0.out.2.2.2 rfl⟩
  have S4 := (Sep.nil w0).newBox zS7.toArray 26
  obtain ⟨W4, hW4⟩ : ∃ W_, w0.alloc (.cells zS7.toArray 26) = W_ := ⟨_, rfl⟩
  obtain ⟨sb, hsb⟩ : ∃ b_, w0.heap.size = b_ := ⟨_, rfl⟩
  rw [hW4, hsb] at S4
  rw [zS7_lit] at hW4
  change Sep w0 W4 [boxA sb zS7 26] at S4
  have HS := Keep.mk S4
  have HX_ := Keep.mk (S4.boxGet k0m)
  have HO_ := Keep.mk (shv_one s)
  clear S4
  go_wp2_with (first
    | (show wpList _ _ _ ({ dst := _, op := Op.load 26 _, type := _, pos := _, after := _, guard := _ } :: _) _ _
       refine load_g (by rfl) 26 _ rfl _ _ rfl _ _ RO2.out hds hdsr (infoS' s) ?_)
    | (show wpList _ _ _ ({ dst := _, op := Op.store 26 _ _, type := _, pos := _, after := _, guard := _ } :: _) _ _
       refine store_at _ sb 0 zS7 (shv s) 26 26 rfl rfl rfl rfl HX_.out (Nat.le_refl _) (infoS' s) HO_.out ?_))
  intro w5 hS_ g_
  have S_ := hS_ _ _ HS.out
  rw [over_all zS7 (shv s) rfl] at S_
  replace HS := Keep.mk S_
  clear S_ hS_ g_ HX_ HO_ RO2 y1 hW4 hsb
  have y9 : w5.cell? ⟨zb, 9, none⟩ = some (.slice a2 m cap2) := (HX.out.kept HS.out.g (by simp)).cellv 9 _ HZ0.out.2.2.1
  have y0 : w5.cell? ⟨zb, 0, none⟩ = some (.string tx) := (HX.out.kept HS.out.g (by simp)).cellv 0 _ HZ0.out.1
  have hP := HP.out w5
  go_wp2_with fail
  refine hP.mono ?_
  rintro e w1 ⟨g1, h1⟩
  have HS4 : Keep (Has w1 sb (shv s) 26) := ⟨(HS.out.boxGet k0m).kept g1 (by simp)⟩
  have HG : Keep (w.grownBy w1 none) := ⟨(HG1.out.trans HS.out.g).trans g1⟩
  clear hP g1 HP HS HG1 HX y9 y0
  rcases h1 with ⟨_, rfl⟩ | ⟨_, _, rfl⟩ | ⟨_, hne, bv, rfl, hB⟩
  · go_wp2_with fail
    go_ret
    exact ⟨rfl, HG.out⟩
  · go_wp2_with fail
    go_ret
    exact ⟨rfl, HG.out⟩
  generalize lns tx = L at *
  obtain ⟨kb, _, _, hv, _⟩ := hB.o
  subst hv
  have HK1 : Keep (Kc w1) := ⟨HKW.out.kept HG.out⟩
  have HC1 := Keep.mk (HC.out.kept HG.out)
  have HW1 := Keep.mk (HW.out.kept HG.out)
  have HBD := Keep.mk hB
  have HMO := Keep.mk (move_c w1 kb L (.slice a0 n cap) cs s hB HC1.out HOK.out HK1.out)
  have HML : Keep (∀ (i : Nat), n ≤ i → (mov L ((mix2 s.pl cs ws i).map Prod.fst) s).1 = (mov L cs s).1 ∧ (mov L ((mix2 s.pl cs ws i).map Prod.fst) s).2.2 = (mov L cs s).2.2 ∧
    (((mov L cs s).2.1 = -1 ∧ (mov L ((mix2 s.pl cs ws i).map Prod.fst) s).2.1 = -1) ∨ ∃ k : Nat, (mov L ((mix2 s.pl cs ws i).map Prod.fst) s).2.1 = (k : Int) ∧ 0 ≤ (mov L cs s).2.1 ∧ ((mix2 s.pl cs ws i).map Prod.snd)[k]? = some (mov L cs s).2.1)) := ⟨fun i hi => mov_mix (mx_mix s.pl cs ws i) (by rw [HNN.out.1]; exact hi)⟩
  generalize (mov L cs s).1 = x at HMO HML
  generalize (mov L cs s).2.1 = h at HMO HML
  generalize (mov L cs s).2.2 = on at HMO HML
  have HXM : Keep (∀ (i : Nat), ∀ c ∈ (mix2 s.pl cs ws i).map Prod.fst, CrOk c) := ⟨fun i c hc => by
    obtain ⟨p, hp, rfl⟩ := List.mem_map.1 hc
    exact mix2_ok HOK.out.pl HC1.out.s HW1.out.s i p hp⟩
  have HXL : Keep (∀ (i : Nat), (mix2 s.pl cs ws i).length ≤ 2000000) := ⟨fun i => by
    have := mix2_len s.pl cs ws i
    rw [HNN.out.1, HNN.out.2] at this
    have := HBB.out
    omega⟩
  have RN4 := Keep.mk HS4.out.range
  clear hB hne HKW HC HW
  go_wp2_with (first
    | (show wpList _ _ _ ({ dst := _, op := Op.load 26 (Operand.tmp 4), type := _, pos := _, after := _, guard := _ } :: _) _ _
       refine load_g (by rfl) 26 _ rfl _ _ rfl _ _ RN4.out hds hdsr (infoS' s) ?_))
  refine HMO.out.mono ?_
  rintro e w2 ⟨rfl, g_⟩
  have HS := Keep.mk ((Sep.start g_).newBox zS7.toArray 26)
  obtain ⟨w3, hw3⟩ : ∃ W_, w2.alloc (.cells zS7.toArray 26) = W_ := ⟨_, rfl⟩
  obtain ⟨xb, hxb⟩ : ∃ b_, w2.heap.size = b_ := ⟨_, rfl⟩
  rw [hw3, hxb] at HS
  rw [zS7_lit] at hw3
  change Keep (Sep w1 w3 [boxA xb zS7 26]) at HS
  have HX_ := Keep.mk (HS.out.boxGet k0m)
  have HO_ := Keep.mk (shv_one x)
  clear g_ HMO RN4
  go_wp2_with (first
    | (show wpList _ _ _ ({ dst := _, op := Op.store 26 (Operand.tmp 8) _, type := _, pos := _, after := _, guard := _ } :: _) _ _
       refine store_at _ xb 0 zS7 (shv x) 26 26 rfl rfl rfl rfl HX_.out (Nat.le_refl _) (infoS' x) HO_.out ?_))
  intro w4 hS_ g_
  have S_ := hS_ _ _ HS.out
  rw [over_all zS7 (shv x) rfl] at S_
  have HS : Keep (Sep w1 w4 [crow (.slice none 0 0) [], nrow (.slice none 0 0) [], boxA xb (shv x) 26]) := ⟨(S_.nilV 3 1).nilV 38 14⟩
  clear S_ hS_ g_ HX_ HO_ hw3 hxb
  go_wp2_with fail
  go_loopw [11, 12, 13] (fun u11 u12 u13 wr => ∃ i : Nat, (i ≤ n ∨ i ≤ m) ∧ u13 = iv i ∧ Keep (Sep w1 wr [crow u11 ((mix2 s.pl cs ws i).map Prod.fst), nrow u12 ((mix2 s.pl cs ws i).map Prod.snd), boxA xb (shv x) 26])) (fun _ _ u _ => (n + m - intOf u).toNat)
  case atStart => exact ⟨0, by omega, rfl, HS⟩
  case round =>
    obtain ⟨i, hinm, rfl, HB⟩ := hrel
    clear HS
    have hbb := HBB.out
    have HIL := Keep.mk (HXL.out i)
    have HST := Keep.mk (mix_step s.pl cs ws i)
    have HFIN : Keep (n ≤ i → _) := ⟨HML.out i⟩
    have HMO2 := Keep.mk (HXM.out i)
    obtain ⟨M, hM⟩ : ∃ M, ((mix2 s.pl cs ws i).map Prod.fst) = M := ⟨_, rfl⟩
    obtain ⟨F, hF⟩ : ∃ F, ((mix2 s.pl cs ws i).map Prod.snd) = F := ⟨_, rfl⟩
    have HMF : Keep (((mix2 s.pl cs ws i).map Prod.fst) = M ∧ ((mix2 s.pl cs ws i).map Prod.snd) = F ∧ M.length ≤ 2000000 ∧ F.length ≤ 2000000) := ⟨hM, hF, by rw [← hM, List.length_map]; exact HIL.out, by rw [← hF, List.length_map]; exact HIL.out⟩
    rw [hM, hF] at HB
    rw [hM] at HMO2
    rw [hM, hF] at HFIN
    clear hM hF HIL
    obtain ⟨am, cm, em⟩ := own_slice (HB.out.rowGet (show rowV 38 14 _ _ _ ∈ _ from k0m))
    obtain ⟨af, cf, ef⟩ := own_slice (HB.out.rowGet (show rowV 3 1 _ _ _ ∈ _ from k1m))
    subst em ef
    have hti : ((i : Nat) : Int).toNat = i := by omega
    by_cases hn : i < n
    · have hin : (i : Int) < (n : Int) := by omega
      have hdn : decide ((i : Int) < (n : Int)) = true := decide_eq_true hin
      have hdn' : decide (i < n) = true := decide_eq_true hn
      have hi1 : IntKind.i64.wrap ((i : Int) + 1) = ((i + 1 : Nat) : Int) := by rw [wi _ (by omega) (by omega)]; omega
      obtain ⟨ci, hci⟩ : ∃ ci, cs[i]? = some ci := ⟨_, List.getElem?_eq_getElem (by rw [HNN.out.1]; exact hn)⟩
      have HCI := Keep.mk hci
      obtain ⟨a1, cap1, ea, hcells⟩ := HC1.out.o
      obtain ⟨gc, oc, eg, hcl⟩ := hcells (by rw [HNN.out.1]; omega)
      injection ea with ea1 ea2 ea3
      subst ea1
      subst eg
      have HIC : Keep (∀ W, w1.grownBy W none → W.rangeAt gc (oc + i * 14) (crv ci)) := ⟨fun W gW j v hv => gW.cell (hcl i ci hci j v hv) (by simp)⟩
      clear ea2 ea3 hcells hcl hci
      by_cases hm : i < m
      · have him : (i : Int) < (m : Int) := by omega
        have hdm : decide ((i : Int) < (m : Int)) = true := decide_eq_true him
        have hdm' : decide (i < m) = true := decide_eq_true hm
        have HNM := Keep.mk (And.intro hn hm)
        clear hbb hn hm
        obtain ⟨wi, hwi⟩ : ∃ ci, ws[i]? = some ci := ⟨_, List.getElem?_eq_getElem (by rw [HNN.out.2]; exact HNM.out.2)⟩
        have HWI := Keep.mk hwi
        obtain ⟨b1, bap1, eb, hcellw⟩ := HW1.out.o
        obtain ⟨gw, ow, egw, hcw⟩ := hcellw (by rw [HNN.out.2]; have := HNM.out.2; omega)
        injection eb with eb1 eb2 eb3
        subst eb1
        subst egw
        have HIR : Keep (wr.rangeAt gw (ow + i * 14) (crv wi)) := ⟨fun j v hv => HB.out.g.cell (hcw i wi hwi j v hv) (by simp)⟩
        clear eb2 eb3 hcellw hcw hwi
        have S_ := HB.out.newBox zC14.toArray 38
        obtain ⟨W4a, hW4a⟩ : ∃ W_, wr.alloc (.cells zC14.toArray 38) = W_ := ⟨_, rfl⟩
        obtain ⟨cb, hcb⟩ : ∃ b_, wr.heap.size = b_ := ⟨_, rfl⟩
        rw [hW4a, hcb] at S_
        rw [zC14_lit] at hW4a
        replace HB := Keep.mk S_
        have HX_ := Keep.mk (S_.boxGet k0m)
        have HO_ := Keep.mk (crv_one wi)
        clear S_
        go_wp2_with (first
          | (show wpList _ _ _ ({ dst := _, op := Op.load 38 _, type := _, pos := _, after := _, guard := _ } :: _) _ _
             refine load_g (by rfl) 38 _ rfl _ _ rfl _ _ HIR.out hdu hdr (infoC' wi) ?_)
          | (show wpList _ _ _ ({ dst := _, op := Op.store 38 _ _, type := _, pos := _, after := _, guard := _ } :: _) _ _
             refine store_at _ cb 0 zC14 (crv wi) 38 38 rfl rfl rfl rfl HX_.out (Nat.le_refl _) (infoC' wi) HO_.out ?_))
        intro w7 hS_ g_
        have S_ := hS_ _ _ HB.out
        rw [over_all zC14 (crv wi) rfl] at S_
        change Sep w1 w7 (boxA cb (crv wi) 38 :: [crow (.slice am M.length cm) M, nrow (.slice af F.length cf) F, boxA xb (shv x) 26]) at S_
        replace HB := Keep.mk S_
        clear S_ hS_ g_ HX_ HO_ hW4a hcb HIR
        have p11 : w7.cell? ⟨cb, 11, none⟩ = some (iv wi.wa) := (HB.out.boxGet k0m).cellv 11 _ rfl
        obtain ⟨r2, em⟩ : ∃ r2 : Int, ((i : Nat) : Int).tmod 2 = r2 := ⟨_, rfl⟩
        have HR2 : Keep (r2 = ((i % 2 : Nat) : Int)) := ⟨by rw [← em, Int.tmod_eq_emod_of_nonneg (by omega)]; omega⟩
        have km : IntKind.i64.wrap r2 = r2 := wi_small _ (by have := HR2.out; omega)
        obtain ⟨pv, hpv⟩ : ∃ pv : Bool, decide (i % 2 = 0 ∨ wi.wa ≤ 0) = pv := ⟨_, rfl⟩
        have HPV := Keep.mk hpv
        clear hpv
        go_upto_region 17 with fail
        go_cut [69] (fun sv wx => sv = .bool pv ∧ Keep (Sep w1 wx (boxA cb (crv wi) 38 :: [crow (.slice am M.length cm) M, nrow (.slice af F.length cf) F, boxA xb (shv x) 26])))
        case first =>
          by_cases h2 : i % 2 = 0
          · have e2 : (r2 == 0) = true := by rw [HR2.out, h2]; rfl
            have HE : Keep (pv = true) := ⟨by rw [← HPV.out]; simp [h2]⟩
            clear h2
            go_wp2_with fail
            go_meet
            exact ⟨by rw [HE.out], HB⟩
          · have e2 : (r2 == 0) = false := by rw [HR2.out]; simp; omega
            have HE : Keep (pv = decide (wi.wa ≤ 0)) := ⟨by rw [← HPV.out]; simp [h2]⟩
            clear h2
            go_wp2_with fail
            go_meet
            exact ⟨by rw [HE.out], HB⟩
        case rest =>
        replace HB := hcut.2
        replace hcut := hcut.1
        subst hcut
        rename World => w9
        clear p11 em km HR2
        have HBL : Keep ((pv = true → bli s.pl wi i = { wi with pl := s.pl }) ∧ (pv = false → bli s.pl wi i = wi)) := ⟨fun q => by unfold bli; rw [if_pos (of_decide_eq_true (HPV.out.trans q))], fun q => by unfold bli; rw [if_neg (of_decide_eq_false (HPV.out.trans q))]⟩
        go_upto_if 69 with fail
        go_cut [] (fun wx => Keep (Sep w1 wx (boxA cb (crv (bli s.pl wi i)) 38 :: [crow (.slice am M.length cm) M, nrow (.slice af F.length cf) F, boxA xb (shv x) 26])))
        case first =>
          cases pv
          case true =>
            have r1 : w9.cell? ⟨sb, 1, none⟩ = some (iv s.pl) := (HS4.out.kept HB.out.g (by simp)).cellv 1 _ rfl
            have p0 : w9.cell? ⟨cb, 0, none⟩ = some (iv wi.pl) := (HB.out.boxGet k0m).cellv 0 _ rfl
            have f0 : w9.frozen? ⟨cb, 0, none⟩ = false := (HB.out.boxGet k0m).frozen 0
            have S2 := HB.out.boxPut 0 (iv s.pl)
            change Sep w1 _ (boxA cb (crv { wi with pl := s.pl }) 38 :: [crow (.slice am M.length cm) M, nrow (.slice af F.length cf) F, boxA xb (shv x) 26]) at S2
            rw [← HBL.out.1 rfl] at S2
            obtain ⟨w10, hw10⟩ : ∃ w4, w9.setCell ⟨cb, 0, none⟩ (iv s.pl) = w4 := ⟨_, rfl⟩
            rw [hw10] at S2
            have HB3 := Keep.mk S2
            clear S2
            go_wp2_with fail
            go_meet
            exact HB3
          case false =>
            have HB3 : Keep (Sep w1 w9 (boxA cb (crv (bli s.pl wi i)) 38 :: [crow (.slice am M.length cm) M, nrow (.slice af F.length cf) F, boxA xb (shv x) 26])) := ⟨by rw [HBL.out.2 rfl]; exact HB.out⟩
            go_wp2_with fail
            go_meet
            exact HB3
        case rest =>
        replace HB := hcut
        clear hcut HBL HPV
        rename World => w11
        generalize hbw : bli s.pl wi i = bw at HB
        have HBW := Keep.mk hbw
        clear hbw
        have RN14 := Keep.mk (HB.out.boxGet k0m).range
        obtain ⟨ga, qa, W1a, ra1, ra2⟩ := Sep.car bw (fr1 [boxA cb (crv bw) 38] HB.out) (by have := HMF.out.2.2.1; omega)
        have HAP := Keep.mk ra1
        obtain ⟨gb, qb, W1, rb1, rb2⟩ := Sep.num (-1) (fr1 [_, _] ra2) (by have := HMF.out.2.2.2; omega)
        have HAF := Keep.mk rb1
        have HB2 : Keep (Sep w1 W1 [crow (.slice (some ⟨ga, 0, none⟩) (M.length + 1) qa) (M ++ [bw]), nrow (.slice (some ⟨gb, 0, none⟩) (F.length + 1) qb) (F ++ [-1]), boxA xb (shv x) 26]) := ⟨(fr1 [_, _] rb2.swap).tail⟩
        clear ra1 ra2 rb1 rb2 HB
        have HB := HB2
        clear HB2
        go_upto_region 21 with (first
          | (show wpList _ _ _ ({ dst := _, op := Op.load 38 (Operand.tmp 14), type := _, pos := _, after := _, guard := _ } :: _) _ _
             refine load_g (by rfl) 38 _ rfl _ _ rfl _ _ RN14.out hdu hdr (infoC' bw) ?_)
          | (show wpList _ _ _ ({ dst := _, op := Op.buildSlice 22 _ _, type := _, pos := _, after := _, guard := _ } :: _) _ _
             refine wpList_bs_run rfl (.tmp 74) 22 rfl _ rfl (bs_car _ (crv bw) (crv_len bw)) ?_)
          | (at_builtin; refine wpList_append_run _ rfl (.tmp 73) (.tmp 75) 22 rfl _ _ rfl rfl HAP.out ?_)
          | (at_builtin; refine wpList_append_run _ rfl (.tmp 77) (.tmp 78) 43 rfl _ _ rfl rfl HAF.out ?_))
        obtain ⟨M2, hM2⟩ : ∃ M2, (M ++ [bw]) = M2 := ⟨_, rfl⟩
        obtain ⟨F2, hF2⟩ : ∃ F2, (F ++ [-1]) = F2 := ⟨_, rfl⟩
        have HM2L : Keep (M2.length = M.length + 1 ∧ F2.length = F.length + 1) := ⟨by rw [← hM2]; simp, by rw [← hF2]; simp⟩
        rw [hM2, hF2] at HB
        have HM2E := Keep.mk (And.intro hM2 hF2)
        clear hM2 hF2
        have HIR2 := Keep.mk (HIC.out _ HB.out.g)
        obtain ⟨gx, qx, W2a, rx1, rx2⟩ := Sep.car ci HB.out (by rw [HM2L.out.1]; have := HMF.out.2.2.1; omega)
        rw [HM2L.out.1] at rx1 rx2
        have HAQ := Keep.mk rx1
        obtain ⟨gy, qy, W2, ry1, ry2⟩ := Sep.num (i : Int) rx2.swap (by rw [HM2L.out.2]; have := HMF.out.2.2.2; omega)
        rw [HM2L.out.2] at ry1 ry2
        have HAG := Keep.mk ry1
        have HB2 := Keep.mk ry2.swap
        clear rx1 rx2 ry1 ry2 HB
        have HB := HB2
        clear HB2
        go_wp2_with (first
          | (show wpList _ _ _ ({ dst := _, op := Op.load 38 _, type := _, pos := _, after := _, guard := _ } :: _) _ _
             refine load_g (by rfl) 38 _ rfl _ _ rfl _ _ HIR2.out hdu hdr (infoC' ci) ?_)
          | (show wpList _ _ _ ({ dst := _, op := Op.buildSlice 22 _ _, type := _, pos := _, after := _, guard := _ } :: _) _ _
             refine wpList_bs_run rfl (.tmp 88) 22 rfl _ rfl (bs_car _ (crv ci) (crv_len ci)) ?_)
          | (at_builtin; refine wpList_append_run _ rfl (.tmp 84) (.tmp 89) 22 rfl _ _ rfl rfl HAQ.out ?_)
          | (at_builtin; refine wpList_append_run _ rfl (.tmp 91) (.tmp 93) 43 rfl _ _ rfl rfl HAG.out ?_))
        have HWP : Keep (wpart s.pl ws i = [(bw, -1)]) := ⟨by unfold wpart; rw [HWI.out]; show [(bli s.pl wi i, (-1 : Int))] = _; rw [HBW.out]⟩
        have HX1 : Keep ((mix2 s.pl cs ws (i + 1)).map Prod.fst = M2 ++ [ci] ∧ (mix2 s.pl cs ws (i + 1)).map Prod.snd = F2 ++ [(i : Int)]) := ⟨by
          rw [HST.out, HWP.out]
          rw [HCI.out]
          constructor
          · rw [← HM2E.out.1]
            rw [← HMF.out.1]; simp
          · rw [← HM2E.out.2]
            rw [← HMF.out.2.1]; simp⟩
        skip
        go_roundw
        case rel => exact ⟨i + 1, by have := HNM.out; omega, rfl, ⟨by rw [HX1.out.1, HX1.out.2]; exact HB.out⟩⟩
        case measure => have := HNM.out; simp [intOf]; omega
      · have him : ¬ (i : Int) < (m : Int) := by omega
        have hdm : decide ((i : Int) < (m : Int)) = false := decide_eq_false him
        have hdm' : decide (i < m) = false := decide_eq_false hm
        have HNM := Keep.mk (And.intro hn hm)
        clear hbb hn hm
        obtain ⟨M2, hM2⟩ : ∃ M2, M = M2 := ⟨_, rfl⟩
        obtain ⟨F2, hF2⟩ : ∃ F2, F = F2 := ⟨_, rfl⟩
        have HM2L : Keep (M2.length = M.length ∧ F2.length = F.length) := ⟨by rw [← hM2], by rw [← hF2]⟩
        rw [hM2, hF2] at HB
        have HM2E := Keep.mk (And.intro hM2 hF2)
        clear hM2 hF2
        have HIR2 := Keep.mk (HIC.out _ HB.out.g)
        obtain ⟨gx, qx, W2a, rx1, rx2⟩ := Sep.car ci HB.out (by rw [HM2L.out.1]; have := HMF.out.2.2.1; omega)
        rw [HM2L.out.1] at rx1 rx2
        have HAQ := Keep.mk rx1
        obtain ⟨gy, qy, W2, ry1, ry2⟩ := Sep.num (i : Int) rx2.swap (by rw [HM2L.out.2]; have := HMF.out.2.2.2; omega)
        rw [HM2L.out.2] at ry1 ry2
        have HAG := Keep.mk ry1
        have HB2 := Keep.mk ry2.swap
        clear rx1 rx2 ry1 ry2 HB
        have HB := HB2
        clear HB2
        go_wp2_with (first
          | (show wpList _ _ _ ({ dst := _, op := Op.load 38 _, type := _, pos := _, after := _, guard := _ } :: _) _ _
             refine load_g (by rfl) 38 _ rfl _ _ rfl _ _ HIR2.out hdu hdr (infoC' ci) ?_)
          | (show wpList _ _ _ ({ dst := _, op := Op.buildSlice 22 _ _, type := _, pos := _, after := _, guard := _ } :: _) _ _
             refine wpList_bs_run rfl (.tmp 88) 22 rfl _ rfl (bs_car _ (crv ci) (crv_len ci)) ?_)
          | (at_builtin; refine wpList_append_run _ rfl (.tmp 84) (.tmp 89) 22 rfl _ _ rfl rfl HAQ.out ?_)
          | (at_builtin; refine wpList_append_run _ rfl (.tmp 91) (.tmp 93) 43 rfl _ _ rfl rfl HAG.out ?_))
        have HWP : Keep (wpart s.pl ws i = []) := ⟨by unfold wpart; rw [List.getElem?_eq_none (by rw [HNN.out.2]; have := HNM.out.2; omega)]⟩
        have HX1 : Keep ((mix2 s.pl cs ws (i + 1)).map Prod.fst = M2 ++ [ci] ∧ (mix2 s.pl cs ws (i + 1)).map Prod.snd = F2 ++ [(i : Int)]) := ⟨by
          rw [HST.out, HWP.out]
          rw [HCI.out]
          constructor
          · rw [← HM2E.out.1]
            rw [← HMF.out.1]; simp
          · rw [← HM2E.out.2]
            rw [← HMF.out.2.1]; simp⟩
        skip
        go_roundw
        case rel => exact ⟨i + 1, by have := HNM.out; omega, rfl, ⟨by rw [HX1.out.1, HX1.out.2]; exact HB.out⟩⟩
        case measure => have := HNM.out; simp [intOf]; omega
    · have hin : ¬ (i : Int) < (n : Int) := by omega
      have hdn : decide ((i : Int) < (n : Int)) = false := decide_eq_false hin
      have hdn' : decide (i < n) = false := decide_eq_false hn
      have HCN : Keep (cs[i]? = none) := ⟨List.getElem?_eq_none (by rw [HNN.out.1]; omega)⟩
      by_cases hm : i < m
      · have him : (i : Int) < (m : Int) := by omega
        have hdm : decide ((i : Int) < (m : Int)) = true := decide_eq_true him
        have hdm' : decide (i < m) = true := decide_eq_true hm
        have hi1 : IntKind.i64.wrap ((i : Int) + 1) = ((i + 1 : Nat) : Int) := by rw [wi _ (by omega) (by omega)]; omega
        have HNM := Keep.mk (And.intro hn hm)
        clear hbb hn hm
        obtain ⟨wi, hwi⟩ : ∃ ci, ws[i]? = some ci := ⟨_, List.getElem?_eq_getElem (by rw [HNN.out.2]; exact HNM.out.2)⟩
        have HWI := Keep.mk hwi
        obtain ⟨b1, bap1, eb, hcellw⟩ := HW1.out.o
        obtain ⟨gw, ow, egw, hcw⟩ := hcellw (by rw [HNN.out.2]; have := HNM.out.2; omega)
        injection eb with eb1 eb2 eb3
        subst eb1
        subst egw
        have HIR : Keep (wr.rangeAt gw (ow + i * 14) (crv wi)) := ⟨fun j v hv => HB.out.g.cell (hcw i wi hwi j v hv) (by simp)⟩
        clear eb2 eb3 hcellw hcw hwi
        have S_ := HB.out.newBox zC14.toArray 38
        obtain ⟨W4a, hW4a⟩ : ∃ W_, wr.alloc (.cells zC14.toArray 38) = W_ := ⟨_, rfl⟩
        obtain ⟨cb, hcb⟩ : ∃ b_, wr.heap.size = b_ := ⟨_, rfl⟩
        rw [hW4a, hcb] at S_
        rw [zC14_lit] at hW4a
        replace HB := Keep.mk S_
        have HX_ := Keep.mk (S_.boxGet k0m)
        have HO_ := Keep.mk (crv_one wi)
        clear S_
        go_wp2_with (first
          | (show wpList _ _ _ ({ dst := _, op := Op.load 38 _, type := _, pos := _, after := _, guard := _ } :: _) _ _
             refine load_g (by rfl) 38 _ rfl _ _ rfl _ _ HIR.out hdu hdr (infoC' wi) ?_)
          | (show wpList _ _ _ ({ dst := _, op := Op.store 38 _ _, type := _, pos := _, after := _, guard := _ } :: _) _ _
             refine store_at _ cb 0 zC14 (crv wi) 38 38 rfl rfl rfl rfl HX_.out (Nat.le_refl _) (infoC' wi) HO_.out ?_))
        intro w7 hS_ g_
        have S_ := hS_ _ _ HB.out
        rw [over_all zC14 (crv wi) rfl] at S_
        change Sep w1 w7 (boxA cb (crv wi) 38 :: [crow (.slice am M.length cm) M, nrow (.slice af F.length cf) F, boxA xb (shv x) 26]) at S_
        replace HB := Keep.mk S_
        clear S_ hS_ g_ HX_ HO_ hW4a hcb HIR
        have p11 : w7.cell? ⟨cb, 11, none⟩ = some (iv wi.wa) := (HB.out.boxGet k0m).cellv 11 _ rfl
        obtain ⟨r2, em⟩ : ∃ r2 : Int, ((i : Nat) : Int).tmod 2 = r2 := ⟨_, rfl⟩
        have HR2 : Keep (r2 = ((i % 2 : Nat) : Int)) := ⟨by rw [← em, Int.tmod_eq_emod_of_nonneg (by omega)]; omega⟩
        have km : IntKind.i64.wrap r2 = r2 := wi_small _ (by have := HR2.out; omega)
        obtain ⟨pv, hpv⟩ : ∃ pv : Bool, decide (i % 2 = 0 ∨ wi.wa ≤ 0) = pv := ⟨_, rfl⟩
        have HPV := Keep.mk hpv
        clear hpv
        go_upto_region 17 with fail
        go_cut [69] (fun sv wx => sv = .bool pv ∧ Keep (Sep w1 wx (boxA cb (crv wi) 38 :: [crow (.slice am M.length cm) M, nrow (.slice af F.length cf) F, boxA xb (shv x) 26])))
        case first =>
          by_cases h2 : i % 2 = 0
          · have e2 : (r2 == 0) = true := by rw [HR2.out, h2]; rfl
            have HE : Keep (pv = true) := ⟨by rw [← HPV.out]; simp [h2]⟩
            clear h2
            go_wp2_with fail
            go_meet
            exact ⟨by rw [HE.out], HB⟩
          · have e2 : (r2 == 0) = false := by rw [HR2.out]; simp; omega
            have HE : Keep (pv = decide (wi.wa ≤ 0)) := ⟨by rw [← HPV.out]; simp [h2]⟩
            clear h2
            go_wp2_with fail
            go_meet
            exact ⟨by rw [HE.out], HB⟩
        case rest =>
        replace HB := hcut.2
        replace hcut := hcut.1
        subst hcut
        rename World => w9
        clear p11 em km HR2
        have HBL : Keep ((pv = true → bli s.pl wi i = { wi with pl := s.pl }) ∧ (pv = false → bli s.pl wi i = wi)) := ⟨fun q => by unfold bli; rw [if_pos (of_decide_eq_true (HPV.out.trans q))], fun q => by unfold bli; rw [if_neg (of_decide_eq_false (HPV.out.trans q))]⟩
        go_upto_if 69 with fail
        go_cut [] (fun wx => Keep (Sep w1 wx (boxA cb (crv (bli s.pl wi i)) 38 :: [crow (.slice am M.length cm) M, nrow (.slice af F.length cf) F, boxA xb (shv x) 26])))
        case first =>
          cases pv
          case true =>
            have r1 : w9.cell? ⟨sb, 1, none⟩ = some (iv s.pl) := (HS4.out.kept HB.out.g (by simp)).cellv 1 _ rfl
            have p0 : w9.cell? ⟨cb, 0, none⟩ = some (iv wi.pl) := (HB.out.boxGet k0m).cellv 0 _ rfl
            have f0 : w9.frozen? ⟨cb, 0, none⟩ = false := (HB.out.boxGet k0m).frozen 0
            have S2 := HB.out.boxPut 0 (iv s.pl)
            change Sep w1 _ (boxA cb (crv { wi with pl := s.pl }) 38 :: [crow (.slice am M.length cm) M, nrow (.slice af F.length cf) F, boxA xb (shv x) 26]) at S2
            rw [← HBL.out.1 rfl] at S2
            obtain ⟨w10, hw10⟩ : ∃ w4, w9.setCell ⟨cb, 0, none⟩ (iv s.pl) = w4 := ⟨_, rfl⟩
            rw [hw10] at S2
            have HB3 := Keep.mk S2
            clear S2
            go_wp2_with fail
            go_meet
            exact HB3
          case false =>
            have HB3 : Keep (Sep w1 w9 (boxA cb (crv (bli s.pl wi i)) 38 :: [crow (.slice am M.length cm) M, nrow (.slice af F.length cf) F, boxA xb (shv x) 26])) := ⟨by rw [HBL.out.2 rfl]; exact HB.out⟩
            go_wp2_with fail
            go_meet
            exact HB3
        case rest =>
        replace HB := hcut
        clear hcut HBL HPV
        rename World => w11
        generalize hbw : bli s.pl wi i = bw at HB
        have HBW := Keep.mk hbw
        clear hbw
        have RN14 := Keep.mk (HB.out.boxGet k0m).range
        obtain ⟨ga, qa, W1a, ra1, ra2⟩ := Sep.car bw (fr1 [boxA cb (crv bw) 38] HB.out) (by have := HMF.out.2.2.1; omega)
        have HAP := Keep.mk ra1
        obtain ⟨gb, qb, W1, rb1, rb2⟩ := Sep.num (-1) (fr1 [_, _] ra2) (by have := HMF.out.2.2.2; omega)
        have HAF := Keep.mk rb1
        have HB2 : Keep (Sep w1 W1 [crow (.slice (some ⟨ga, 0, none⟩) (M.length + 1) qa) (M ++ [bw]), nrow (.slice (some ⟨gb, 0, none⟩) (F.length + 1) qb) (F ++ [-1]), boxA xb (shv x) 26]) := ⟨(fr1 [_, _] rb2.swap).tail⟩
        clear ra1 ra2 rb1 rb2 HB
        have HB := HB2
        clear HB2
        go_upto_region 21 with (first
          | (show wpList _ _ _ ({ dst := _, op := Op.load 38 (Operand.tmp 14), type := _, pos := _, after := _, guard := _ } :: _) _ _
             refine load_g (by rfl) 38 _ rfl _ _ rfl _ _ RN14.out hdu hdr (infoC' bw) ?_)
          | (show wpList _ _ _ ({ dst := _, op := Op.buildSlice 22 _ _, type := _, pos := _, after := _, guard := _ } :: _) _ _
             refine wpList_bs_run rfl (.tmp 74) 22 rfl _ rfl (bs_car _ (crv bw) (crv_len bw)) ?_)
          | (at_builtin; refine wpList_append_run _ rfl (.tmp 73) (.tmp 75) 22 rfl _ _ rfl rfl HAP.out ?_)
          | (at_builtin; refine wpList_append_run _ rfl (.tmp 77) (.tmp 78) 43 rfl _ _ rfl rfl HAF.out ?_))
        have HWP : Keep (wpart s.pl ws i = [(bw, -1)]) := ⟨by unfold wpart; rw [HWI.out]; show [(bli s.pl wi i, (-1 : Int))] = _; rw [HBW.out]⟩
        have HX1 : Keep ((mix2 s.pl cs ws (i + 1)).map Prod.fst = M ++ [bw] ∧ (mix2 s.pl cs ws (i + 1)).map Prod.snd = F ++ [-1]) := ⟨by
          rw [HST.out, HWP.out]
          rw [HCN.out]
          constructor
          · skip
            rw [← HMF.out.1]; simp
          · skip
            rw [← HMF.out.2.1]; simp⟩
        go_wp2_with fail
        go_roundw
        case rel => exact ⟨i + 1, by have := HNM.out; omega, rfl, ⟨by rw [HX1.out.1, HX1.out.2]; exact HB.out⟩⟩
        case measure => have := HNM.out; simp [intOf]; omega
      · have him : ¬ (i : Int) < (m : Int) := by omega
        have hdm : decide ((i : Int) < (m : Int)) = false := decide_eq_false him
        have hdm' : decide (i < m) = false := decide_eq_false hm
        have HR := Keep.mk (HFIN.out (by omega))
        have hCrs := crs_of HB.out k0m HMO2.out (by have := HMF.out.2.2.1; omega)
        have HM2 := Keep.mk (fun W (g : wr.grownBy W none) => move_c W kb L (.slice am M.length cm) M s (HBD.out.kept (HB.out.g.trans g)) (hCrs.kept g) HOK.out (HK1.out.kept (HB.out.g.trans g)))
        generalize (mov L M s).1 = y at HM2 HR
        generalize (mov L M s).2.1 = at2 at HM2 HR
        generalize (mov L M s).2.2 = st at HM2 HR
        obtain ⟨e1, e2, hR⟩ := HR.out
        subst e1 e2
        have HR2 := Keep.mk hR
        clear hR HR HFIN hCrs hbb hinm hn hm him hin
        have RN4 : Keep (wr.rangeAt sb 0 (shv s)) := ⟨(HS4.out.kept HB.out.g (by simp)).range⟩
        go_wp2_with (first
          | (show wpList _ _ _ ({ dst := _, op := Op.load 26 (Operand.tmp 4), type := _, pos := _, after := _, guard := _ } :: _) _ _
             refine load_g (by rfl) 26 _ rfl _ _ rfl _ _ RN4.out hds hdsr (infoS' s) ?_))
        refine (HM2.out _ (World.grownBy.refl _ _)).mono ?_
        rintro e w6 ⟨rfl, g_⟩
        have S_ := (HB.out.grown g_).newBox zS7.toArray 26
        obtain ⟨w7, hw7⟩ : ∃ W_, w6.alloc (.cells zS7.toArray 26) = W_ := ⟨_, rfl⟩
        obtain ⟨yb, hyb⟩ : ∃ b_, w6.heap.size = b_ := ⟨_, rfl⟩
        rw [hw7, hyb] at S_
        rw [zS7_lit] at hw7
        have HS := Keep.mk S_
        have HX_ := Keep.mk (S_.boxGet k0m)
        have HO_ := Keep.mk (shv_one y)
        clear g_ S_ HM2 RN4 HB
        go_wp2_with (first
          | (show wpList _ _ _ ({ dst := _, op := Op.store 26 (Operand.tmp 15) _, type := _, pos := _, after := _, guard := _ } :: _) _ _
             refine store_at _ yb 0 zS7 (shv y) 26 26 rfl rfl rfl rfl HX_.out (Nat.le_refl _) (infoS' y) HO_.out ?_))
        intro w8 hS_ g_
        have S_ := hS_ _ _ HS.out
        rw [over_all zS7 (shv y) rfl] at S_
        change Sep w1 w8 (boxA yb (shv y) 26 :: [crow (.slice am M.length cm) M, nrow (.slice af F.length cf) F, boxA xb (shv y) 26]) at S_
        have HS := Keep.mk S_
        clear S_ hS_ g_ HX_ HO_ hw7 hyb
        have RN15 := Keep.mk (HS.out.boxGet k0m).range
        have RN8 := Keep.mk (HS.out.boxGet k3m).range
        have hEQ := fun w => eq26 y w
        have HGE : Keep (w.grownBy w8 none) := ⟨HG.out.trans HS.out.g⟩
        rcases HR2.out with ⟨e1, e2⟩ | ⟨k, e1, hk0, hk1⟩
        · subst e1 e2
          clear HR2
          cases st
          all_goals (
            go_wp2_with (first
              | (show wpList _ _ _ ({ dst := _, op := Op.load 26 (Operand.tmp 15), type := _, pos := _, after := _, guard := _ } :: _) _ _
                 refine load_g (by rfl) 26 _ rfl _ _ rfl _ _ RN15.out hds hdsr (infoS' y) ?_)
              | (show wpList _ _ _ ({ dst := _, op := Op.load 26 (Operand.tmp 8), type := _, pos := _, after := _, guard := _ } :: _) _ _
                 refine load_g (by rfl) 26 _ rfl _ _ rfl _ _ RN8.out hds hdsr (infoS' y) ?_))
            go_ret
            exact ⟨rfl, HGE.out⟩)
        · subst e1
          have hkl := (List.getElem?_eq_some_iff.1 hk1).1
          obtain ⟨gf, cf2, ef2, qf⟩ := own_any (HS.out.rowGet (show rowV 3 1 _ _ _ ∈ _ from k2m)) (by omega)
          injection ef2 with ef3 _ ef4
          subst ef3 ef4
          have hce : w8.cell? ⟨gf, k, none⟩ = some (iv h) := (qf k (iv h) (by rw [List.getElem?_map, hk1]; rfl)).1
          have d1 : decide (h < 0) = false := decide_eq_false (by omega)
          have d2 : decide ((k : Int) < 0) = false := decide_eq_false (by omega)
          have d2' : ¬ (k : Int) < 0 := by omega
          obtain ⟨lf, hlf⟩ : ∃ lf, F.length = lf := ⟨_, rfl⟩
          rw [hlf]
          rw [hlf] at hkl
          have d3 : decide ((k : Int) < (lf : Int)) = true := decide_eq_true (by omega)
          have d3' : (k : Int) < (lf : Int) := by omega
          have d3'' : decide (k < lf) = true := decide_eq_true (by omega)
          have htk : ((k : Nat) : Int).toNat = k := by omega
          clear HR2 qf hk1 hk0 hlf hkl
          cases st
          all_goals (
            go_wp2_with (first
              | (show wpList _ _ _ ({ dst := _, op := Op.load 26 (Operand.tmp 15), type := _, pos := _, after := _, guard := _ } :: _) _ _
                 refine load_g (by rfl) 26 _ rfl _ _ rfl _ _ RN15.out hds hdsr (infoS' y) ?_)
              | (show wpList _ _ _ ({ dst := _, op := Op.load 26 (Operand.tmp 8), type := _, pos := _, after := _, guard := _ } :: _) _ _
                 refine load_g (by rfl) 26 _ rfl _ _ rfl _ _ RN8.out hds hdsr (infoS' y) ?_))
            go_ret
            exact ⟨by simp, HGE.out⟩)
end Go.Proofs.YtmacmoikjgmaoaaDoor.Bo
