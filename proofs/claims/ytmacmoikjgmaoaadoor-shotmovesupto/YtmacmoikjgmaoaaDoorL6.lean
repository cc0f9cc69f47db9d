/- ShotMoves: the walk -/
import Derived.Test.YtmacmoikjgmaoaaDoorRM3
import Derived.Test.YtmacmoikjgmaoaaDoorRM4
import Derived.Test.YtmacmoikjgmaoaaDoorH8
import Derived.Test.YtmacmoikjgmaoaaDoorBRP2
namespace Go.Proofs.YtmacmoikjgmaoaaDoor.Bo
open Go Go.RowKit

theorem RB.keptX {w w' : World} {v : Value} {L : Bo} {xb : Nat} {c : Sh} {T : TypeId} (h : RB w v L) (hh : Has w xb (shv c) T) (g : w.grownBy w' (some xb)) : RB w' v L := by
  obtain ⟨kb, kr, cr, rfl, c0, hr⟩ := h.o
  have x0 : w.cell? ⟨xb, 0, none⟩ = some (iv c.id) := hh.cellv 0 _ rfl
  have n1 : kb ≠ xb := fun e => by subst e; rw [c0] at x0; cases x0
  have hl : 0 < L.length := by have := h.sh.1; omega
  have n2 : kr ≠ xb := fun e => by
    subst e
    obtain ⟨k, c', _, q1, _⟩ := hr 0 hl
    rw [q1] at x0; cases x0
  refine ⟨h.sh, h.ok, kb, kr, cr, rfl, g.cell c0 (by simpa using n1), fun y hy => ?_⟩
  obtain ⟨k, c', q0, q1, q2⟩ := hr y hy
  refine ⟨k, c', q0, g.cell q1 (by simpa using n2), fun x hx => g.cell (q2 x hx) ?_⟩
  have n3 : k ≠ xb := fun e => by
    subst e
    have := q2 0 (by omega)
    rw [this] at x0; cases x0
  simpa using n3
/-- a row of cars that is only read -/
def Rw (w : World) (g : Nat) (M : List Cr) : Prop := ∀ (j : Nat) x, M[j]? = some x → w.rangeAt g (j * 14) (crv x)
theorem Rw.kept {w w' : World} {g : Nat} {M : List Cr} (h : Rw w g M) (hg : w.grownBy w' none) : Rw w' g M := fun j x hx r u hu => hg.cell (h j x hx r u hu) (by simp)
theorem Rw.keptX {w w' : World} {g xb : Nat} {M : List Cr} {c : Sh} {T : TypeId} (h : Rw w g M) (hM : M ≠ []) (hh : Has w xb (shv c) T) (hg : w.grownBy w' (some xb)) : Rw w' g M := by
  have n : g ≠ xb := fun e => by
    subst e
    obtain ⟨y, hy⟩ : ∃ y, M[0]? = some y := ⟨_, List.getElem?_eq_getElem (List.length_pos_iff.2 hM)⟩
    have h1 := h 0 y hy 1 _ rfl
    have h2 : w.cell? ⟨g, 1, none⟩ = some (iv c.pl) := hh.cellv 1 _ rfl
    rw [show 0 * 14 + 1 = 1 from rfl, h2] at h1
    cases h1
  exact fun j x hx r u hu => hg.cell (h j x hx r u hu) (by simpa using n)
theorem Rw.crs {w : World} {g q : Nat} {cs B : List Cr} (h : Rw w g (cs ++ B)) (ok : ∀ c ∈ cs, CrOk c) (hn : cs.length ≤ 1048576) : Crs w (.slice (some ⟨g, 0, none⟩) cs.length q) cs :=
  ⟨⟨_, _, rfl, fun _ => ⟨g, 0, rfl, fun j x hx => by
    rw [Nat.zero_add]
    exact h j x (by rw [List.getElem?_append_left (List.getElem?_eq_some_iff.1 hx).1]; exact hx)⟩⟩, ok, by omega⟩
set_option maxRecDepth 100000 in
set_option maxHeartbeats 64000000 in
theorem moves_c (w : World) (tx : ByteArray) (cv : Value) (cs : List Cr) (s : Sh) (hs : tx.size ≤ 1048576) (hC : Crs w cv cs) (hz : cv = .slice none 0 0 ∨ ∃ a n c, cv = .slice (some a) n c) (hn : cs.length ≤ 1048576) (ok : ShOk s) (hk : Kc w) :
    Calls Tryd.prog 8 #[.string tx, cv, .agg (shv s).toArray] w fun e w' => e = .returned (.bool true) ∧ w.grownBy w' none := by
  obtain ⟨ds, hds, hdsr⟩ := underS
  have S1 := (Sep.nil w).newBox (shv s).toArray 26
  obtain ⟨W1, hW1⟩ : ∃ W1, w.alloc (.cells (shv s).toArray 26) = W1 := ⟨_, rfl⟩
  obtain ⟨sb, hsb⟩ : ∃ xb, w.heap.size = xb := ⟨_, rfl⟩
  rw [hW1, hsb] at S1
  change Sep w W1 [boxA sb (shv s) 26] at S1
  have hss : (shv s).toArray.size = 7 := rfl
  have HS := Keep.mk S1
  have HA := Keep.mk (fun W (g : w.grownBy W none) => alive_c W (hk.kept g))
  have HP := Keep.mk (fun W => parse_c W tx)
  have HQ := Keep.mk (fun W => rparse_c W tx hs)
  have HKW := Keep.mk hk
  have HOK := Keep.mk ok
  have HC := Keep.mk hC
  have HLE := Keep.mk (fun W (g : w.grownBy W none) => lent_c W cv cs (hC.kept g) hz hn)
  have HN := Keep.mk hn
  obtain ⟨a0, cap, hcv, _⟩ := hC.o
  obtain ⟨n, hnn⟩ : ∃ n, cs.length = n := ⟨_, rfl⟩
  rw [hnn] at hcv HLE
  have HNN := Keep.mk hnn
  subst hcv
  clear S1 hk ok hC hz hs hn hnn
  go_enter Tryd.func8, Tryd.ntmps8
  go_wp2_with fail
  refine (HA.out _ HS.out.g).mono ?_
  rintro e w0 ⟨rfl, g0⟩
  replace HS := Keep.mk (HS.out.grown g0)
  clear HA g0 hW1 hsb
  go_wp2_with fail
  refine (HP.out _).mono ?_
  rintro e w1 ⟨g1, h1⟩
  replace HS := Keep.mk (HS.out.grown g1)
  clear HP g1
  have hQ := HQ.out w1
  clear HQ
  rcases h1 with ⟨b1, rfl⟩ | ⟨b1, b2, rfl⟩ | ⟨b1, b2, bv, rfl, hB⟩
  · go_wp2_with fail
    refine hQ.mono ?_
    rintro e w2 ⟨g2, h2⟩
    replace HS := Keep.mk (HS.out.grown g2)
    rcases h2 with ⟨_, rfl⟩ | ⟨d1, _, _⟩ | ⟨d1, _⟩
    · have h1 := num_c w2 140
      clear hQ
      go_wp2_with fail
      refine h1.mono ?_
      rintro e w_ ⟨rfl, rfl⟩
      rename World => w2
      have h1 := num_c w2 140
      go_wp2_with fail
      refine h1.mono ?_
      rintro e w_ ⟨rfl, rfl⟩
      go_wp2_with fail
      go_ret
      exact ⟨rfl, HS.out.g⟩
    · exact absurd d1 b1
    · exact absurd d1 b1
  · go_wp2_with fail
    refine hQ.mono ?_
    rintro e w2 ⟨g2, h2⟩
    replace HS := Keep.mk (HS.out.grown g2)
    rcases h2 with ⟨d1, _⟩ | ⟨_, _, rfl⟩ | ⟨_, d1, _⟩
    · exact absurd b1 d1
    · have h1 := num_c w2 141
      clear hQ
      go_wp2_with fail
      refine h1.mono ?_
      rintro e w_ ⟨rfl, rfl⟩
      rename World => w2
      have h1 := num_c w2 141
      go_wp2_with fail
      refine h1.mono ?_
      rintro e w_ ⟨rfl, rfl⟩
      go_wp2_with fail
      go_ret
      exact ⟨rfl, HS.out.g⟩
    · exact absurd b2 d1
  obtain ⟨kb, _, _, hv, _⟩ := hB.o
  subst hv
  go_wp2_with fail
  refine hQ.mono ?_
  rintro e w2 ⟨g2, h2⟩
  replace HS := Keep.mk (HS.out.grown g2)
  have HBD := Keep.mk (hB.kept g2)
  clear g2 hQ hB
  rcases h2 with ⟨d1, _⟩ | ⟨_, d1, _⟩ | ⟨_, _, rv, rfl, hR⟩
  · exact absurd b1 d1
  · exact absurd d1 b2
  obtain ⟨kk, _, _, hv, _⟩ := hR.o
  subst hv
  have HRB := Keep.mk hR
  clear hR b1 b2
  generalize lns tx = L at *
  have h1 := num_c w2 0
  go_wp2_with fail
  refine h1.mono ?_
  rintro e w_ ⟨rfl, rfl⟩
  rename World => w2
  have h1 := num_c w2 0
  go_wp2_with fail
  refine h1.mono ?_
  rintro e w_ ⟨rfl, rfl⟩
  rename World => w2
  clear h1
  go_wp2_with fail
  refine (HLE.out _ HS.out.g).mono ?_
  rintro e w3 ⟨g, q, rfl, g3, hq, hrow⟩
  replace HS := Keep.mk (HS.out.grown g3)
  have HALL : Keep (Bd w3 (pt kb) L ∧ RB w3 (pt kk) L ∧ Rw w3 g (cs ++ [m77, m78])) := ⟨HBD.out.kept g3, HRB.out.kept g3, hrow⟩
  obtain ⟨n2, hn2⟩ : ∃ n2, n + 2 = n2 := ⟨_, rfl⟩
  rw [hn2]
  rw [hn2] at hq
  have HN2 : Keep (n + 2 = n2 ∧ n2 ≤ q) := ⟨hn2, hq⟩
  clear HLE HBD HRB g3 hrow hq hn2
  have RO5 := Keep.mk (HS.out.boxGet k0m).range
  have S_ := HS.out.newBox zS7.toArray 26
  obtain ⟨W4, hW4⟩ : ∃ W_, w3.alloc (.cells zS7.toArray 26) = W_ := ⟨_, rfl⟩
  obtain ⟨tb, htb⟩ : ∃ b_, w3.heap.size = b_ := ⟨_, rfl⟩
  rw [hW4, htb] at S_
  have hgr4 : w3.grownBy W4 none := by rw [← hW4]; exact World.grownBy_alloc _ _ _
  rw [zS7_lit] at hW4
  replace HS := Keep.mk S_
  have HX_ := Keep.mk (S_.boxGet k0m)
  have HO_ := Keep.mk (shv_one s)
  have HTB : Keep (w3.heap.size ≤ tb ∧ w3.grownBy W4 none) := ⟨by rw [htb]; exact Nat.le_refl _, hgr4⟩
  clear S_ hgr4
  go_wp2_with (first
    | (show wpList _ _ _ ({ dst := _, op := Op.load 26 (Operand.tmp 5), type := _, pos := _, after := _, guard := _ } :: _) _ _
       refine load_g (by rfl) 26 _ rfl _ _ rfl _ _ RO5.out hds hdsr (infoS' s) ?_)
    | (show wpList _ _ _ ({ dst := _, op := Op.store 26 (Operand.tmp 12) _, type := _, pos := _, after := _, guard := _ } :: _) _ _
       refine store_at _ tb 0 zS7 (shv s) 26 26 rfl rfl rfl rfl HX_.out (Nat.le_refl _) (infoS' s) HO_.out ?_))
  intro w5 hS_ g_
  have S_ := hS_ _ _ HS.out
  rw [over_all zS7 (shv s) rfl] at S_
  change Sep w w5 [boxA tb (shv s) 26, boxA sb (shv s) 26] at S_
  replace HS := Keep.mk S_
  have HG5 : Keep (w3.grownBy w5 none) := ⟨gr_new HTB.out.2 g_ HTB.out.1⟩
  replace HALL : Keep (Bd w5 (pt kb) L ∧ RB w5 (pt kk) L ∧ Rw w5 g (cs ++ [m77, m78])) := ⟨HALL.out.1.kept HG5.out, HALL.out.2.1.kept HG5.out, HALL.out.2.2.kept HG5.out⟩
  clear S_ hS_ g_ HX_ HO_ RO5 hW4 htb HG5 HTB
  go_wp2_with fail
  go_loopw [13] (fun u wr => ∃ (i : Nat) (t : Sh), i ≤ 60 ∧ u = iv i ∧ Keep (ShOk t) ∧ Keep (Sep w wr [boxA tb (shv t) 26, boxA sb (shv t) 26]) ∧ Keep (Bd wr (pt kb) L ∧ RB wr (pt kk) L ∧ Rw wr g (cs ++ [m77, m78]))) (fun u _ => (60 - intOf u).toNat)
  case atStart => exact ⟨0, s, by omega, rfl, HOK, HS, HALL⟩
  case round =>
    clear HS HALL HOK
    obtain ⟨i, t, hi0, rfl, HT, HS, HALL⟩ := hrel
    by_cases h60 : i < 60
    · have hi6 : (i : Int) < 60 := by omega
      have hdi : decide ((i : Int) < 60) = true := decide_eq_true hi6
      have hi1 : IntKind.i64.wrap ((i : Int) + 1) = ((i + 1 : Nat) : Int) := by rw [wi _ (by omega) (by omega)]; omega
      have HI6 := Keep.mk h60
      have hcr := HALL.out.2.2.crs (q := q) HC.out.s HN.out
      rw [HNN.out] at hcr
      have HMO := Keep.mk (fun W (gW : wr.grownBy W none) => move_c W kb L (.slice (some ⟨g, 0, none⟩) n q) cs t (HALL.out.1.kept gW) (hcr.kept gW) HT.out (HKW.out.kept (HS.out.g.trans gW)))
      have HRM := Keep.mk (fun W (gW : wr.grownBy W none) => rmove_c W kk L (.slice a0 n cap) cs t (HALL.out.2.1.kept gW) (HC.out.kept (HS.out.g.trans gW)) HT.out (HKW.out.kept (HS.out.g.trans gW)))
      have HKP := Keep.mk (fun W (gW : wr.grownBy W none) => kept_c W (.slice a0 n cap) cs g q (HC.out.kept (HS.out.g.trans gW)) (HALL.out.2.2.kept gW) HN.out)
      rw [HNN.out, HN2.out.1] at HKP
      have HXO := Keep.mk (mov_ok (L := L) (cs := cs) HT.out)
      generalize (mov L cs t).1 = x at HMO HRM HXO
      generalize (mov L cs t).2.1 = h at HMO HRM
      generalize (mov L cs t).2.2 = on at HMO HRM
      have hqc : (n : Int) ≤ (q : Int) := by have := HN2.out; omega
      have HXs : Keep (Has wr sb (shv t) 26) := ⟨HS.out.boxGet k1m⟩
      have HXt : Keep (Has wr tb (shv t) 26) := ⟨HS.out.boxGet k0m⟩
      have HB : Keep (Sep wr wr []) := ⟨Sep.nil wr⟩
      clear hcr h60
      go_upto_region 14 with fail
      obtain ⟨wq, hwq⟩ : ∃ wq, wr = wq := ⟨_, rfl⟩
      replace HB : Keep (Sep wr wq []) := ⟨hwq ▸ HB.out⟩
      rw [show Code.wp Tryd.prog _ _ _ wr = Code.wp Tryd.prog _ _ _ wq from by rw [hwq]]
      clear hwq
      go_cut [14, 15, 16] (fun s14 s15 s16 wx => ∃ xb, s14 = pt xb ∧ s15 = iv h ∧ s16 = .bool on ∧ Keep (Sep wr wx [boxA xb (shv x) 26]))
      case first =>
        refine region_X (S := fun w' => Sep wr w' []) [] (by kernel_rfl) (HB.out.grown (gr_drew _ _)) (fun hHeld => ?_)
        replace HB := Keep.mk hHeld
        obtain ⟨W0, hW0⟩ : ∃ W_, wq.drew = W_ := ⟨_, rfl⟩
        rw [hW0] at HB hHeld ⊢
        clear hW0
        refine wpAnyX_take (i := 0) (oi := _) (v := ?_) rfl (by kernel_rfl) (by kernel_rfl) (by kernel_rfl) (by kernel_rfl) (by kernel_rfl) (fun _ _ _ h => h) (Or.inl ⟨by rfl, ?_⟩) (by assumption) ?_
        rotate_left
        · (intro w hSw; go_simp; first | done | (with_reducible rfl))
        simp only [Act.put, List.getElem_toArray, List.getElem_cons_zero, List.setIfInBounds_toArray, List.set_cons_zero, List.set_cons_succ]
        refine wpAnyX_take (i := 1) (oi := _) (v := ?_) rfl (by kernel_rfl) (by kernel_rfl) (by kernel_rfl) (by kernel_rfl) (by kernel_rfl) (fun _ _ _ h => h) (Or.inl ⟨by rfl, ?_⟩) (by assumption) ?_
        rotate_left
        · (intro w hSw; go_simp; first | done | (with_reducible rfl))
        simp only [Act.put, List.getElem_toArray, List.getElem_cons_succ, List.getElem_cons_zero, List.setIfInBounds_toArray, List.set_cons_zero, List.set_cons_succ]
        refine wpAnyX_take (i := 2) (oi := _) (v := ?_) rfl (by kernel_rfl) (by kernel_rfl) (by kernel_rfl) (by kernel_rfl) (by kernel_rfl) (fun _ _ _ h => h) (Or.inl ⟨by rfl, ?_⟩) (by assumption) ?_
        rotate_left
        · (intro w hSw; go_simp; first | done | (with_reducible rfl))
        simp only [Act.put, List.getElem_toArray, List.getElem_cons_succ, List.getElem_cons_zero, List.setIfInBounds_toArray, List.set_cons_zero, List.set_cons_succ]
        refine wpAnyX_take (i := 3) (oi := _) (v := ?_) rfl (by kernel_rfl) (by kernel_rfl) (by kernel_rfl) (by kernel_rfl) (by kernel_rfl) (fun _ _ _ h => h) (Or.inl ⟨by rfl, ?_⟩) (by assumption) ?_
        rotate_left
        · (intro w hSw; go_simp; first | done | (with_reducible rfl))
        simp only [Act.put, List.getElem_toArray, List.getElem_cons_succ, List.getElem_cons_zero, List.setIfInBounds_toArray, List.set_cons_zero, List.set_cons_succ]
        refine wpAnyX_take (i := 4) (oi := _) (v := ?_) rfl (by kernel_rfl) (by kernel_rfl) (by kernel_rfl) (by kernel_rfl) (by kernel_rfl) (fun _ _ _ h => h) (Or.inl ⟨by rfl, ?_⟩) (by assumption) ?_
        rotate_left
        · (intro w hSw; have q0 := hqc; go_simp; first | done | (with_reducible rfl))
        simp only [Act.put, List.getElem_toArray, List.getElem_cons_succ, List.getElem_cons_zero, List.setIfInBounds_toArray, List.set_cons_zero, List.set_cons_succ]
        refine wpAnyX_take (i := 5) (oi := _) (v := _) rfl (by kernel_rfl) (by kernel_rfl) (by kernel_rfl) (by kernel_rfl) (by kernel_rfl) (fun _ _ _ h => h) (yieldsIf_load_mid (by rfl) 26 _ rfl _ _ rfl _ _ (fun w_ hS_ => (HXs.out.kept hS_.g (by simp)).range) hds hdsr (infoS' t)) (by assumption) ?_
        simp only [Act.put, List.getElem_toArray, List.getElem_cons_succ, List.getElem_cons_zero, List.setIfInBounds_toArray, List.set_cons_zero, List.set_cons_succ]
        refine wpAnyX_two (i := 6) (j := 11) (by kernel_rfl) rfl rfl (fun K hK => ?_) (fun K hK => ?_)
        · skip
          go_simp
          refine (HMO.out _ HB.out.g).mono ?_
          rintro e wg1 ⟨rfl, hg⟩
          replace HB := Keep.mk (HB.out.grown hg)
          refine hK.out _ _ HB.out (fun hHeld => ?_)
          clear hK K hg
          refine wpAnyX_take (i := 7) (oi := _) (v := ?_) rfl (by kernel_rfl) (by kernel_rfl) (by kernel_rfl) (by kernel_rfl) (by kernel_rfl) (fun _ _ _ h => h) (Or.inl ⟨by rfl, ?_⟩) (by assumption) ?_
          rotate_left
          · (intro w hSw; go_simp; first | done | (with_reducible rfl))
          simp only [Act.put, List.getElem_toArray, List.getElem_cons_succ, List.getElem_cons_zero, List.setIfInBounds_toArray, List.set_cons_zero, List.set_cons_succ]
          refine wpAnyX_take (i := 8) (oi := _) (v := ?_) rfl (by kernel_rfl) (by kernel_rfl) (by kernel_rfl) (by kernel_rfl) (by kernel_rfl) (fun _ _ _ h => h) (Or.inl ⟨by rfl, ?_⟩) (by assumption) ?_
          rotate_left
          · (intro w hSw; go_simp; first | done | (with_reducible rfl))
          simp only [Act.put, List.getElem_toArray, List.getElem_cons_succ, List.getElem_cons_zero, List.setIfInBounds_toArray, List.set_cons_zero, List.set_cons_succ]
          refine wpAnyX_take (i := 9) (oi := _) (v := ?_) rfl (by kernel_rfl) (by kernel_rfl) (by kernel_rfl) (by kernel_rfl) (by kernel_rfl) (fun _ _ _ h => h) (Or.inl ⟨by rfl, ?_⟩) (by assumption) ?_
          rotate_left
          · (intro w hSw; go_simp; first | done | (with_reducible rfl))
          simp only [Act.put, List.getElem_toArray, List.getElem_cons_succ, List.getElem_cons_zero, List.setIfInBounds_toArray, List.set_cons_zero, List.set_cons_succ]
          refine wpAnyX_take (i := 10) (oi := _) (v := ?_) rfl (by kernel_rfl) (by kernel_rfl) (by kernel_rfl) (by kernel_rfl) (by kernel_rfl) (fun _ _ _ h => h) (Or.inl ⟨by rfl, ?_⟩) (by assumption) ?_
          rotate_left
          · (intro w hSw; go_simp; first | done | (with_reducible rfl))
          simp only [Act.put, List.getElem_toArray, List.getElem_cons_succ, List.getElem_cons_zero, List.setIfInBounds_toArray, List.set_cons_zero, List.set_cons_succ]
          refine wpAnyX_one (i := 11) (by kernel_rfl) rfl (fun K hK => ?_)
          have S_ := HB.out.newBox zS7.toArray 26
          obtain ⟨wa2, hwa2⟩ : ∃ W_, wg1.alloc (.cells zS7.toArray 26) = W_ := ⟨_, rfl⟩
          obtain ⟨xb, hxb⟩ : ∃ b_, wg1.heap.size = b_ := ⟨_, rfl⟩
          rw [hwa2, hxb] at S_
          rw [zS7_lit] at hwa2
          replace HB := Keep.mk S_
          clear S_
          go_simp
          refine hK.out _ _ HB.out.tail (fun hHeld => ?_)
          clear hK K
          refine wpAnyX_one (i := 12) (by kernel_rfl) rfl (fun K hK => ?_)
          rw [if_pos (show Region.wanted _ _ = true from rfl)]
          refine wp_store_mid 26 _ _ rfl xb 0 (shv x).toArray rfl rfl ((HB.out.boxGet k0m).there 0 7 (Nat.le_refl _)) infoS (all_oneCell_toArray (shv_one x)) ?_
          have S_ := HB.out.boxTurn ((HB.out.boxGet k0m).setCells (shv x) 0) (gr_sets _ _ _ _)
          rw [over_all zS7 (shv x) rfl] at S_
          refine hK.out _ _ S_.tail (fun hHeld => ?_)
          replace HB := Keep.mk S_
          clear hK K S_
          change Keep (Sep wr (World.setCells wa2 xb 0 (shv x).toArray.toList) _) at HB
          generalize World.setCells wa2 xb 0 (shv x).toArray.toList = ws3 at HB hHeld ⊢
          simp only [Act.put, List.getElem_toArray, List.getElem_cons_succ, List.getElem_cons_zero]
          refine wpAnyX_take (i := 13) (oi := _) (v := ?_) rfl (by kernel_rfl) (by kernel_rfl) (by kernel_rfl) (by kernel_rfl) (by kernel_rfl) (fun _ _ _ h => h) (Or.inl ⟨by rfl, ?_⟩) (by assumption) ?_
          rotate_left
          · (intro w hSw; go_simp; first | done | (with_reducible rfl))
          simp only [Act.put, List.getElem_toArray, List.getElem_cons_succ, List.getElem_cons_zero, List.setIfInBounds_toArray, List.set_cons_zero, List.set_cons_succ]
          refine wpAnyX_take (i := 14) (oi := _) (v := ?_) rfl (by kernel_rfl) (by kernel_rfl) (by kernel_rfl) (by kernel_rfl) (by kernel_rfl) (fun _ _ _ h => h) (Or.inl ⟨by rfl, ?_⟩) (by assumption) ?_
          rotate_left
          · (intro w hSw; go_simp; first | done | (with_reducible rfl))
          simp only [Act.put, List.getElem_toArray, List.getElem_cons_succ, List.getElem_cons_zero, List.setIfInBounds_toArray, List.set_cons_zero, List.set_cons_succ]
          refine wpAnyX_done (by kernel_rfl) ?_ _
          clear hHeld
          go_wp2_with fail
          go_meet
          exact ⟨xb, rfl, rfl, rfl, HB⟩
        · skip
          have S_ := HB.out.newBox zS7.toArray 26
          obtain ⟨wa4, hwa4⟩ : ∃ W_, W0.alloc (.cells zS7.toArray 26) = W_ := ⟨_, rfl⟩
          obtain ⟨xb, hxb⟩ : ∃ b_, W0.heap.size = b_ := ⟨_, rfl⟩
          rw [hwa4, hxb] at S_
          rw [zS7_lit] at hwa4
          replace HB := Keep.mk S_
          clear S_
          go_simp
          refine hK.out _ _ HB.out.tail (fun hHeld => ?_)
          clear hK K
          refine wpAnyX_one (i := 6) (by kernel_rfl) rfl (fun K hK => ?_)
          go_simp
          refine (HMO.out _ HB.out.g).mono ?_
          rintro e wg5 ⟨rfl, hg⟩
          replace HB := Keep.mk (HB.out.grown hg)
          refine hK.out _ _ HB.out.tail (fun hHeld => ?_)
          clear hK K hg
          refine wpAnyX_take (i := 7) (oi := _) (v := ?_) rfl (by kernel_rfl) (by kernel_rfl) (by kernel_rfl) (by kernel_rfl) (by kernel_rfl) (fun _ _ _ h => h) (Or.inl ⟨by rfl, ?_⟩) (by assumption) ?_
          rotate_left
          · (intro w hSw; go_simp; first | done | (with_reducible rfl))
          simp only [Act.put, List.getElem_toArray, List.getElem_cons_succ, List.getElem_cons_zero, List.setIfInBounds_toArray, List.set_cons_zero, List.set_cons_succ]
          refine wpAnyX_take (i := 8) (oi := _) (v := ?_) rfl (by kernel_rfl) (by kernel_rfl) (by kernel_rfl) (by kernel_rfl) (by kernel_rfl) (fun _ _ _ h => h) (Or.inl ⟨by rfl, ?_⟩) (by assumption) ?_
          rotate_left
          · (intro w hSw; go_simp; first | done | (with_reducible rfl))
          simp only [Act.put, List.getElem_toArray, List.getElem_cons_succ, List.getElem_cons_zero, List.setIfInBounds_toArray, List.set_cons_zero, List.set_cons_succ]
          refine wpAnyX_take (i := 9) (oi := _) (v := ?_) rfl (by kernel_rfl) (by kernel_rfl) (by kernel_rfl) (by kernel_rfl) (by kernel_rfl) (fun _ _ _ h => h) (Or.inl ⟨by rfl, ?_⟩) (by assumption) ?_
          rotate_left
          · (intro w hSw; go_simp; first | done | (with_reducible rfl))
          simp only [Act.put, List.getElem_toArray, List.getElem_cons_succ, List.getElem_cons_zero, List.setIfInBounds_toArray, List.set_cons_zero, List.set_cons_succ]
          refine wpAnyX_take (i := 10) (oi := _) (v := ?_) rfl (by kernel_rfl) (by kernel_rfl) (by kernel_rfl) (by kernel_rfl) (by kernel_rfl) (fun _ _ _ h => h) (Or.inl ⟨by rfl, ?_⟩) (by assumption) ?_
          rotate_left
          · (intro w hSw; go_simp; first | done | (with_reducible rfl))
          simp only [Act.put, List.getElem_toArray, List.getElem_cons_succ, List.getElem_cons_zero, List.setIfInBounds_toArray, List.set_cons_zero, List.set_cons_succ]
          refine wpAnyX_one (i := 12) (by kernel_rfl) rfl (fun K hK => ?_)
          rw [if_pos (show Region.wanted _ _ = true from rfl)]
          refine wp_store_mid 26 _ _ rfl xb 0 (shv x).toArray rfl rfl ((HB.out.boxGet k0m).there 0 7 (Nat.le_refl _)) infoS (all_oneCell_toArray (shv_one x)) ?_
          have S_ := HB.out.boxTurn ((HB.out.boxGet k0m).setCells (shv x) 0) (gr_sets _ _ _ _)
          rw [over_all zS7 (shv x) rfl] at S_
          refine hK.out _ _ S_.tail (fun hHeld => ?_)
          replace HB := Keep.mk S_
          clear hK K S_
          change Keep (Sep wr (World.setCells wg5 xb 0 (shv x).toArray.toList) _) at HB
          generalize World.setCells wg5 xb 0 (shv x).toArray.toList = ws6 at HB hHeld ⊢
          simp only [Act.put, List.getElem_toArray, List.getElem_cons_succ, List.getElem_cons_zero]
          refine wpAnyX_take (i := 13) (oi := _) (v := ?_) rfl (by kernel_rfl) (by kernel_rfl) (by kernel_rfl) (by kernel_rfl) (by kernel_rfl) (fun _ _ _ h => h) (Or.inl ⟨by rfl, ?_⟩) (by assumption) ?_
          rotate_left
          · (intro w hSw; go_simp; first | done | (with_reducible rfl))
          simp only [Act.put, List.getElem_toArray, List.getElem_cons_succ, List.getElem_cons_zero, List.setIfInBounds_toArray, List.set_cons_zero, List.set_cons_succ]
          refine wpAnyX_take (i := 14) (oi := _) (v := ?_) rfl (by kernel_rfl) (by kernel_rfl) (by kernel_rfl) (by kernel_rfl) (by kernel_rfl) (fun _ _ _ h => h) (Or.inl ⟨by rfl, ?_⟩) (by assumption) ?_
          rotate_left
          · (intro w hSw; go_simp; first | done | (with_reducible rfl))
          simp only [Act.put, List.getElem_toArray, List.getElem_cons_succ, List.getElem_cons_zero, List.setIfInBounds_toArray, List.set_cons_zero, List.set_cons_succ]
          refine wpAnyX_done (by kernel_rfl) ?_ _
          clear hHeld
          go_wp2_with fail
          go_meet
          exact ⟨xb, rfl, rfl, rfl, HB⟩
      case rest =>
      obtain ⟨xb, rfl, rfl, rfl, HB2⟩ := hcut
      clear HB HMO
      have HB := HB2
      clear HB2
      rename World => w6
      have RN12 : Keep (w6.rangeAt tb 0 (shv t)) := ⟨(HXt.out.kept HB.out.g (by simp)).range⟩
      go_wp2_with (first
        | (show wpList _ _ _ ({ dst := _, op := Op.load 26 (Operand.tmp 12), type := _, pos := _, after := _, guard := _ } :: _) _ _
           refine load_g (by rfl) 26 _ rfl _ _ rfl _ _ RN12.out hds hdsr (infoS' t) ?_))
      refine (HRM.out _ HB.out.g).mono ?_
      rintro e w7 ⟨rfl, g_⟩
      replace HB := Keep.mk (HB.out.grown g_)
      clear g_ HRM RN12
      have S_ := HB.out.newBox zS7.toArray 26
      obtain ⟨W8, hW8⟩ : ∃ W_, w7.alloc (.cells zS7.toArray 26) = W_ := ⟨_, rfl⟩
      obtain ⟨yb, hyb⟩ : ∃ b_, w7.heap.size = b_ := ⟨_, rfl⟩
      rw [hW8, hyb] at S_
      rw [zS7_lit] at hW8
      replace HB := Keep.mk S_
      have HX_ := Keep.mk (S_.boxGet k0m)
      have HO_ := Keep.mk (shv_one x)
      clear S_
      go_wp2_with (first
        | (show wpList _ _ _ ({ dst := _, op := Op.store 26 (Operand.tmp 17) _, type := _, pos := _, after := _, guard := _ } :: _) _ _
           refine store_at _ yb 0 zS7 (shv x) 26 26 rfl rfl rfl rfl HX_.out (Nat.le_refl _) (infoS' x) HO_.out ?_))
      intro w9 hS_ g_
      have S_ := hS_ _ _ HB.out
      rw [over_all zS7 (shv x) rfl] at S_
      change Sep wr w9 [boxA yb (shv x) 26, boxA xb (shv x) 26] at S_
      replace HB := Keep.mk S_
      clear S_ hS_ g_ HX_ HO_ hW8 hyb
      have RN17 := Keep.mk (HB.out.boxGet k0m).range
      have RN14 := Keep.mk (HB.out.boxGet k1m).range
      have hEQ := fun w => eq26 x w
      go_upto_region 16 with fail
      go_cut [90] (fun sv wx => sv = .bool false ∧ Keep (Sep wr wx [boxA yb (shv x) 26, boxA xb (shv x) 26]))
      case first =>
        cases on
        all_goals (
          go_wp2_with (first
            | (show wpList _ _ _ ({ dst := _, op := Op.load 26 (Operand.tmp 17), type := _, pos := _, after := _, guard := _ } :: _) _ _
               refine load_g (by rfl) 26 _ rfl _ _ rfl _ _ RN17.out hds hdsr (infoS' x) ?_)
            | (show wpList _ _ _ ({ dst := _, op := Op.load 26 (Operand.tmp 14), type := _, pos := _, after := _, guard := _ } :: _) _ _
               refine load_g (by rfl) 26 _ rfl _ _ rfl _ _ RN14.out hds hdsr (infoS' x) ?_))
          refine (HKP.out _ HB.out.g).mono ?_
          rintro e w10 ⟨rfl, g_⟩
          replace HB := Keep.mk (HB.out.grown g_)
          clear g_ HKP
          go_wp2_with fail
          go_meet
          exact ⟨rfl, HB⟩)
      case rest =>
      replace HB := hcut.2
      replace hcut := hcut.1
      subst hcut
      rename World => w10
      clear RN17 RN14 hEQ HKP
      cases on
      case false =>
        go_wp2_with fail
        go_ret
        exact ⟨rfl, HS.out.g.trans HB.out.g⟩
      case true =>
      have RN14 := Keep.mk (HB.out.boxGet k1m).range
      have HS2 := Keep.mk (HS.out.grown HB.out.g)
      have HALL2 : Keep (Bd w10 (pt kb) L ∧ RB w10 (pt kk) L ∧ Rw w10 g (cs ++ [m77, m78])) := ⟨HALL.out.1.kept HB.out.g, HALL.out.2.1.kept HB.out.g, HALL.out.2.2.kept HB.out.g⟩
      have HX_ := Keep.mk (HS2.out.boxGet k1m)
      have HO_ := Keep.mk (shv_one x)
      have HYB : Keep (Sep w w10 [boxA sb (shv t) 26, boxA tb (shv t) 26]) := ⟨HS2.out.swap⟩
      have HNE := Keep.mk (HS2.out.boxNe (show boxA sb (shv t) 26 ∈ [boxA sb (shv t) 26] from k0m))
      have HYX : Keep (w10.rangeAt yb 0 (shv x) ∧ yb ≠ sb) := ⟨(HB.out.boxGet k0m).range, fun e => by
        have h1 := HXs.out.lt
        have h2 := (HB.out.use.choose_spec.2.1 yb)
        have h3 := (HB.out.use.choose_spec.1).2
        rw [h3] at h2
        have := h2 rfl
        omega⟩
      go_wp2_with (first
        | (show wpList _ _ _ ({ dst := _, op := Op.load 26 (Operand.tmp 14), type := _, pos := _, after := _, guard := _ } :: _) _ _
           refine load_g (by rfl) 26 _ rfl _ _ rfl _ _ RN14.out hds hdsr (infoS' x) ?_)
        | (show wpList _ _ _ ({ dst := _, op := Op.store 26 (Operand.tmp 5) _, type := _, pos := _, after := _, guard := _ } :: _) _ _
           refine store_at _ sb 0 (shv t) (shv x) 26 26 rfl rfl rfl rfl HX_.out (Nat.le_refl _) (infoS' x) HO_.out ?_))
      intro w11 hS_ g_
      have S_ := hS_ _ _ HYB.out
      rw [over_all (shv t) (shv x) rfl] at S_
      have HS3 : Keep (Sep w w11 [boxA tb (shv t) 26, boxA sb (shv x) 26]) := ⟨S_.swap⟩
      have HALL3 : Keep (Bd w11 (pt kb) L ∧ RB w11 (pt kk) L ∧ Rw w11 g (cs ++ [m77, m78])) := ⟨HALL2.out.1.keptX HX_.out g_, HALL2.out.2.1.keptX HX_.out g_, HALL2.out.2.2.keptX (by simp) HX_.out g_⟩
      have RN17 : Keep (w11.rangeAt yb 0 (shv x)) := ⟨fun j v hv => g_.cell (HYX.out.1 j v hv) (by simpa using HYX.out.2)⟩
      clear S_ hS_ g_ HX_ HS2 HALL2 HYB RN14 HYX
      have HX_ := Keep.mk (HS3.out.boxGet k0m)
      go_wp2_with (first
        | (show wpList _ _ _ ({ dst := _, op := Op.load 26 (Operand.tmp 17), type := _, pos := _, after := _, guard := _ } :: _) _ _
           refine load_g (by rfl) 26 _ rfl _ _ rfl _ _ RN17.out hds hdsr (infoS' x) ?_)
        | (show wpList _ _ _ ({ dst := _, op := Op.store 26 (Operand.tmp 12) _, type := _, pos := _, after := _, guard := _ } :: _) _ _
           refine store_at _ tb 0 (shv t) (shv x) 26 26 rfl rfl rfl rfl HX_.out (Nat.le_refl _) (infoS' x) HO_.out ?_))
      intro w12 hS_ g_
      have S_ := hS_ _ _ HS3.out
      rw [over_all (shv t) (shv x) rfl] at S_
      have HS4 : Keep (Sep w w12 [boxA tb (shv x) 26, boxA sb (shv x) 26]) := ⟨S_⟩
      have HALL4 : Keep (Bd w12 (pt kb) L ∧ RB w12 (pt kk) L ∧ Rw w12 g (cs ++ [m77, m78])) := ⟨HALL3.out.1.keptX HX_.out g_, HALL3.out.2.1.keptX HX_.out g_, HALL3.out.2.2.keptX (by simp) HX_.out g_⟩
      clear S_ hS_ g_ HX_ HO_ HS3 HALL3 RN17
      go_wp2_with fail
      go_roundw
      case rel => exact ⟨i + 1, x, by have := HI6.out; omega, rfl, HXO, HS4, HALL4⟩
      case measure => have := HI6.out; simp [intOf]; omega
    · have hi6 : ¬ (i : Int) < 60 := by omega
      have hdi : decide ((i : Int) < 60) = false := decide_eq_false hi6
      go_wp2_with fail
      go_ret
      exact ⟨rfl, HS.out.g⟩
end Go.Proofs.YtmacmoikjgmaoaaDoor.Bo
