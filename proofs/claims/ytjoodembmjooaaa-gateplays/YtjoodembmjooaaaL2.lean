/- GatePlays: the walk. -/
import Derived.Test.YtjoodembmjooaaaG7
import Derived.Test.YtjoodembmjooaaaL1
namespace Go.Proofs.Ytjoodembmjooaaa
open Go Go.RowKit Go.Maps

set_option maxRecDepth 100000 in
set_option maxHeartbeats 32000000 in
theorem gplays_c (w : World) (sv : Value) (L : List Stp) (hs : SrO w sv L) :
    Calls Try.prog 6 #[sv] w fun e w' => e = .returned (.bool true) ∧ w.grownBy w' none := by
  obtain ⟨a0, cap0, hsv, _⟩ := hs.o
  obtain ⟨n, hnn⟩ : ∃ n, L.length = n := ⟨_, rfl⟩
  rw [hnn] at hsv
  subst hsv
  have HNK := Keep.mk (And.intro hs hnn)
  have HNL : Keep (n * 40 ≤ 140737488351232) := ⟨by rw [← hnn]; exact hs.len⟩
  have HF := Keep.mk (fixed_c sort_c w)
  obtain ⟨du, hdu, hdr⟩ := underS
  clear hs hnn
  go_enter Try.func6, Try.ntmps6
  go_wp2_with fail
  refine HF.out.mono ?_
  rintro e w1 ⟨rfl, g1⟩
  have HN1 := Keep.mk (new_c w w1 [] (Sep.start g1))
  clear HF g1
  go_wp2_with fail
  refine HN1.out.mono ?_
  rintro e w2 ⟨gb, rfl, S2⟩
  have S3 := S2.newBox #[.slice none 0 0] 44
  obtain ⟨w3, hw3⟩ : ∃ w3, w2.alloc (.cells #[.slice none 0 0] 44) = w3 := ⟨_, rfl⟩
  obtain ⟨rb, hrb⟩ : ∃ b, w2.heap.size = b := ⟨_, rfl⟩
  rw [hw3, hrb] at S3
  have HS3 : Keep (Sep w w3 [gateA gb [], rgA rb []]) := ⟨(rg_shut (M := []) (S3.nilV 36 5).swap Gok.nil).swap⟩
  clear HN1 S2 S3
  go_wp2_with fail
  go_loopw [5, 6, 7, 8, 9] (fun u5 _ _ _ _ wr => ∃ (i : Nat) (G : List Itn), i ≤ n ∧ u5 = iv i ∧ Keep (Sep w wr [gateA gb G, rgA rb G]) ∧ Keep (G.length ≤ i)) (fun u5 _ _ _ _ _ => (n - intOf u5).toNat)
  case atStart => exact ⟨0, [], by omega, rfl, HS3, ⟨Nat.le_refl _⟩⟩
  case round =>
    clear HS3
    obtain ⟨i, G, hi, rfl, hS, hL⟩ := hrel
    by_cases hlt : i < n
    · obtain ⟨b0, o0, x, rfl, hx, hxp, hrg⟩ := HNK.out.1.at HNK.out.2 hS.out.g hlt
      have HRG := Keep.mk hrg
      have HXP := Keep.mk hxp
      have HSO := Keep.mk (stv_one x)
      have HGL : Keep ((G.length + 4) * 32 ≤ 140737488355328) := ⟨by have := hL.out; have := HNL.out; omega⟩
      have HGG := Keep.mk (gok_get hS.out)
      have hi0 : (0 : Int) ≤ (i : Int) := by omega
      have hi1 : (i : Int) < (n : Nat) := by omega
      have hti : ((i : Nat) : Int).toNat = i := by omega
      have hwi : IntKind.i64.wrap ((i : Int) + 1) = ((i + 1 : Nat) : Int) := by have := HNL.out; rw [wi _ (by omega) (by omega)]; omega
      have HI : Keep (i < n) := ⟨hlt⟩
      have HLG0 := Keep.mk (fun W => legal_c W x.pl x.c)
      have HLR0 := Keep.mk (fun W => rlegal_c W x.pl x.c)
      obtain ⟨y, hy⟩ : ∃ y, lgl x.pl x.c = y := ⟨_, rfl⟩
      have HLG : Keep (∀ W, Calls Try.prog 19 #[iv x.pl, .agg #[iv x.c.th, iv x.c.tu, .bool x.c.fi, .bool x.c.bo]] W fun e W' => e = .returned (.agg #[iv y.pl, iv y.th, iv y.tu, .bool y.fi, .bool y.bo]) ∧ W.grownBy W' none) := ⟨fun W => by rw [← hy]; exact HLG0.out W⟩
      have HLR : Keep (∀ W, Calls Try.prog 20 #[iv x.pl, .agg #[iv x.c.th, iv x.c.tu, .bool x.c.fi, .bool x.c.bo]] W fun e W' => e = .returned (.agg #[iv y.pl, iv y.th, iv y.tu, .bool y.fi, .bool y.bo]) ∧ W.grownBy W' none) := ⟨fun W => by rw [← hy]; exact HLR0.out W⟩
      clear hrg hxp hx hi hlt HLG0 HLR0 hy
      go_wp2_with (first
        | (show wpList _ _ _ ({ dst := _, op := Op.load 29 _, type := _, pos := _, after := _, guard := _ } :: _) _ _
           refine wpList_load_mid rfl 29 _ rfl _ _ rfl _ _ HRG.out hdu hdr (by exact infoS) ?_)
        | (show wpList _ _ _ ({ dst := _, op := Op.store 29 _ _, type := _, pos := _, after := _, guard := _ } :: _) _ _
           refine store_new _ (stv x) 29 rfl rfl rfl rfl rfl (by exact infoS) HSO.out ?_))
      intro w2 hS2 g2
      have S2 := hS2 w _ hS.out
      generalize wr.heap.size = ob at S2 ⊢
      have HS2 := Keep.mk S2
      clear hS2 g2 S2 hS HRG HSO
      have d0 : w2.cell? ⟨ob, 0, none⟩ = some (iv x.op) := (HS2.out.boxGet k0m).cellv 0 _ rfl
      have d1 : w2.cell? ⟨ob, 1, none⟩ = some (iv x.pl) := (HS2.out.boxGet k0m).cellv 1 _ rfl
      have d2 : w2.cell? ⟨ob, 2, none⟩ = some (iv x.c.th) := (HS2.out.boxGet k0m).cellv 2 _ rfl
      have d3 : w2.cell? ⟨ob, 3, none⟩ = some (iv x.c.tu) := (HS2.out.boxGet k0m).cellv 3 _ rfl
      have d4 : w2.cell? ⟨ob, 4, none⟩ = some (.bool x.c.fi) := (HS2.out.boxGet k0m).cellv 4 _ rfl
      have d5 : w2.cell? ⟨ob, 5, none⟩ = some (.bool x.c.bo) := (HS2.out.boxGet k0m).cellv 5 _ rfl
      by_cases e1 : x.op = 1
      · rw [e1] at d0
        have HC := Keep.mk (roffer_c w w2 [boxA ob (stv x) 29, gateA gb G] rb G x.pl x.c HXP.out HGL.out (fr1 [_, _] HS2.out))
        have HX : Keep ((ofX G x.pl x.c).length ≤ i + 1) := ⟨by have := hL.out; have := len_ofX G x.pl x.c; omega⟩
        clear e1 HS2
        go_wp2_with fail
        refine HC.out.mono ?_
        rintro e w4 ⟨rfl, S4⟩
        have HS4 : Keep (Sep w w4 [boxA ob (stv x) 29, gateA gb G, rgA rb (ofX G x.pl x.c)]) := ⟨bk1 [_, _] S4⟩
        clear HC S4 d0 d1 d2 d3 d4 d5
        have d1 : w4.cell? ⟨ob, 1, none⟩ = some (iv x.pl) := (HS4.out.boxGet k0m).cellv 1 _ rfl
        have d2 : w4.cell? ⟨ob, 2, none⟩ = some (iv x.c.th) := (HS4.out.boxGet k0m).cellv 2 _ rfl
        have d3 : w4.cell? ⟨ob, 3, none⟩ = some (iv x.c.tu) := (HS4.out.boxGet k0m).cellv 3 _ rfl
        have d4 : w4.cell? ⟨ob, 4, none⟩ = some (.bool x.c.fi) := (HS4.out.boxGet k0m).cellv 4 _ rfl
        have d5 : w4.cell? ⟨ob, 5, none⟩ = some (.bool x.c.bo) := (HS4.out.boxGet k0m).cellv 5 _ rfl
        have HC2 := Keep.mk (offer_c w w4 [boxA ob (stv x) 29, rgA rb (ofX G x.pl x.c)] gb G x.pl x.c HXP.out (by have := HGL.out; omega) HS4.out.swap)
        generalize ofX G x.pl x.c = G2 at *
        generalize ofE G x.pl = ee at HC2 ⊢
        clear HS4
        go_wp2_with fail
        refine HC2.out.mono ?_
        rintro e w5 ⟨rfl, S5⟩
        have HS5 : Keep (Sep w w5 [boxA ob (stv x) 29, gateA gb G2, rgA rb G2]) := ⟨S5.swap⟩
        clear HC2 S5 d1 d2 d3 d4 d5
        have HL1 : Keep (∀ W, Sep w W [boxA ob (stv x) 29, gateA gb G2, rgA rb G2] → Calls Try.prog 19 #[iv x.pl, .agg #[iv x.c.th, iv x.c.tu, .bool x.c.fi, .bool x.c.bo]] W fun e W' => e = .returned (.agg #[iv y.pl, iv y.th, iv y.tu, .bool y.fi, .bool y.bo]) ∧ Sep w W' [boxA ob (stv x) 29, gateA gb G2, rgA rb G2]) := ⟨fun W q => (HLG.out W).mono fun e W' z => ⟨z.1, q.grown z.2⟩⟩
        have HL2 : Keep (∀ W, Sep w W [boxA ob (stv x) 29, gateA gb G2, rgA rb G2] → Calls Try.prog 20 #[iv x.pl, .agg #[iv x.c.th, iv x.c.tu, .bool x.c.fi, .bool x.c.bo]] W fun e W' => e = .returned (.agg #[iv y.pl, iv y.th, iv y.tu, .bool y.fi, .bool y.bo]) ∧ Sep w W' [boxA ob (stv x) 29, gateA gb G2, rgA rb G2]) := ⟨fun W q => (HLR.out W).mono fun e W' z => ⟨z.1, q.grown z.2⟩⟩
        clear HLG HLR
        go_wp2_with fail
        refine wp_region_held_drew (S := fun w' => Sep w w' [boxA ob (stv x) 29, gateA gb G2, rgA rb G2]) (by kernel_rfl) (HS5.out.grown (gr_drew _ _)) (fun hHeld => ?_)
        clear HS5
        refine wpAnyH_take (i := 0) (oi := _) (v := ?_) rfl (by kernel_rfl) (by kernel_rfl) (by kernel_rfl) (fun _ _ _ h => h) (Or.inl ⟨by rfl, ?_⟩) (by assumption) ?_
        rotate_left
        · (intro w hSw; go_simp; first | done | (with_reducible rfl))
        simp only [Act.put, List.getElem_toArray, List.getElem_cons_zero, List.setIfInBounds_toArray, List.set_cons_zero, List.set_cons_succ]
        refine wpAnyH_take (i := 1) (oi := _) (v := ?_) rfl (by kernel_rfl) (by kernel_rfl) (by kernel_rfl) (fun _ _ _ h => h) (Or.inl ⟨by rfl, ?_⟩) (by assumption) ?_
        rotate_left
        · (intro w hSw; have q1 := (hSw.boxGet k0m).cellv 1 _ rfl; go_simp; first | done | (with_reducible rfl))
        simp only [Act.put, List.getElem_toArray, List.getElem_cons_succ, List.getElem_cons_zero, List.setIfInBounds_toArray, List.set_cons_zero, List.set_cons_succ]
        refine wpAnyH_take (i := 2) (oi := _) (v := ?_) rfl (by kernel_rfl) (by kernel_rfl) (by kernel_rfl) (fun _ _ _ h => h) (Or.inl ⟨by rfl, ?_⟩) (by assumption) ?_
        rotate_left
        · (intro w hSw; go_simp; first | done | (with_reducible rfl))
        simp only [Act.put, List.getElem_toArray, List.getElem_cons_succ, List.getElem_cons_zero, List.setIfInBounds_toArray, List.set_cons_zero, List.set_cons_succ]
        refine wpAnyH_take (i := 3) (oi := _) (v := ?_) rfl (by kernel_rfl) (by kernel_rfl) (by kernel_rfl) (fun _ _ _ h => h) (Or.inl ⟨by rfl, ?_⟩) (by assumption) ?_
        rotate_left
        · (intro w hSw; have q2 := (hSw.boxGet k0m).cellv 2 _ rfl; have q3 := (hSw.boxGet k0m).cellv 3 _ rfl; have q4 := (hSw.boxGet k0m).cellv 4 _ rfl; have q5 := (hSw.boxGet k0m).cellv 5 _ rfl; go_simp; first | done | (with_reducible rfl))
        simp only [Act.put, List.getElem_toArray, List.getElem_cons_succ, List.getElem_cons_zero, List.setIfInBounds_toArray, List.set_cons_zero, List.set_cons_succ]
        refine wpAnyH_take (i := 5) (oi := _) (v := ?_) rfl (by kernel_rfl) (by kernel_rfl) (by kernel_rfl) (fun _ _ _ h => h) (Or.inl ⟨by rfl, ?_⟩) (by assumption) ?_
        rotate_left
        · (intro w hSw; go_simp; first | done | (with_reducible rfl))
        simp only [Act.put, List.getElem_toArray, List.getElem_cons_succ, List.getElem_cons_zero, List.setIfInBounds_toArray, List.set_cons_zero, List.set_cons_succ]
        refine wpAnyH_take (i := 6) (oi := _) (v := ?_) rfl (by kernel_rfl) (by kernel_rfl) (by kernel_rfl) (fun _ _ _ h => h) (Or.inl ⟨by rfl, ?_⟩) (by assumption) ?_
        rotate_left
        · (intro w hSw; have q1 := (hSw.boxGet k0m).cellv 1 _ rfl; go_simp; first | done | (with_reducible rfl))
        simp only [Act.put, List.getElem_toArray, List.getElem_cons_succ, List.getElem_cons_zero, List.setIfInBounds_toArray, List.set_cons_zero, List.set_cons_succ]
        refine wpAnyH_take (i := 7) (oi := _) (v := ?_) rfl (by kernel_rfl) (by kernel_rfl) (by kernel_rfl) (fun _ _ _ h => h) (Or.inl ⟨by rfl, ?_⟩) (by assumption) ?_
        rotate_left
        · (intro w hSw; go_simp; first | done | (with_reducible rfl))
        simp only [Act.put, List.getElem_toArray, List.getElem_cons_succ, List.getElem_cons_zero, List.setIfInBounds_toArray, List.set_cons_zero, List.set_cons_succ]
        refine wpAnyH_take (i := 8) (oi := _) (v := ?_) rfl (by kernel_rfl) (by kernel_rfl) (by kernel_rfl) (fun _ _ _ h => h) (Or.inl ⟨by rfl, ?_⟩) (by assumption) ?_
        rotate_left
        · (intro w hSw; have q2 := (hSw.boxGet k0m).cellv 2 _ rfl; have q3 := (hSw.boxGet k0m).cellv 3 _ rfl; have q4 := (hSw.boxGet k0m).cellv 4 _ rfl; have q5 := (hSw.boxGet k0m).cellv 5 _ rfl; go_simp; first | done | (with_reducible rfl))
        simp only [Act.put, List.getElem_toArray, List.getElem_cons_succ, List.getElem_cons_zero, List.setIfInBounds_toArray, List.set_cons_zero, List.set_cons_succ]
        refine wpAnyH_ready (rs := [4]) (by kernel_rfl) (by simp) ?_
        refine AllReadyH.cons (o := _) rfl (fun K hK => ?_) AllReadyH.nil
        go_simp
        refine (HL1.out _ hHeld).mono ?_
        rintro e wA ⟨rfl, SA⟩
        refine hK.out _ _ SA (fun hHeld => ?_)
        clear hK K
        refine wpAnyH_ready (rs := [9]) (by kernel_rfl) (by simp) ?_
        refine AllReadyH.cons (o := _) rfl (fun K hK => ?_) AllReadyH.nil
        go_simp
        refine (HL2.out _ hHeld).mono ?_
        rintro e wA ⟨rfl, SA⟩
        refine hK.out _ _ SA (fun hHeld => ?_)
        clear hK K
        refine wpAnyH_take (i := 10) (oi := _) (v := .bool false) rfl (by kernel_rfl) (by kernel_rfl) (by kernel_rfl) (fun _ _ _ h => h) (Or.inl ⟨by rfl, ?_⟩) (by assumption) ?_
        · (intro w hSw; have hE := eq36 y w; go_simp; first | done | (simp; done) | trace_state)
        simp only [Act.put, List.getElem_toArray, List.getElem_cons_succ, List.getElem_cons_zero, List.setIfInBounds_toArray, List.set_cons_zero, List.set_cons_succ]
        refine wpAnyH_done (by kernel_rfl) ?_ _
        have HZ : Keep (Sep w _ [gateA gb G2, rgA rb G2]) := ⟨hHeld.tail⟩
        clear hHeld HL1 HL2
        go_wp2_with fail
        go_roundw
        case rel => exact ⟨i + 1, _, HI.out, rfl, HZ, HX⟩
        case measure => simp [intOf]; have := HI.out; omega
      · have n1 : (x.op == 1) = false := by simp [e1]
        by_cases e2 : x.op = 2
        · rw [e2] at d0
          have HW1 : Keep (∀ W, Sep w W [boxA ob (stv x) 29, gateA gb G, rgA rb G] → Calls Try.prog 13 #[pt gb, iv x.pl] W fun e W' => e = .returned (.bool (look G x.pl).isSome) ∧ Sep w W' [boxA ob (stv x) 29, gateA gb G, rgA rb G]) := ⟨fun W q => (waits_c w W _ gb G x.pl HXP.out q.swap).mono fun e W' z => ⟨z.1, q.grown z.2⟩⟩
          have HW2 : Keep (∀ W, Sep w W [boxA ob (stv x) 29, gateA gb G, rgA rb G] → Calls Try.prog 16 #[pt rb, iv x.pl] W fun e W' => e = .returned (.bool (look G x.pl).isSome) ∧ Sep w W' [boxA ob (stv x) 29, gateA gb G, rgA rb G]) := ⟨fun W q => (rwaits_c w W _ rb G x.pl (by have := HGL.out; omega) (fr1 [_, _] q)).mono fun e W' z => ⟨z.1, q.grown z.2⟩⟩
          generalize (look G x.pl).isSome = lk at HW1 HW2
          have HX : Keep (G.length ≤ i + 1) := ⟨by have := hL.out; omega⟩
          clear e1 n1 e2
          go_wp2_with fail
          refine wp_region_held_drew (S := fun w' => Sep w w' [boxA ob (stv x) 29, gateA gb G, rgA rb G]) (by kernel_rfl) (HS2.out.grown (gr_drew _ _)) (fun hHeld => ?_)
          clear HS2 d0 d1 d2 d3 d4 d5
          refine wpAnyH_take (i := 0) (oi := _) (v := ?_) rfl (by kernel_rfl) (by kernel_rfl) (by kernel_rfl) (fun _ _ _ h => h) (Or.inl ⟨by rfl, ?_⟩) (by assumption) ?_
          rotate_left
          · (intro w hSw; go_simp; first | done | (with_reducible rfl))
          simp only [Act.put, List.getElem_toArray, List.getElem_cons_zero, List.setIfInBounds_toArray, List.set_cons_zero, List.set_cons_succ]
          refine wpAnyH_take (i := 1) (oi := _) (v := ?_) rfl (by kernel_rfl) (by kernel_rfl) (by kernel_rfl) (fun _ _ _ h => h) (Or.inl ⟨by rfl, ?_⟩) (by assumption) ?_
          rotate_left
          · (intro w hSw; go_simp; first | done | (with_reducible rfl))
          simp only [Act.put, List.getElem_toArray, List.getElem_cons_succ, List.getElem_cons_zero, List.setIfInBounds_toArray, List.set_cons_zero, List.set_cons_succ]
          refine wpAnyH_take (i := 2) (oi := _) (v := ?_) rfl (by kernel_rfl) (by kernel_rfl) (by kernel_rfl) (fun _ _ _ h => h) (Or.inl ⟨by rfl, ?_⟩) (by assumption) ?_
          rotate_left
          · (intro w hSw; have q1 := (hSw.boxGet k0m).cellv 1 _ rfl; go_simp; first | done | (with_reducible rfl))
          simp only [Act.put, List.getElem_toArray, List.getElem_cons_succ, List.getElem_cons_zero, List.setIfInBounds_toArray, List.set_cons_zero, List.set_cons_succ]
          refine wpAnyH_take (i := 4) (oi := _) (v := ?_) rfl (by kernel_rfl) (by kernel_rfl) (by kernel_rfl) (fun _ _ _ h => h) (Or.inl ⟨by rfl, ?_⟩) (by assumption) ?_
          rotate_left
          · (intro w hSw; go_simp; first | done | (with_reducible rfl))
          simp only [Act.put, List.getElem_toArray, List.getElem_cons_succ, List.getElem_cons_zero, List.setIfInBounds_toArray, List.set_cons_zero, List.set_cons_succ]
          refine wpAnyH_take (i := 5) (oi := _) (v := ?_) rfl (by kernel_rfl) (by kernel_rfl) (by kernel_rfl) (fun _ _ _ h => h) (Or.inl ⟨by rfl, ?_⟩) (by assumption) ?_
          rotate_left
          · (intro w hSw; go_simp; first | done | (with_reducible rfl))
          simp only [Act.put, List.getElem_toArray, List.getElem_cons_succ, List.getElem_cons_zero, List.setIfInBounds_toArray, List.set_cons_zero, List.set_cons_succ]
          refine wpAnyH_take (i := 6) (oi := _) (v := ?_) rfl (by kernel_rfl) (by kernel_rfl) (by kernel_rfl) (fun _ _ _ h => h) (Or.inl ⟨by rfl, ?_⟩) (by assumption) ?_
          rotate_left
          · (intro w hSw; have q1 := (hSw.boxGet k0m).cellv 1 _ rfl; go_simp; first | done | (with_reducible rfl))
          simp only [Act.put, List.getElem_toArray, List.getElem_cons_succ, List.getElem_cons_zero, List.setIfInBounds_toArray, List.set_cons_zero, List.set_cons_succ]
          refine wpAnyH_ready (rs := [3]) (by kernel_rfl) (by simp) ?_
          refine AllReadyH.cons (o := _) rfl (fun K hK => ?_) AllReadyH.nil
          go_simp
          refine (HW1.out _ hHeld).mono ?_
          rintro e wA ⟨rfl, SA⟩
          refine hK.out _ _ SA (fun hHeld => ?_)
          clear hK K
          refine wpAnyH_ready (rs := [7]) (by kernel_rfl) (by simp) ?_
          refine AllReadyH.cons (o := _) rfl (fun K hK => ?_) AllReadyH.nil
          go_simp
          refine (HW2.out _ hHeld).mono ?_
          rintro e wA ⟨rfl, SA⟩
          refine hK.out _ _ SA (fun hHeld => ?_)
          clear hK K
          refine wpAnyH_take (i := 8) (oi := _) (v := .bool false) rfl (by kernel_rfl) (by kernel_rfl) (by kernel_rfl) (fun _ _ _ h => h) (Or.inl ⟨by rfl, ?_⟩) (by assumption) ?_
          · (intro w hSw; go_simp; first | done | (simp; done) | trace_state)
          simp only [Act.put, List.getElem_toArray, List.getElem_cons_succ, List.getElem_cons_zero, List.setIfInBounds_toArray, List.set_cons_zero, List.set_cons_succ]
          refine wpAnyH_done (by kernel_rfl) ?_ _

          have HS5 := Keep.mk hHeld
          clear hHeld HW1 HW2
          have HL1 : Keep (∀ W, Sep w W [boxA ob (stv x) 29, gateA gb G, rgA rb G] → Calls Try.prog 19 #[iv x.pl, .agg #[iv x.c.th, iv x.c.tu, .bool x.c.fi, .bool x.c.bo]] W fun e W' => e = .returned (.agg #[iv y.pl, iv y.th, iv y.tu, .bool y.fi, .bool y.bo]) ∧ Sep w W' [boxA ob (stv x) 29, gateA gb G, rgA rb G]) := ⟨fun W q => (HLG.out W).mono fun e W' z => ⟨z.1, q.grown z.2⟩⟩
          have HL2 : Keep (∀ W, Sep w W [boxA ob (stv x) 29, gateA gb G, rgA rb G] → Calls Try.prog 20 #[iv x.pl, .agg #[iv x.c.th, iv x.c.tu, .bool x.c.fi, .bool x.c.bo]] W fun e W' => e = .returned (.agg #[iv y.pl, iv y.th, iv y.tu, .bool y.fi, .bool y.bo]) ∧ Sep w W' [boxA ob (stv x) 29, gateA gb G, rgA rb G]) := ⟨fun W q => (HLR.out W).mono fun e W' z => ⟨z.1, q.grown z.2⟩⟩
          clear HLG HLR
          go_wp2_with fail
          refine wp_region_held_drew (S := fun w' => Sep w w' [boxA ob (stv x) 29, gateA gb G, rgA rb G]) (by kernel_rfl) (HS5.out.grown (gr_drew _ _)) (fun hHeld => ?_)
          clear HS5
          refine wpAnyH_take (i := 0) (oi := _) (v := ?_) rfl (by kernel_rfl) (by kernel_rfl) (by kernel_rfl) (fun _ _ _ h => h) (Or.inl ⟨by rfl, ?_⟩) (by assumption) ?_
          rotate_left
          · (intro w hSw; go_simp; first | done | (with_reducible rfl))
          simp only [Act.put, List.getElem_toArray, List.getElem_cons_zero, List.setIfInBounds_toArray, List.set_cons_zero, List.set_cons_succ]
          refine wpAnyH_take (i := 1) (oi := _) (v := ?_) rfl (by kernel_rfl) (by kernel_rfl) (by kernel_rfl) (fun _ _ _ h => h) (Or.inl ⟨by rfl, ?_⟩) (by assumption) ?_
          rotate_left
          · (intro w hSw; have q1 := (hSw.boxGet k0m).cellv 1 _ rfl; go_simp; first | done | (with_reducible rfl))
          simp only [Act.put, List.getElem_toArray, List.getElem_cons_succ, List.getElem_cons_zero, List.setIfInBounds_toArray, List.set_cons_zero, List.set_cons_succ]
          refine wpAnyH_take (i := 2) (oi := _) (v := ?_) rfl (by kernel_rfl) (by kernel_rfl) (by kernel_rfl) (fun _ _ _ h => h) (Or.inl ⟨by rfl, ?_⟩) (by assumption) ?_
          rotate_left
          · (intro w hSw; go_simp; first | done | (with_reducible rfl))
          simp only [Act.put, List.getElem_toArray, List.getElem_cons_succ, List.getElem_cons_zero, List.setIfInBounds_toArray, List.set_cons_zero, List.set_cons_succ]
          refine wpAnyH_take (i := 3) (oi := _) (v := ?_) rfl (by kernel_rfl) (by kernel_rfl) (by kernel_rfl) (fun _ _ _ h => h) (Or.inl ⟨by rfl, ?_⟩) (by assumption) ?_
          rotate_left
          · (intro w hSw; have q2 := (hSw.boxGet k0m).cellv 2 _ rfl; have q3 := (hSw.boxGet k0m).cellv 3 _ rfl; have q4 := (hSw.boxGet k0m).cellv 4 _ rfl; have q5 := (hSw.boxGet k0m).cellv 5 _ rfl; go_simp; first | done | (with_reducible rfl))
          simp only [Act.put, List.getElem_toArray, List.getElem_cons_succ, List.getElem_cons_zero, List.setIfInBounds_toArray, List.set_cons_zero, List.set_cons_succ]
          refine wpAnyH_take (i := 5) (oi := _) (v := ?_) rfl (by kernel_rfl) (by kernel_rfl) (by kernel_rfl) (fun _ _ _ h => h) (Or.inl ⟨by rfl, ?_⟩) (by assumption) ?_
          rotate_left
          · (intro w hSw; go_simp; first | done | (with_reducible rfl))
          simp only [Act.put, List.getElem_toArray, List.getElem_cons_succ, List.getElem_cons_zero, List.setIfInBounds_toArray, List.set_cons_zero, List.set_cons_succ]
          refine wpAnyH_take (i := 6) (oi := _) (v := ?_) rfl (by kernel_rfl) (by kernel_rfl) (by kernel_rfl) (fun _ _ _ h => h) (Or.inl ⟨by rfl, ?_⟩) (by assumption) ?_
          rotate_left
          · (intro w hSw; have q1 := (hSw.boxGet k0m).cellv 1 _ rfl; go_simp; first | done | (with_reducible rfl))
          simp only [Act.put, List.getElem_toArray, List.getElem_cons_succ, List.getElem_cons_zero, List.setIfInBounds_toArray, List.set_cons_zero, List.set_cons_succ]
          refine wpAnyH_take (i := 7) (oi := _) (v := ?_) rfl (by kernel_rfl) (by kernel_rfl) (by kernel_rfl) (fun _ _ _ h => h) (Or.inl ⟨by rfl, ?_⟩) (by assumption) ?_
          rotate_left
          · (intro w hSw; go_simp; first | done | (with_reducible rfl))
          simp only [Act.put, List.getElem_toArray, List.getElem_cons_succ, List.getElem_cons_zero, List.setIfInBounds_toArray, List.set_cons_zero, List.set_cons_succ]
          refine wpAnyH_take (i := 8) (oi := _) (v := ?_) rfl (by kernel_rfl) (by kernel_rfl) (by kernel_rfl) (fun _ _ _ h => h) (Or.inl ⟨by rfl, ?_⟩) (by assumption) ?_
          rotate_left
          · (intro w hSw; have q2 := (hSw.boxGet k0m).cellv 2 _ rfl; have q3 := (hSw.boxGet k0m).cellv 3 _ rfl; have q4 := (hSw.boxGet k0m).cellv 4 _ rfl; have q5 := (hSw.boxGet k0m).cellv 5 _ rfl; go_simp; first | done | (with_reducible rfl))
          simp only [Act.put, List.getElem_toArray, List.getElem_cons_succ, List.getElem_cons_zero, List.setIfInBounds_toArray, List.set_cons_zero, List.set_cons_succ]
          refine wpAnyH_ready (rs := [4]) (by kernel_rfl) (by simp) ?_
          refine AllReadyH.cons (o := _) rfl (fun K hK => ?_) AllReadyH.nil
          go_simp
          refine (HL1.out _ hHeld).mono ?_
          rintro e wA ⟨rfl, SA⟩
          refine hK.out _ _ SA (fun hHeld => ?_)
          clear hK K
          refine wpAnyH_ready (rs := [9]) (by kernel_rfl) (by simp) ?_
          refine AllReadyH.cons (o := _) rfl (fun K hK => ?_) AllReadyH.nil
          go_simp
          refine (HL2.out _ hHeld).mono ?_
          rintro e wA ⟨rfl, SA⟩
          refine hK.out _ _ SA (fun hHeld => ?_)
          clear hK K
          refine wpAnyH_take (i := 10) (oi := _) (v := .bool false) rfl (by kernel_rfl) (by kernel_rfl) (by kernel_rfl) (fun _ _ _ h => h) (Or.inl ⟨by rfl, ?_⟩) (by assumption) ?_
          · (intro w hSw; have hE := eq36 y w; go_simp; first | done | (simp; done) | trace_state)
          simp only [Act.put, List.getElem_toArray, List.getElem_cons_succ, List.getElem_cons_zero, List.setIfInBounds_toArray, List.set_cons_zero, List.set_cons_succ]
          refine wpAnyH_done (by kernel_rfl) ?_ _
          have HZ : Keep (Sep w _ [gateA gb G, rgA rb G]) := ⟨hHeld.tail⟩
          clear hHeld HL1 HL2
          go_wp2_with fail
          go_roundw
          case rel => exact ⟨i + 1, _, HI.out, rfl, HZ, HX⟩
          case measure => simp [intOf]; have := HI.out; omega
        · have n2 : (x.op == 2) = false := by simp [e2]
          by_cases e3 : x.op = 3
          · rw [e3] at d0
            have HC := Keep.mk (rdrop_c w w2 [boxA ob (stv x) 29, gateA gb G] rb G x.pl (by have := HGL.out; omega) (fr1 [_, _] HS2.out))
            have HX : Keep ((rmk G x.pl).length ≤ i + 1) := ⟨by have := hL.out; have := len_rmk G x.pl; omega⟩
            clear e1 n1 e2 n2 e3 HS2
            go_wp2_with fail
            refine HC.out.mono ?_
            rintro e w4 ⟨rfl, S4⟩
            have HS4 : Keep (Sep w w4 [boxA ob (stv x) 29, gateA gb G, rgA rb (rmk G x.pl)]) := ⟨bk1 [_, _] S4⟩
            clear HC S4 d0 d1 d2 d3 d4 d5
            have d1 : w4.cell? ⟨ob, 1, none⟩ = some (iv x.pl) := (HS4.out.boxGet k0m).cellv 1 _ rfl
            have HC2 := Keep.mk (drop_c w w4 [boxA ob (stv x) 29, rgA rb (rmk G x.pl)] gb G x.pl HXP.out HS4.out.swap)
            generalize rmk G x.pl = G2 at *
            generalize (look G x.pl).isSome = ee at HC2 ⊢
            clear HS4
            have hbb : (ee != ee) = false := by simp
            go_wp2_with fail
            refine HC2.out.mono ?_
            rintro e w5 ⟨rfl, S5⟩
            have HS5 : Keep (Sep w w5 [boxA ob (stv x) 29, gateA gb G2, rgA rb G2]) := ⟨S5.swap⟩
            clear HC2 S5 d1
            have HL1 : Keep (∀ W, Sep w W [boxA ob (stv x) 29, gateA gb G2, rgA rb G2] → Calls Try.prog 19 #[iv x.pl, .agg #[iv x.c.th, iv x.c.tu, .bool x.c.fi, .bool x.c.bo]] W fun e W' => e = .returned (.agg #[iv y.pl, iv y.th, iv y.tu, .bool y.fi, .bool y.bo]) ∧ Sep w W' [boxA ob (stv x) 29, gateA gb G2, rgA rb G2]) := ⟨fun W q => (HLG.out W).mono fun e W' z => ⟨z.1, q.grown z.2⟩⟩
            have HL2 : Keep (∀ W, Sep w W [boxA ob (stv x) 29, gateA gb G2, rgA rb G2] → Calls Try.prog 20 #[iv x.pl, .agg #[iv x.c.th, iv x.c.tu, .bool x.c.fi, .bool x.c.bo]] W fun e W' => e = .returned (.agg #[iv y.pl, iv y.th, iv y.tu, .bool y.fi, .bool y.bo]) ∧ Sep w W' [boxA ob (stv x) 29, gateA gb G2, rgA rb G2]) := ⟨fun W q => (HLR.out W).mono fun e W' z => ⟨z.1, q.grown z.2⟩⟩
            clear HLG HLR
            go_wp2_with fail
            refine wp_region_held_drew (S := fun w' => Sep w w' [boxA ob (stv x) 29, gateA gb G2, rgA rb G2]) (by kernel_rfl) (HS5.out.grown (gr_drew _ _)) (fun hHeld => ?_)
            clear HS5
            refine wpAnyH_take (i := 0) (oi := _) (v := ?_) rfl (by kernel_rfl) (by kernel_rfl) (by kernel_rfl) (fun _ _ _ h => h) (Or.inl ⟨by rfl, ?_⟩) (by assumption) ?_
            rotate_left
            · (intro w hSw; go_simp; first | done | (with_reducible rfl))
            simp only [Act.put, List.getElem_toArray, List.getElem_cons_zero, List.setIfInBounds_toArray, List.set_cons_zero, List.set_cons_succ]
            refine wpAnyH_take (i := 1) (oi := _) (v := ?_) rfl (by kernel_rfl) (by kernel_rfl) (by kernel_rfl) (fun _ _ _ h => h) (Or.inl ⟨by rfl, ?_⟩) (by assumption) ?_
            rotate_left
            · (intro w hSw; have q1 := (hSw.boxGet k0m).cellv 1 _ rfl; go_simp; first | done | (with_reducible rfl))
            simp only [Act.put, List.getElem_toArray, List.getElem_cons_succ, List.getElem_cons_zero, List.setIfInBounds_toArray, List.set_cons_zero, List.set_cons_succ]
            refine wpAnyH_take (i := 2) (oi := _) (v := ?_) rfl (by kernel_rfl) (by kernel_rfl) (by kernel_rfl) (fun _ _ _ h => h) (Or.inl ⟨by rfl, ?_⟩) (by assumption) ?_
            rotate_left
            · (intro w hSw; go_simp; first | done | (with_reducible rfl))
            simp only [Act.put, List.getElem_toArray, List.getElem_cons_succ, List.getElem_cons_zero, List.setIfInBounds_toArray, List.set_cons_zero, List.set_cons_succ]
            refine wpAnyH_take (i := 3) (oi := _) (v := ?_) rfl (by kernel_rfl) (by kernel_rfl) (by kernel_rfl) (fun _ _ _ h => h) (Or.inl ⟨by rfl, ?_⟩) (by assumption) ?_
            rotate_left
            · (intro w hSw; have q2 := (hSw.boxGet k0m).cellv 2 _ rfl; have q3 := (hSw.boxGet k0m).cellv 3 _ rfl; have q4 := (hSw.boxGet k0m).cellv 4 _ rfl; have q5 := (hSw.boxGet k0m).cellv 5 _ rfl; go_simp; first | done | (with_reducible rfl))
            simp only [Act.put, List.getElem_toArray, List.getElem_cons_succ, List.getElem_cons_zero, List.setIfInBounds_toArray, List.set_cons_zero, List.set_cons_succ]
            refine wpAnyH_take (i := 5) (oi := _) (v := ?_) rfl (by kernel_rfl) (by kernel_rfl) (by kernel_rfl) (fun _ _ _ h => h) (Or.inl ⟨by rfl, ?_⟩) (by assumption) ?_
            rotate_left
            · (intro w hSw; go_simp; first | done | (with_reducible rfl))
            simp only [Act.put, List.getElem_toArray, List.getElem_cons_succ, List.getElem_cons_zero, List.setIfInBounds_toArray, List.set_cons_zero, List.set_cons_succ]
            refine wpAnyH_take (i := 6) (oi := _) (v := ?_) rfl (by kernel_rfl) (by kernel_rfl) (by kernel_rfl) (fun _ _ _ h => h) (Or.inl ⟨by rfl, ?_⟩) (by assumption) ?_
            rotate_left
            · (intro w hSw; have q1 := (hSw.boxGet k0m).cellv 1 _ rfl; go_simp; first | done | (with_reducible rfl))
            simp only [Act.put, List.getElem_toArray, List.getElem_cons_succ, List.getElem_cons_zero, List.setIfInBounds_toArray, List.set_cons_zero, List.set_cons_succ]
            refine wpAnyH_take (i := 7) (oi := _) (v := ?_) rfl (by kernel_rfl) (by kernel_rfl) (by kernel_rfl) (fun _ _ _ h => h) (Or.inl ⟨by rfl, ?_⟩) (by assumption) ?_
            rotate_left
            · (intro w hSw; go_simp; first | done | (with_reducible rfl))
            simp only [Act.put, List.getElem_toArray, List.getElem_cons_succ, List.getElem_cons_zero, List.setIfInBounds_toArray, List.set_cons_zero, List.set_cons_succ]
            refine wpAnyH_take (i := 8) (oi := _) (v := ?_) rfl (by kernel_rfl) (by kernel_rfl) (by kernel_rfl) (fun _ _ _ h => h) (Or.inl ⟨by rfl, ?_⟩) (by assumption) ?_
            rotate_left
            · (intro w hSw; have q2 := (hSw.boxGet k0m).cellv 2 _ rfl; have q3 := (hSw.boxGet k0m).cellv 3 _ rfl; have q4 := (hSw.boxGet k0m).cellv 4 _ rfl; have q5 := (hSw.boxGet k0m).cellv 5 _ rfl; go_simp; first | done | (with_reducible rfl))
            simp only [Act.put, List.getElem_toArray, List.getElem_cons_succ, List.getElem_cons_zero, List.setIfInBounds_toArray, List.set_cons_zero, List.set_cons_succ]
            refine wpAnyH_ready (rs := [4]) (by kernel_rfl) (by simp) ?_
            refine AllReadyH.cons (o := _) rfl (fun K hK => ?_) AllReadyH.nil
            go_simp
            refine (HL1.out _ hHeld).mono ?_
            rintro e wA ⟨rfl, SA⟩
            refine hK.out _ _ SA (fun hHeld => ?_)
            clear hK K
            refine wpAnyH_ready (rs := [9]) (by kernel_rfl) (by simp) ?_
            refine AllReadyH.cons (o := _) rfl (fun K hK => ?_) AllReadyH.nil
            go_simp
            refine (HL2.out _ hHeld).mono ?_
            rintro e wA ⟨rfl, SA⟩
            refine hK.out _ _ SA (fun hHeld => ?_)
            clear hK K
            refine wpAnyH_take (i := 10) (oi := _) (v := .bool false) rfl (by kernel_rfl) (by kernel_rfl) (by kernel_rfl) (fun _ _ _ h => h) (Or.inl ⟨by rfl, ?_⟩) (by assumption) ?_
            · (intro w hSw; have hE := eq36 y w; go_simp; first | done | (simp; done) | trace_state)
            simp only [Act.put, List.getElem_toArray, List.getElem_cons_succ, List.getElem_cons_zero, List.setIfInBounds_toArray, List.set_cons_zero, List.set_cons_succ]
            refine wpAnyH_done (by kernel_rfl) ?_ _
            have HZ : Keep (Sep w _ [gateA gb G2, rgA rb G2]) := ⟨hHeld.tail⟩
            clear hHeld HL1 HL2
            go_wp2_with fail
            go_roundw
            case rel => exact ⟨i + 1, _, HI.out, rfl, HZ, HX⟩
            case measure => simp [intOf]; have := HI.out; omega
          · have n3 : (x.op == 3) = false := by simp [e3]
            by_cases e4 : x.op = 4
            · rw [e4] at d0
              have HC := Keep.mk (rtake_c w w2 [boxA ob (stv x) 29, gateA gb G] rb G (fr1 [_, _] HS2.out))
              have HX : Keep (([] : List Itn).length ≤ i + 1) := ⟨by simp⟩
              clear e1 n1 e2 n2 e3 n3 e4 HS2
              go_wp2_with fail
              refine HC.out.mono ?_
              rintro e w4 ⟨v4, rfl, S4⟩
              have HT := Keep.mk (take_c sort_c w w4 _ gb G (by have := HGL.out; omega) (fr1 [_, _, _] S4))
              clear HC S4 d0 d1 d2 d3 d4 d5
              go_wp2_with fail
              refine HT.out.mono ?_
              rintro e w5 ⟨g5, c5, rfl, S5⟩
              have HSM := Keep.mk (same_c w5 _ _ G (S5.rdi (M := G) k0m rfl) (S5.rdi (M := G) k2m rfl) (by have := HGL.out; omega))
              have S6 : Sep w w5 (boxA ob (stv x) 29 :: gateA gb [] :: rgA rb [] :: []) := by
                have q := (fr1 [_, _] S5).tail
                have q2 : Sep w w5 (rowV 36 5 (sl g5 G.length c5) G.length (its G) :: gateA gb [] :: rgA rb [] :: [boxA ob (stv x) 29]) := q
                exact fr1 [_, _] q2.tail
              have HS6 := Keep.mk S6
              clear HT S5 S6
              go_wp2_with fail
              refine HSM.out.mono ?_
              rintro e w7 ⟨rfl, g7⟩
              have HS5 := Keep.mk (HS6.out.grown g7)
              clear HSM HS6 g7
              have HL1 : Keep (∀ W, Sep w W [boxA ob (stv x) 29, gateA gb [], rgA rb []] → Calls Try.prog 19 #[iv x.pl, .agg #[iv x.c.th, iv x.c.tu, .bool x.c.fi, .bool x.c.bo]] W fun e W' => e = .returned (.agg #[iv y.pl, iv y.th, iv y.tu, .bool y.fi, .bool y.bo]) ∧ Sep w W' [boxA ob (stv x) 29, gateA gb [], rgA rb []]) := ⟨fun W q => (HLG.out W).mono fun e W' z => ⟨z.1, q.grown z.2⟩⟩
              have HL2 : Keep (∀ W, Sep w W [boxA ob (stv x) 29, gateA gb [], rgA rb []] → Calls Try.prog 20 #[iv x.pl, .agg #[iv x.c.th, iv x.c.tu, .bool x.c.fi, .bool x.c.bo]] W fun e W' => e = .returned (.agg #[iv y.pl, iv y.th, iv y.tu, .bool y.fi, .bool y.bo]) ∧ Sep w W' [boxA ob (stv x) 29, gateA gb [], rgA rb []]) := ⟨fun W q => (HLR.out W).mono fun e W' z => ⟨z.1, q.grown z.2⟩⟩
              clear HLG HLR
              go_wp2_with fail
              refine wp_region_held_drew (S := fun w' => Sep w w' [boxA ob (stv x) 29, gateA gb [], rgA rb []]) (by kernel_rfl) (HS5.out.grown (gr_drew _ _)) (fun hHeld => ?_)
              clear HS5
              refine wpAnyH_take (i := 0) (oi := _) (v := ?_) rfl (by kernel_rfl) (by kernel_rfl) (by kernel_rfl) (fun _ _ _ h => h) (Or.inl ⟨by rfl, ?_⟩) (by assumption) ?_
              rotate_left
              · (intro w hSw; go_simp; first | done | (with_reducible rfl))
              simp only [Act.put, List.getElem_toArray, List.getElem_cons_zero, List.setIfInBounds_toArray, List.set_cons_zero, List.set_cons_succ]
              refine wpAnyH_take (i := 1) (oi := _) (v := ?_) rfl (by kernel_rfl) (by kernel_rfl) (by kernel_rfl) (fun _ _ _ h => h) (Or.inl ⟨by rfl, ?_⟩) (by assumption) ?_
              rotate_left
              · (intro w hSw; have q1 := (hSw.boxGet k0m).cellv 1 _ rfl; go_simp; first | done | (with_reducible rfl))
              simp only [Act.put, List.getElem_toArray, List.getElem_cons_succ, List.getElem_cons_zero, List.setIfInBounds_toArray, List.set_cons_zero, List.set_cons_succ]
              refine wpAnyH_take (i := 2) (oi := _) (v := ?_) rfl (by kernel_rfl) (by kernel_rfl) (by kernel_rfl) (fun _ _ _ h => h) (Or.inl ⟨by rfl, ?_⟩) (by assumption) ?_
              rotate_left
              · (intro w hSw; go_simp; first | done | (with_reducible rfl))
              simp only [Act.put, List.getElem_toArray, List.getElem_cons_succ, List.getElem_cons_zero, List.setIfInBounds_toArray, List.set_cons_zero, List.set_cons_succ]
              refine wpAnyH_take (i := 3) (oi := _) (v := ?_) rfl (by kernel_rfl) (by kernel_rfl) (by kernel_rfl) (fun _ _ _ h => h) (Or.inl ⟨by rfl, ?_⟩) (by assumption) ?_
              rotate_left
              · (intro w hSw; have q2 := (hSw.boxGet k0m).cellv 2 _ rfl; have q3 := (hSw.boxGet k0m).cellv 3 _ rfl; have q4 := (hSw.boxGet k0m).cellv 4 _ rfl; have q5 := (hSw.boxGet k0m).cellv 5 _ rfl; go_simp; first | done | (with_reducible rfl))
              simp only [Act.put, List.getElem_toArray, List.getElem_cons_succ, List.getElem_cons_zero, List.setIfInBounds_toArray, List.set_cons_zero, List.set_cons_succ]
              refine wpAnyH_take (i := 5) (oi := _) (v := ?_) rfl (by kernel_rfl) (by kernel_rfl) (by kernel_rfl) (fun _ _ _ h => h) (Or.inl ⟨by rfl, ?_⟩) (by assumption) ?_
              rotate_left
              · (intro w hSw; go_simp; first | done | (with_reducible rfl))
              simp only [Act.put, List.getElem_toArray, List.getElem_cons_succ, List.getElem_cons_zero, List.setIfInBounds_toArray, List.set_cons_zero, List.set_cons_succ]
              refine wpAnyH_take (i := 6) (oi := _) (v := ?_) rfl (by kernel_rfl) (by kernel_rfl) (by kernel_rfl) (fun _ _ _ h => h) (Or.inl ⟨by rfl, ?_⟩) (by assumption) ?_
              rotate_left
              · (intro w hSw; have q1 := (hSw.boxGet k0m).cellv 1 _ rfl; go_simp; first | done | (with_reducible rfl))
              simp only [Act.put, List.getElem_toArray, List.getElem_cons_succ, List.getElem_cons_zero, List.setIfInBounds_toArray, List.set_cons_zero, List.set_cons_succ]
              refine wpAnyH_take (i := 7) (oi := _) (v := ?_) rfl (by kernel_rfl) (by kernel_rfl) (by kernel_rfl) (fun _ _ _ h => h) (Or.inl ⟨by rfl, ?_⟩) (by assumption) ?_
              rotate_left
              · (intro w hSw; go_simp; first | done | (with_reducible rfl))
              simp only [Act.put, List.getElem_toArray, List.getElem_cons_succ, List.getElem_cons_zero, List.setIfInBounds_toArray, List.set_cons_zero, List.set_cons_succ]
              refine wpAnyH_take (i := 8) (oi := _) (v := ?_) rfl (by kernel_rfl) (by kernel_rfl) (by kernel_rfl) (fun _ _ _ h => h) (Or.inl ⟨by rfl, ?_⟩) (by assumption) ?_
              rotate_left
              · (intro w hSw; have q2 := (hSw.boxGet k0m).cellv 2 _ rfl; have q3 := (hSw.boxGet k0m).cellv 3 _ rfl; have q4 := (hSw.boxGet k0m).cellv 4 _ rfl; have q5 := (hSw.boxGet k0m).cellv 5 _ rfl; go_simp; first | done | (with_reducible rfl))
              simp only [Act.put, List.getElem_toArray, List.getElem_cons_succ, List.getElem_cons_zero, List.setIfInBounds_toArray, List.set_cons_zero, List.set_cons_succ]
              refine wpAnyH_ready (rs := [4]) (by kernel_rfl) (by simp) ?_
              refine AllReadyH.cons (o := _) rfl (fun K hK => ?_) AllReadyH.nil
              go_simp
              refine (HL1.out _ hHeld).mono ?_
              rintro e wA ⟨rfl, SA⟩
              refine hK.out _ _ SA (fun hHeld => ?_)
              clear hK K
              refine wpAnyH_ready (rs := [9]) (by kernel_rfl) (by simp) ?_
              refine AllReadyH.cons (o := _) rfl (fun K hK => ?_) AllReadyH.nil
              go_simp
              refine (HL2.out _ hHeld).mono ?_
              rintro e wA ⟨rfl, SA⟩
              refine hK.out _ _ SA (fun hHeld => ?_)
              clear hK K
              refine wpAnyH_take (i := 10) (oi := _) (v := .bool false) rfl (by kernel_rfl) (by kernel_rfl) (by kernel_rfl) (fun _ _ _ h => h) (Or.inl ⟨by rfl, ?_⟩) (by assumption) ?_
              · (intro w hSw; have hE := eq36 y w; go_simp; first | done | (simp; done) | trace_state)
              simp only [Act.put, List.getElem_toArray, List.getElem_cons_succ, List.getElem_cons_zero, List.setIfInBounds_toArray, List.set_cons_zero, List.set_cons_succ]
              refine wpAnyH_done (by kernel_rfl) ?_ _
              have HZ : Keep (Sep w _ [gateA gb [], rgA rb []]) := ⟨hHeld.tail⟩
              clear hHeld HL1 HL2
              go_wp2_with fail
              go_roundw
              case rel => exact ⟨i + 1, _, HI.out, rfl, HZ, HX⟩
              case measure => simp [intOf]; have := HI.out; omega
            · have n4 : (x.op == 4) = false := by simp [e4]
              have HX : Keep (G.length ≤ i + 1) := ⟨by have := hL.out; omega⟩
              clear e1 e2 e3 e4
              have HL1 : Keep (∀ W, Sep w W [boxA ob (stv x) 29, gateA gb G, rgA rb G] → Calls Try.prog 19 #[iv x.pl, .agg #[iv x.c.th, iv x.c.tu, .bool x.c.fi, .bool x.c.bo]] W fun e W' => e = .returned (.agg #[iv y.pl, iv y.th, iv y.tu, .bool y.fi, .bool y.bo]) ∧ Sep w W' [boxA ob (stv x) 29, gateA gb G, rgA rb G]) := ⟨fun W q => (HLG.out W).mono fun e W' z => ⟨z.1, q.grown z.2⟩⟩
              have HL2 : Keep (∀ W, Sep w W [boxA ob (stv x) 29, gateA gb G, rgA rb G] → Calls Try.prog 20 #[iv x.pl, .agg #[iv x.c.th, iv x.c.tu, .bool x.c.fi, .bool x.c.bo]] W fun e W' => e = .returned (.agg #[iv y.pl, iv y.th, iv y.tu, .bool y.fi, .bool y.bo]) ∧ Sep w W' [boxA ob (stv x) 29, gateA gb G, rgA rb G]) := ⟨fun W q => (HLR.out W).mono fun e W' z => ⟨z.1, q.grown z.2⟩⟩
              clear HLG HLR
              go_wp2_with fail
              refine wp_region_held_drew (S := fun w' => Sep w w' [boxA ob (stv x) 29, gateA gb G, rgA rb G]) (by kernel_rfl) (HS2.out.grown (gr_drew _ _)) (fun hHeld => ?_)
              clear HS2
              refine wpAnyH_take (i := 0) (oi := _) (v := ?_) rfl (by kernel_rfl) (by kernel_rfl) (by kernel_rfl) (fun _ _ _ h => h) (Or.inl ⟨by rfl, ?_⟩) (by assumption) ?_
              rotate_left
              · (intro w hSw; go_simp; first | done | (with_reducible rfl))
              simp only [Act.put, List.getElem_toArray, List.getElem_cons_zero, List.setIfInBounds_toArray, List.set_cons_zero, List.set_cons_succ]
              refine wpAnyH_take (i := 1) (oi := _) (v := ?_) rfl (by kernel_rfl) (by kernel_rfl) (by kernel_rfl) (fun _ _ _ h => h) (Or.inl ⟨by rfl, ?_⟩) (by assumption) ?_
              rotate_left
              · (intro w hSw; have q1 := (hSw.boxGet k0m).cellv 1 _ rfl; go_simp; first | done | (with_reducible rfl))
              simp only [Act.put, List.getElem_toArray, List.getElem_cons_succ, List.getElem_cons_zero, List.setIfInBounds_toArray, List.set_cons_zero, List.set_cons_succ]
              refine wpAnyH_take (i := 2) (oi := _) (v := ?_) rfl (by kernel_rfl) (by kernel_rfl) (by kernel_rfl) (fun _ _ _ h => h) (Or.inl ⟨by rfl, ?_⟩) (by assumption) ?_
              rotate_left
              · (intro w hSw; go_simp; first | done | (with_reducible rfl))
              simp only [Act.put, List.getElem_toArray, List.getElem_cons_succ, List.getElem_cons_zero, List.setIfInBounds_toArray, List.set_cons_zero, List.set_cons_succ]
              refine wpAnyH_take (i := 3) (oi := _) (v := ?_) rfl (by kernel_rfl) (by kernel_rfl) (by kernel_rfl) (fun _ _ _ h => h) (Or.inl ⟨by rfl, ?_⟩) (by assumption) ?_
              rotate_left
              · (intro w hSw; have q2 := (hSw.boxGet k0m).cellv 2 _ rfl; have q3 := (hSw.boxGet k0m).cellv 3 _ rfl; have q4 := (hSw.boxGet k0m).cellv 4 _ rfl; have q5 := (hSw.boxGet k0m).cellv 5 _ rfl; go_simp; first | done | (with_reducible rfl))
              simp only [Act.put, List.getElem_toArray, List.getElem_cons_succ, List.getElem_cons_zero, List.setIfInBounds_toArray, List.set_cons_zero, List.set_cons_succ]
              refine wpAnyH_take (i := 5) (oi := _) (v := ?_) rfl (by kernel_rfl) (by kernel_rfl) (by kernel_rfl) (fun _ _ _ h => h) (Or.inl ⟨by rfl, ?_⟩) (by assumption) ?_
              rotate_left
              · (intro w hSw; go_simp; first | done | (with_reducible rfl))
              simp only [Act.put, List.getElem_toArray, List.getElem_cons_succ, List.getElem_cons_zero, List.setIfInBounds_toArray, List.set_cons_zero, List.set_cons_succ]
              refine wpAnyH_take (i := 6) (oi := _) (v := ?_) rfl (by kernel_rfl) (by kernel_rfl) (by kernel_rfl) (fun _ _ _ h => h) (Or.inl ⟨by rfl, ?_⟩) (by assumption) ?_
              rotate_left
              · (intro w hSw; have q1 := (hSw.boxGet k0m).cellv 1 _ rfl; go_simp; first | done | (with_reducible rfl))
              simp only [Act.put, List.getElem_toArray, List.getElem_cons_succ, List.getElem_cons_zero, List.setIfInBounds_toArray, List.set_cons_zero, List.set_cons_succ]
              refine wpAnyH_take (i := 7) (oi := _) (v := ?_) rfl (by kernel_rfl) (by kernel_rfl) (by kernel_rfl) (fun _ _ _ h => h) (Or.inl ⟨by rfl, ?_⟩) (by assumption) ?_
              rotate_left
              · (intro w hSw; go_simp; first | done | (with_reducible rfl))
              simp only [Act.put, List.getElem_toArray, List.getElem_cons_succ, List.getElem_cons_zero, List.setIfInBounds_toArray, List.set_cons_zero, List.set_cons_succ]
              refine wpAnyH_take (i := 8) (oi := _) (v := ?_) rfl (by kernel_rfl) (by kernel_rfl) (by kernel_rfl) (fun _ _ _ h => h) (Or.inl ⟨by rfl, ?_⟩) (by assumption) ?_
              rotate_left
              · (intro w hSw; have q2 := (hSw.boxGet k0m).cellv 2 _ rfl; have q3 := (hSw.boxGet k0m).cellv 3 _ rfl; have q4 := (hSw.boxGet k0m).cellv 4 _ rfl; have q5 := (hSw.boxGet k0m).cellv 5 _ rfl; go_simp; first | done | (with_reducible rfl))
              simp only [Act.put, List.getElem_toArray, List.getElem_cons_succ, List.getElem_cons_zero, List.setIfInBounds_toArray, List.set_cons_zero, List.set_cons_succ]
              refine wpAnyH_ready (rs := [4]) (by kernel_rfl) (by simp) ?_
              refine AllReadyH.cons (o := _) rfl (fun K hK => ?_) AllReadyH.nil
              go_simp
              refine (HL1.out _ hHeld).mono ?_
              rintro e wA ⟨rfl, SA⟩
              refine hK.out _ _ SA (fun hHeld => ?_)
              clear hK K
              refine wpAnyH_ready (rs := [9]) (by kernel_rfl) (by simp) ?_
              refine AllReadyH.cons (o := _) rfl (fun K hK => ?_) AllReadyH.nil
              go_simp
              refine (HL2.out _ hHeld).mono ?_
              rintro e wA ⟨rfl, SA⟩
              refine hK.out _ _ SA (fun hHeld => ?_)
              clear hK K
              refine wpAnyH_take (i := 10) (oi := _) (v := .bool false) rfl (by kernel_rfl) (by kernel_rfl) (by kernel_rfl) (fun _ _ _ h => h) (Or.inl ⟨by rfl, ?_⟩) (by assumption) ?_
              · (intro w hSw; have hE := eq36 y w; go_simp; first | done | (simp; done) | trace_state)
              simp only [Act.put, List.getElem_toArray, List.getElem_cons_succ, List.getElem_cons_zero, List.setIfInBounds_toArray, List.set_cons_zero, List.set_cons_succ]
              refine wpAnyH_done (by kernel_rfl) ?_ _
              have HZ : Keep (Sep w _ [gateA gb G, rgA rb G]) := ⟨hHeld.tail⟩
              clear hHeld HL1 HL2
              go_wp2_with fail
              go_roundw
              case rel => exact ⟨i + 1, _, HI.out, rfl, HZ, HX⟩
              case measure => simp [intOf]; have := HI.out; omega
    · have hi1 : ¬ (i : Int) < (n : Nat) := by omega
      have HGN : Keep (G.length * 32 ≤ 140737488355328) := ⟨by have := hL.out; have := HNL.out; omega⟩
      have HT := Keep.mk (rtake_c w wr _ rb G hS.out.swap)
      clear hS hlt hi
      go_wp2_with fail
      refine HT.out.mono ?_
      rintro e w4 ⟨v4, rfl, S4⟩
      have HT2 := Keep.mk (take_c sort_c w w4 _ gb G HGN.out (fr1 [_, _] S4))
      clear HT S4
      go_wp2_with fail
      refine HT2.out.mono ?_
      rintro e w5 ⟨g2, cc2, rfl, S5⟩
      have HSM := Keep.mk (same_c w5 _ _ G (S5.rdi (M := G) k0m rfl) (S5.rdi (M := G) k2m rfl) (by have := HGN.out; omega))
      have HS5 := Keep.mk S5
      clear HT2 S5
      go_wp2_with fail
      refine HSM.out.mono ?_
      rintro e w6 ⟨rfl, g6⟩
      have HT3 := Keep.mk (take_c sort_c w w6 _ gb [] (by decide) (fr1 [_] (HS5.out.grown g6)))
      clear HSM HS5 g6
      go_wp2_with fail
      refine HT3.out.mono ?_
      rintro e w7 ⟨g7, c7, rfl, S7⟩
      have HG := Keep.mk S7.g
      clear HT3 S7
      simp only [List.length_nil]
      go_wp2_with fail
      go_ret
      exact ⟨rfl, HG.out⟩
end Go.Proofs.Ytjoodembmjooaaa
