/- car: spawn, fresh, New, Come -/
import Derived.Test.YtobdcngjpgndiabDoorC5
import Derived.Test.YtobdcngjpgndiabDoorBP2
namespace Go.Proofs.YtobdcngjpgndiabDoor.Bo
open Go Go.RowKit

theorem Sep.ovr {w0 W W' : World} {l0 l : List As} (h : Sep w0 W l0) (k : Sep W W' l) : Sep w0 W' (l ++ l0) := by
  obtain ⟨m, e, q, d⟩ := k.ex
  exact h.new k.g ⟨m, e, fun p hp => ⟨(q p hp).1, fun i hi => .inr ((q p hp).2 i hi)⟩, d⟩
theorem tm_em (n m t : Int) (hm : 0 < m) (h : n.tmod m = t) : (t < 0 → n % m = t + m) ∧ (0 ≤ t → n % m = t) ∧ -m < t ∧ t < m := by
  have h1 := Int.tmod_lt_of_pos n hm
  have h2 := Int.lt_tmod_of_pos n hm
  rw [h] at h1 h2
  have e : n % m = t % m := by
    have := Int.tmod_add_mul_tdiv n m
    rw [h] at this
    rw [← this, Int.add_mul_emod_self_left]
  refine ⟨fun q => ?_, fun q => ?_, h2, h1⟩
  · rw [e, ← Int.add_emod_right, Int.emod_eq_of_lt (by omega) (by omega)]
  · rw [e, Int.emod_eq_of_lt q h1]
theorem spn_len {L : Bo} (he : ev L) : (spn L).length ≤ 4096 := by
  have h1 := spA_len L L.length
  have b1 : 3 ≤ wd L ∧ wd L ≤ 64 := he.2.1
  have b2 : 3 ≤ L.length ∧ L.length ≤ 64 := he.1
  have : L.length * wd L ≤ 64 * 64 := Nat.mul_le_mul b2.2 b1.2
  unfold spn
  omega
theorem spw_get (L : Bo) (hs : spn L ≠ []) (n : Int) : (spn L)[(n % ((spn L).length : Int)).toNat]? = some (spw L n) := by
  have h0 : 0 < (spn L).length := List.length_pos_iff.2 hs
  have h1 := Int.emod_lt_of_pos n (show (0 : Int) < ((spn L).length : Int) by omega)
  have h2 := Int.emod_nonneg n (show ((spn L).length : Int) ≠ 0 by omega)
  have h3 : (n % ((spn L).length : Int)).toNat < (spn L).length := by omega
  unfold spw
  rw [List.getD_eq_getElem?_getD, List.getElem?_eq_getElem h3]
  rfl
set_option maxRecDepth 100000 in
set_option maxHeartbeats 4000000 in
theorem spawn_c (w : World) (v : Value) (L : Bo) (h : Bd w v L) (hs : spn L ≠ []) (n : Int) : Calls Tryd.prog 58 #[v, iv n] w fun e w' => e = .returned (vv (spw L n).1 (spw L n).2) ∧ w.grownBy w' none := by
  obtain ⟨du, hdu, hdr⟩ := underT32
  have hget := spw_get L hs n
  have S1 := (Sep.nil w).newBox #[iv 0, iv 0] 23
  obtain ⟨W1, hW1⟩ : ∃ W1, w.alloc (.cells #[iv 0, iv 0] 23) = W1 := ⟨_, rfl⟩
  obtain ⟨rb, hrb⟩ : ∃ rb, w.heap.size = rb := ⟨_, rfl⟩
  rw [hW1, hrb] at S1
  have hT := spawns_c W1 v L (h.kept S1.g)
  have HS1 := Keep.mk S1
  have h0 : 0 < (spn L).length := List.length_pos_iff.2 hs
  have h4 := spn_len h.sh
  obtain ⟨A, hA⟩ : ∃ A, spn L = A := ⟨_, rfl⟩
  rw [hA] at hget hT h0 h4
  obtain ⟨p, hp⟩ : ∃ p, spw L n = p := ⟨_, rfl⟩
  rw [hp] at hget ⊢
  obtain ⟨m, hm⟩ : ∃ m, A.length = m := ⟨_, rfl⟩
  rw [hm] at hget h0 h4
  obtain ⟨t, ht⟩ : ∃ t, n.tmod (m : Int) = t := ⟨_, rfl⟩
  obtain ⟨e1, e2, e3, e4⟩ := tm_em n m t (by omega) ht
  obtain ⟨kk, hkk⟩ : ∃ kk, (n % (m : Int)).toNat = kk := ⟨_, rfl⟩
  rw [hkk] at hget
  have hq := vcs_get hget
  have hem := Int.emod_nonneg n (show (m : Int) ≠ 0 by omega)
  have hlm := Int.emod_lt_of_pos n (show (0 : Int) < (m : Int) by omega)
  have hkm : kk < m := by omega
  have d1 : t < 0 → IntKind.i64.wrap (t + m) = (kk : Int) := fun q => by
    rw [wi _ (by omega) (by omega)]
    have := e1 q
    omega
  have d2 : 0 ≤ t → t = (kk : Int) := fun q => by
    have := e2 q
    omega
  have hne : (m : Int) ≠ 0 := by omega
  have HM := Keep.mk hm
  have HQ := Keep.mk hq
  clear S1 h hs hA hp hget hm hq e1 e2 hkk hem hlm
  go_enter Tryd.func58, Tryd.ntmps58
  go_wp2_with fail
  refine hT.mono ?_
  rintro e w2 ⟨u, rfl, S2'⟩
  have S2 := HS1.out.ovr S2'
  obtain ⟨g, cap, hu, hc⟩ := own_any S2'.rowLo (by rw [HM.out]; exact h0)
  rw [HM.out] at hu
  subst hu
  have q0 : w2.cell? ⟨g, kk * 2, none⟩ = some (iv p.1) := (hc _ _ HQ.out.1).1
  have q1 : w2.cell? ⟨g, kk * 2 + 1, none⟩ = some (iv p.2) := (hc _ _ HQ.out.2).1
  have S3 : Sep w w2 (boxA rb [iv 0, iv 0] 23 :: [vrow (.slice (some ⟨g, 0, none⟩) m cap) A]) := S2.swap
  have y0 : w2.cell? ⟨rb, 0, none⟩ = some (iv 0) := (S3.boxGet k0m).cellv 0 _ rfl
  have y1 : w2.cell? ⟨rb, 1, none⟩ = some (iv 0) := (S3.boxGet k0m).cellv 1 _ rfl
  have f0 : w2.frozen? ⟨rb, 0, none⟩ = false := (S3.boxGet k0m).frozen 0
  have f1 : w2.frozen? ⟨rb, 1, none⟩ = false := (S3.boxGet k0m).frozen 1
  have S4 := S3.boxPut 0 (iv p.1)
  obtain ⟨w3, hw3⟩ : ∃ w3, w2.setCell ⟨rb, 0, none⟩ (iv p.1) = w3 := ⟨_, rfl⟩
  rw [hw3] at S4
  have z1 : w3.cell? ⟨rb, 1, none⟩ = some (iv 0) := (S4.boxGet k0m).cellv 1 _ rfl
  have g1 : w3.frozen? ⟨rb, 1, none⟩ = false := (S4.boxGet k0m).frozen 1
  have S5 := S4.boxPut 1 (iv p.2)
  have HS5 : Keep (Sep w (w3.setCell ⟨rb, 1, none⟩ (iv p.2)) (boxA rb [iv p.1, iv p.2] 23 :: [vrow (.slice (some ⟨g, 0, none⟩) m cap) A])) := ⟨S5⟩
  have hki : ((kk : Nat) : Int).toNat = kk := by omega
  have hkl : (kk : Int) < (m : Int) := by omega
  clear S2 S2' S3 S4 S5 hc HS1 hT HQ
  have wt : IntKind.i64.wrap t = t := wi _ (by omega) (by omega)
  by_cases hneg : t < 0
  · have d := d1 hneg
    have hdc : decide (t < 0) = true := decide_eq_true hneg
    clear d1 d2
    go_wp2_with fail
    exact ret_c rfl rfl (HS5.out.boxGet k0m) hdu hdr infoT32 rfl ⟨rfl, HS5.out.g⟩
  · have d := d2 (by omega)
    have hdc : decide (t < 0) = false := decide_eq_false hneg
    clear d1 d2
    subst d
    go_wp2_with fail
    exact ret_c rfl rfl (HS5.out.boxGet k0m) hdu hdr infoT32 rfl ⟨rfl, HS5.out.g⟩
theorem yieldsIf_build {P : Program} {ops : Array Oper} {S : World → Prop} {op : Oper} {a : Act} (hw : Region.wanted op (yielded ops a.tmps) = true) (t : TypeId) (parts : Array (Nat × Operand)) (ho : op.op = .build t parts) (cells : Array Value)
    (hb : P.built t (parts.map fun (i, x) => (i, a.eval x)).toList = some cells) : YieldsIf P ops S op (.agg cells) a :=
  .inl ⟨hw, fun w _ => by
    unfold execOp
    simp only [ho, Sem.run_bind, run_build w t _ cells hb, Result.andThen_ok]
    rfl⟩
set_option maxRecDepth 100000 in
theorem built32 (a x y e f : Int) (s : ByteArray) : Tryd.prog.built 25 [(0, iv a), (1, .string s), (2, vv x y), (5, iv 100), (6, iv 100), (7, iv 20), (10, iv e), (11, iv f)] = some #[iv a, .string s, iv x, iv y, iv 0, iv 0, iv 0, iv 100, iv 100, iv 20, iv 0, iv 0, iv e, iv f] := by kernel_rfl
set_option maxRecDepth 100000 in
set_option maxHeartbeats 8000000 in
theorem fresh_c (w : World) (v : Value) (L : Bo) (c : Cr) (h : Bd w v L) (hs : spn L ≠ []) (hn : c.nm.size ≤ 281474976710656) :
    Calls Tryd.prog 35 #[v, .agg (crv c).toArray] w fun e w' => e = .returned (.agg (crv (frC L c)).toArray) ∧ w.grownBy w' none := by
  obtain ⟨du, hdu, hdr⟩ := underC
  have S2 := ((Sep.nil w).newBox (crv c).toArray 25).newBox zC14.toArray 25
  obtain ⟨W1, hW1⟩ : ∃ W1, w.alloc (.cells (crv c).toArray 25) = W1 := ⟨_, rfl⟩
  obtain ⟨xb, hxb⟩ : ∃ xb, w.heap.size = xb := ⟨_, rfl⟩
  rw [hW1, hxb] at S2
  obtain ⟨W2, hW2⟩ : ∃ W2, W1.alloc (.cells zC14.toArray 25) = W2 := ⟨_, rfl⟩
  obtain ⟨rb, hrb⟩ : ∃ rb, W1.heap.size = rb := ⟨_, rfl⟩
  rw [hW2, hrb] at S2
  change Sep w W2 [boxA rb zC14 25, boxA xb (crv c) 25] at S2
  have HB := Keep.mk S2
  have hsum : IntKind.i64.wrap (c.pl + c.sp) = w64 (c.pl + c.sp) := rfl
  have HSP := Keep.mk (fun W (g : w.grownBy W none) => spawn_c W v L (h.kept g) hs (w64 (c.pl + c.sp)))
  have HBU := Keep.mk (built32 c.pl (spw L (w64 (c.pl + c.sp))).1 (spw L (w64 (c.pl + c.sp))).2 c.sp c.sc c.nm)
  change Keep (_ = some (crv (frC L c)).toArray) at HBU
  have HOW := Keep.mk (fun W => own_c W (frC L c) hn)
  generalize w64 (c.pl + c.sp) = ns at *
  generalize (spw L ns).1 = px at *
  generalize (spw L ns).2 = py at *
  generalize frC L c = cf at *
  have hsz : (crv c).toArray.size = 14 := rfl
  unfold zC14 crv zC at hW2
  change W1.alloc _ = W2 at hW2
  clear S2 h hs hn
  go_enter Tryd.func35, Tryd.ntmps35
  go_wp2_with fail
  refine region_X (S := fun w' => Sep w w' [boxA rb zC14 25, boxA xb (crv c) 25]) [17] (by kernel_rfl) (HB.out.grown (gr_drew _ _)) (fun hHeld => ?_)
  replace HB := Keep.mk hHeld
  refine wpAnyX_take (i := 0) (oi := _) (v := ?_) rfl (by kernel_rfl) (by kernel_rfl) (by kernel_rfl) (by kernel_rfl) (by kernel_rfl) (fun _ _ _ h => h) (Or.inl ⟨by rfl, ?_⟩) (by assumption) ?_
  rotate_left
  · (intro w hSw; go_simp; first | done | (with_reducible rfl))
  simp only [Act.put, List.getElem_toArray, List.getElem_cons_zero, List.setIfInBounds_toArray, List.set_cons_zero, List.set_cons_succ]
  refine wpAnyX_take (i := 1) (oi := _) (v := ?_) rfl (by kernel_rfl) (by kernel_rfl) (by kernel_rfl) (by kernel_rfl) (by kernel_rfl) (fun _ _ _ h => h) (Or.inl ⟨by rfl, ?_⟩) (by assumption) ?_
  rotate_left
  · (intro w hSw; have q0 := (hSw.boxGet k1m).cellv 0 _ rfl; go_simp; first | done | (with_reducible rfl))
  simp only [Act.put, List.getElem_toArray, List.getElem_cons_succ, List.getElem_cons_zero, List.setIfInBounds_toArray, List.set_cons_zero, List.set_cons_succ]
  refine wpAnyX_take (i := 2) (oi := _) (v := ?_) rfl (by kernel_rfl) (by kernel_rfl) (by kernel_rfl) (by kernel_rfl) (by kernel_rfl) (fun _ _ _ h => h) (Or.inl ⟨by rfl, ?_⟩) (by assumption) ?_
  rotate_left
  · (intro w hSw; go_simp; first | done | (with_reducible rfl))
  simp only [Act.put, List.getElem_toArray, List.getElem_cons_succ, List.getElem_cons_zero, List.setIfInBounds_toArray, List.set_cons_zero, List.set_cons_succ]
  refine wpAnyX_take (i := 3) (oi := _) (v := ?_) rfl (by kernel_rfl) (by kernel_rfl) (by kernel_rfl) (by kernel_rfl) (by kernel_rfl) (fun _ _ _ h => h) (Or.inl ⟨by rfl, ?_⟩) (by assumption) ?_
  rotate_left
  · (intro w hSw; have q1 := (hSw.boxGet k1m).cellv 1 _ rfl; go_simp; first | done | (with_reducible rfl))
  simp only [Act.put, List.getElem_toArray, List.getElem_cons_succ, List.getElem_cons_zero, List.setIfInBounds_toArray, List.set_cons_zero, List.set_cons_succ]
  refine wpAnyX_take (i := 4) (oi := _) (v := ?_) rfl (by kernel_rfl) (by kernel_rfl) (by kernel_rfl) (by kernel_rfl) (by kernel_rfl) (fun _ _ _ h => h) (Or.inl ⟨by rfl, ?_⟩) (by assumption) ?_
  rotate_left
  · (intro w hSw; go_simp; first | done | (with_reducible rfl))
  simp only [Act.put, List.getElem_toArray, List.getElem_cons_succ, List.getElem_cons_zero, List.setIfInBounds_toArray, List.set_cons_zero, List.set_cons_succ]
  refine wpAnyX_take (i := 5) (oi := _) (v := ?_) rfl (by kernel_rfl) (by kernel_rfl) (by kernel_rfl) (by kernel_rfl) (by kernel_rfl) (fun _ _ _ h => h) (Or.inl ⟨by rfl, ?_⟩) (by assumption) ?_
  rotate_left
  · (intro w hSw; go_simp; first | done | (with_reducible rfl))
  simp only [Act.put, List.getElem_toArray, List.getElem_cons_succ, List.getElem_cons_zero, List.setIfInBounds_toArray, List.set_cons_zero, List.set_cons_succ]
  refine wpAnyX_take (i := 6) (oi := _) (v := ?_) rfl (by kernel_rfl) (by kernel_rfl) (by kernel_rfl) (by kernel_rfl) (by kernel_rfl) (fun _ _ _ h => h) (Or.inl ⟨by rfl, ?_⟩) (by assumption) ?_
  rotate_left
  · (intro w hSw; have q0 := (hSw.boxGet k1m).cellv 0 _ rfl; go_simp; first | done | (with_reducible rfl))
  simp only [Act.put, List.getElem_toArray, List.getElem_cons_succ, List.getElem_cons_zero, List.setIfInBounds_toArray, List.set_cons_zero, List.set_cons_succ]
  refine wpAnyX_take (i := 7) (oi := _) (v := ?_) rfl (by kernel_rfl) (by kernel_rfl) (by kernel_rfl) (by kernel_rfl) (by kernel_rfl) (fun _ _ _ h => h) (Or.inl ⟨by rfl, ?_⟩) (by assumption) ?_
  rotate_left
  · (intro w hSw; go_simp; first | done | (with_reducible rfl))
  simp only [Act.put, List.getElem_toArray, List.getElem_cons_succ, List.getElem_cons_zero, List.setIfInBounds_toArray, List.set_cons_zero, List.set_cons_succ]
  refine wpAnyX_take (i := 8) (oi := _) (v := ?_) rfl (by kernel_rfl) (by kernel_rfl) (by kernel_rfl) (by kernel_rfl) (by kernel_rfl) (fun _ _ _ h => h) (Or.inl ⟨by rfl, ?_⟩) (by assumption) ?_
  rotate_left
  · (intro w hSw; have q12 := (hSw.boxGet k1m).cellv 12 _ rfl; go_simp; first | done | (with_reducible rfl))
  simp only [Act.put, List.getElem_toArray, List.getElem_cons_succ, List.getElem_cons_zero, List.setIfInBounds_toArray, List.set_cons_zero, List.set_cons_succ]
  refine wpAnyX_take (i := 9) (oi := _) (v := ?_) rfl (by kernel_rfl) (by kernel_rfl) (by kernel_rfl) (by kernel_rfl) (by kernel_rfl) (fun _ _ _ h => h) (Or.inl ⟨by rfl, ?_⟩) (by assumption) ?_
  rotate_left
  · (intro w hSw; go_simp; first | done | (with_reducible rfl))
  simp only [Act.put, List.getElem_toArray, List.getElem_cons_succ, List.getElem_cons_zero, List.setIfInBounds_toArray, List.set_cons_zero, List.set_cons_succ]
  refine wpAnyX_take (i := 11) (oi := _) (v := ?_) rfl (by kernel_rfl) (by kernel_rfl) (by kernel_rfl) (by kernel_rfl) (by kernel_rfl) (fun _ _ _ h => h) (Or.inl ⟨by rfl, ?_⟩) (by assumption) ?_
  rotate_left
  · (intro w hSw; go_simp; first | done | (with_reducible rfl))
  simp only [Act.put, List.getElem_toArray, List.getElem_cons_succ, List.getElem_cons_zero, List.setIfInBounds_toArray, List.set_cons_zero, List.set_cons_succ]
  refine wpAnyX_take (i := 12) (oi := _) (v := ?_) rfl (by kernel_rfl) (by kernel_rfl) (by kernel_rfl) (by kernel_rfl) (by kernel_rfl) (fun _ _ _ h => h) (Or.inl ⟨by rfl, ?_⟩) (by assumption) ?_
  rotate_left
  · (intro w hSw; have q12 := (hSw.boxGet k1m).cellv 12 _ rfl; go_simp; first | done | (with_reducible rfl))
  simp only [Act.put, List.getElem_toArray, List.getElem_cons_succ, List.getElem_cons_zero, List.setIfInBounds_toArray, List.set_cons_zero, List.set_cons_succ]
  refine wpAnyX_take (i := 13) (oi := _) (v := ?_) rfl (by kernel_rfl) (by kernel_rfl) (by kernel_rfl) (by kernel_rfl) (by kernel_rfl) (fun _ _ _ h => h) (Or.inl ⟨by rfl, ?_⟩) (by assumption) ?_
  rotate_left
  · (intro w hSw; go_simp; first | done | (with_reducible rfl))
  simp only [Act.put, List.getElem_toArray, List.getElem_cons_succ, List.getElem_cons_zero, List.setIfInBounds_toArray, List.set_cons_zero, List.set_cons_succ]
  refine wpAnyX_take (i := 14) (oi := _) (v := ?_) rfl (by kernel_rfl) (by kernel_rfl) (by kernel_rfl) (by kernel_rfl) (by kernel_rfl) (fun _ _ _ h => h) (Or.inl ⟨by rfl, ?_⟩) (by assumption) ?_
  rotate_left
  · (intro w hSw; have q13 := (hSw.boxGet k1m).cellv 13 _ rfl; go_simp; first | done | (with_reducible rfl))
  simp only [Act.put, List.getElem_toArray, List.getElem_cons_succ, List.getElem_cons_zero, List.setIfInBounds_toArray, List.set_cons_zero, List.set_cons_succ]
  refine wpAnyX_one (i := 10) (by kernel_rfl) rfl (fun K hK => ?_)
  go_simp
  refine (HSP.out _ HB.out.g).mono ?_
  rintro e wg ⟨rfl, hg⟩
  replace HB := Keep.mk (HB.out.grown hg)
  refine hK.out _ _ HB.out (fun hHeld => ?_)
  clear hK K hg
  refine wpAnyX_take (i := 15) (oi := _) (v := .agg (crv cf).toArray) rfl (by kernel_rfl) (by kernel_rfl) (by kernel_rfl) (by kernel_rfl) (by kernel_rfl) (fun _ _ _ h => h) (yieldsIf_build (by rfl) 25 _ rfl _ ?_) (by assumption) ?_
  · refine (congrArg (Tryd.prog.built 25) ?_).trans HBU.out
    simp only [List.map_toArray, List.map_cons, List.map_nil]
    rfl
  simp only [Act.put, List.getElem_toArray, List.getElem_cons_succ, List.getElem_cons_zero, List.setIfInBounds_toArray, List.set_cons_zero, List.set_cons_succ]
  refine wpAnyX_one (i := 16) (by kernel_rfl) rfl (fun K hK => ?_)
  go_simp
  refine (HOW.out _).mono ?_
  rintro e wg ⟨rfl, hg⟩
  replace HB := Keep.mk (HB.out.grown hg)
  refine hK.out _ _ HB.out (fun hHeld => ?_)
  clear hK K hg
  refine wpAnyX_late (i := 17) (by kernel_rfl) rfl (by kernel_rfl) (fun K hK => ?_)
  rw [if_pos (show Region.wanted _ _ = true from rfl)]
  have HRB := Keep.mk (HB.out.boxGet k0m)
  have HF1 := Keep.mk (crv_one cf)
  refine wp_store_mid 25 _ _ rfl rb 0 (crv cf).toArray rfl rfl (HRB.out.there 0 14 (Nat.le_refl _)) infoC (all_oneCell_toArray HF1.out) ?_
  have S8 := HB.out.boxTurn (HRB.out.setCells (crv cf) 0) (gr_sets _ _ _ _)
  rw [over_all zC14 (crv cf) rfl] at S8
  have HS8 := Keep.mk S8
  refine hK.out _ _ ?_
  clear hK K HB S8 HRB HF1
  change Keep (Sep w (World.setCells wg rb 0 (crv cf).toArray.toList) _) at HS8
  generalize World.setCells wg rb 0 (crv cf).toArray.toList = w8 at HS8 ⊢
  refine wpAnyX_done (by kernel_rfl) ?_ _
  go_wp2_with fail
  exact ret_c rfl rfl (HS8.out.boxGet k0m) hdu hdr (infoC' cf) rfl ⟨rfl, HS8.out.g⟩
end Go.Proofs.YtobdcngjpgndiabDoor.Bo
