import Derived.Test.YtldnpebnpbahjaaGreatDoorX8
set_option maxRecDepth 100000
set_option maxHeartbeats 8000000
namespace Go.Proofs.YtldnpebnpbahjaaGreatDoor.Pk
open Go Go.RowKit Go.Proofs.Tryz
theorem fixed2_c (f k n db ob wb b1 b2 : Nat) (v : Value) (D : List Value) (st : WS) (r : Bool) (x : ByteArray) (hx : x.size ≤ 1099511627776) (w : World) (hf : Place f k) (h1 : Has w b1 [.int .i64 (n : Int)] 3) (h2 : Has w b2 [fv f] 186) (hb1 : ¬ OF ob wb v b1) (hb2 : ¬ OF ob wb v b2) (h : Lay w db ob wb v D st r) (hk : D[k]? = some (.string x)) :
    Calls prog 181 #[pv db, pv ob, pv b2, pv b1] w fun e w' => e = .returned (.tuple #[]) ∧ ∃ v', OD w w' ob wb v (wBytes st (sl x)) (r || !decide (x.size = n)) v' := by
  obtain ⟨hcf, hf⟩ := hf; have HA : Kp (Lay w.drew db ob wb v D st r ∧ x.size ≤ 1099511627776) := ⟨h.drew, hx⟩; have HH : Kp (Has w.drew b1 [.int .i64 (n : Int)] 3 ∧ Has w.drew b2 [fv f] 186 ∧ Has w.drew db D 34) := ⟨h1.kept (gr_drew _ none) (by simp), h2.kept (gr_drew _ none) (by simp), h.drew.d⟩; have HDK : Kp (D[k]? = some (.string x)) := ⟨hk⟩; clear h h1 h2 hx hk; go_enter func181, ntmps181; go_wp2_with fail; refine wp_region_held_drew (S := fun w' => Has w' b1 [.int .i64 (n : Int)] 3 ∧ Has w' b2 [fv f] 186 ∧ Has w' db D 34) (by kernel_rfl) HH.out (fun hHeld => ?_); refine hq 0 rfl ?_; refine hk_ 1 rfl ?_ (fun w hSw => by have x1 := hSw.2.1.cellv 0 _ rfl; clear hSw; go_simp; first | done | (with_reducible rfl)); refine hq 2 rfl ?_; refine hk_ 7 rfl ?_ (fun w hSw => by have x1 := hSw.1.cellv 0 _ rfl; clear hSw; go_simp; first | done | (with_reducible rfl)); simp only [Act.put, uz]; refine ha 3 (fun K hK => ?_) (ho := rfl); go_simp; refine (hf db _).mono ?_; rintro e w1 ⟨rfl, hw1⟩; subst hw1; refine hK.out _ _ HH.out (fun hHeld => ?_); clear hK K; refine hq 4 rfl ?_; refine hk_ 5 rfl ?_ (fun w hSw => by have x1 := hSw.2.2.cellv k _ HDK.out; clear hSw; go_simp; first | done | (with_reducible rfl)); refine hq 6 rfl ?_; refine hq 8 rfl ?_; simp only [Act.put, uz]; refine ha 9 (fun K hK => ?_) (ho := rfl); go_simp; refine (oallow_c ob wb v st r _ _ HA.out.1.o).mono ?_; rintro e w2 ⟨rfl, d2⟩; have e0 : decide ((x.size : Int) = (n : Int)) = decide (x.size = n) := decide_eq_decide.2 (by omega); have HD : Kp (OD w w2 ob wb v st (r || !decide (x.size = n)) v) := ⟨by first | exact d2.ahead (gr_drew _ _) | (rw [← e0]; exact d2.ahead (gr_drew _ _))⟩; have f2 : Fr (OF ob wb v) w.drew w2 := d2.f; have HA2 : Kp (Lay w2.drew db ob wb v D st (r || !decide (x.size = n)) ∧ x.size ≤ 1099511627776) := ⟨Lay.drew ⟨HH.out.2.2.fr f2 HA.out.1.n, HD.out.a, HA.out.1.n, HA.out.1.l⟩, HA.out.2⟩; have HH2 : Kp (Has w2.drew b1 [.int .i64 (n : Int)] 3 ∧ Has w2.drew b2 [fv f] 186 ∧ Has w2.drew db D 34 ∧ Has w2.drew ob [pv wb, .bool (r || !decide (x.size = n))] 174) := ⟨(HH.out.1.fr f2 hb1).kept (gr_drew _ none) (by simp), (HH.out.2.1.fr f2 hb2).kept (gr_drew _ none) (by simp), HA2.out.1.d, HA2.out.1.o.h⟩; refine hK.out _ _ ⟨HH.out.1.fr f2 hb1, HH.out.2.1.fr f2 hb2, HH.out.2.2.fr f2 HA.out.1.n⟩ (fun hHeld => ?_); clear hHeld; refine hd_ ?_; clear hK K; clear d2 f2 e0; go_wp2_with fail; refine wp_region_held_drew (S := fun w' => Has w' b1 [.int .i64 (n : Int)] 3 ∧ Has w' b2 [fv f] 186 ∧ Has w' db D 34 ∧ Has w' ob [pv wb, .bool (r || !decide (x.size = n))] 174) (by kernel_rfl) HH2.out (fun hHeld => ?_); refine hq 0 rfl ?_; refine hq 1 rfl ?_; refine hq 2 rfl ?_; refine hk_ 3 rfl ?_ (fun w hSw => by have x1 := hSw.2.2.2.cellv 0 _ rfl; clear hSw; go_simp; first | done | (with_reducible rfl)); refine hk_ 4 rfl ?_ (fun w hSw => by have x1 := hSw.2.1.cellv 0 _ rfl; clear hSw; go_simp; first | done | (with_reducible rfl)); refine hq 5 rfl ?_; simp only [Act.put, uz]; refine ha 6 (fun K hK => ?_) (ho := rfl); go_simp; refine (hf db _).mono ?_; rintro e w1 ⟨rfl, hw1⟩; subst hw1; refine hK.out _ _ HH2.out (fun hHeld => ?_); clear hK K; refine hq 7 rfl ?_; refine hk_ 8 rfl ?_ (fun w hSw => by have x1 := hSw.2.2.1.cellv k _ HDK.out; clear hSw; go_simp; first | done | (with_reducible rfl)); simp only [Act.put, uz]; refine ha 9 (fun K hK => ?_) (ho := rfl); go_simp; refine (wBytes_c wb v st x _ HA2.out.1.o.a (by have := HA2.out.1.l; have := HA2.out.2; omega)).mono ?_; rintro e w3 ⟨rfl, v', d3⟩; have HD3 : Kp (OD w w3 ob wb v (wBytes st (sl x)) (r || !decide (x.size = n)) v') := ⟨HD.out.trans ((HA2.out.1.o.did d3).ahead (gr_drew _ _))⟩; have f3 : Fr (OF ob wb v) w2.drew w3 := (HA2.out.1.o.did d3).f; refine hK.out _ _ ⟨HH2.out.1.fr f3 hb1, HH2.out.2.1.fr f3 hb2, HH2.out.2.2.1.fr f3 HA2.out.1.n, HD3.out.a.h⟩ (fun hHeld => ?_); refine hd_ ?_; clear hK K; go_wp2_with fail
  go_end0
  exact ⟨rfl, v', HD3.out⟩
theorem zeros2_c (db ob wb zb : Nat) (v : Value) (D : List Value) (st : WS) (r : Bool) (Z : ByteArray) (hZ : Z.size ≤ 1099511627776) (w : World) (h1 : Has w zb [.string Z] 9) (hb : ¬ OF ob wb v zb) (h : Lay w db ob wb v D st r) :
    Calls prog 135 #[pv db, pv ob, pv zb] w fun e w' => e = .returned (.tuple #[]) ∧ ∃ v', OD w w' ob wb v (wBytes st (sl Z)) r v' := by
  have HA : Kp (Lay w.drew db ob wb v D st r ∧ Z.size ≤ 1099511627776) := ⟨h.drew, hZ⟩; have HH : Kp (Has w.drew zb [.string Z] 9 ∧ Has w.drew ob [pv wb, .bool r] 174) := ⟨h1.kept (gr_drew _ none) (by simp), h.drew.o.h⟩; clear h h1 hZ; go_enter func135, ntmps135; go_wp2_with fail; refine wp_region_held_drew (S := fun w' => Has w' zb [.string Z] 9 ∧ Has w' ob [pv wb, .bool r] 174) (by kernel_rfl) HH.out (fun hHeld => ?_); refine hq 0 rfl ?_; refine hq 1 rfl ?_; refine hq 2 rfl ?_; refine hk_ 3 rfl ?_ (fun w hSw => by have x1 := hSw.2.cellv 0 _ rfl; clear hSw; go_simp; first | done | (with_reducible rfl)); refine hk_ 4 rfl ?_ (fun w hSw => by have x1 := hSw.1.cellv 0 _ rfl; clear hSw; go_simp; first | done | (with_reducible rfl)); simp only [Act.put, uz]; refine ha 5 (fun K hK => ?_) (ho := rfl); go_simp; refine (wBytes_c wb v st Z _ HA.out.1.o.a (by have := HA.out.1.l; have := HA.out.2; omega)).mono ?_; rintro e w3 ⟨rfl, v', d3⟩; have HD3 : Kp (OD w w3 ob wb v (wBytes st (sl Z)) r v') := ⟨(HA.out.1.o.did d3).ahead (gr_drew _ _)⟩; have f3 : Fr (OF ob wb v) w.drew w3 := (HA.out.1.o.did d3).f; refine hK.out _ _ ⟨HH.out.1.fr f3 hb, HD3.out.a.h⟩ (fun hHeld => ?_); refine hd_ ?_; clear hK K; go_wp2_with fail
  go_end0
  exact ⟨rfl, v', HD3.out⟩
theorem flags2_c (db ob wb : Nat) (v : Value) (D : List Value) (st : WS) (r fire boost : Bool) (w : World) (h : Lay w db ob wb v D st r) (h1 : D[11]? = some (.bool fire)) (h2 : D[12]? = some (.bool boost)) :
    Calls prog 155 #[pv db, pv ob] w fun e w' => e = .returned (.tuple #[]) ∧ ∃ v', OD w w' ob wb v (wNum st ((if fire then 1 else 0) + (if boost then 2 else 0)) 1) r v' := by
  have HA : Kp (Lay w db ob wb v D st r) := ⟨h⟩; have c1 : w.cell? ⟨db, 11, none⟩ = some (.bool fire) := h.d.cellv 11 _ h1; have c2 : w.cell? ⟨db, 12, none⟩ = some (.bool boost) := h.d.cellv 12 _ h2; have c3 : w.cell? ⟨ob, 0, none⟩ = some (pv wb) := h.o.h.cellv 0 _ rfl; clear h h1 h2; cases fire <;> cases boost
  · go_enter func155, ntmps155; go_wp2_with fail; refine (wNumber_c wb v st 0 1 w HA.out.o.a (by decide) (by have := HA.out.l; omega)).mono ?_; rintro e w3 ⟨rfl, v', d3⟩; have HD3 := Kp.mk (HA.out.o.did d3); clear d3; go_wp2_with fail
    go_end0
    exact ⟨rfl, v', HD3.out⟩
  · go_enter func155, ntmps155; go_wp2_with fail; refine (wNumber_c wb v st 2 1 w HA.out.o.a (by decide) (by have := HA.out.l; omega)).mono ?_; rintro e w3 ⟨rfl, v', d3⟩; have HD3 := Kp.mk (HA.out.o.did d3); clear d3; go_wp2_with fail
    go_end0
    exact ⟨rfl, v', HD3.out⟩
  · go_enter func155, ntmps155; go_wp2_with fail; refine (wNumber_c wb v st 1 1 w HA.out.o.a (by decide) (by have := HA.out.l; omega)).mono ?_; rintro e w3 ⟨rfl, v', d3⟩; have HD3 := Kp.mk (HA.out.o.did d3); clear d3; go_wp2_with fail
    go_end0
    exact ⟨rfl, v', HD3.out⟩
  · go_enter func155, ntmps155; go_wp2_with fail; refine (wNumber_c wb v st 3 1 w HA.out.o.a (by decide) (by have := HA.out.l; omega)).mono ?_; rintro e w3 ⟨rfl, v', d3⟩; have HD3 := Kp.mk (HA.out.o.did d3); clear d3; go_wp2_with fail
    go_end0
    exact ⟨rfl, v', HD3.out⟩
theorem newO_c (s : ByteArray) (hs : s.size ≤ 1048576) (w : World) :
    Calls prog 64 #[.string s] w fun e w' => ∃ ob wb v, e = .returned (pv ob) ∧ Ot w' ob wb v (some (sl s)) false ∧ w.grownBy w' none ∧ w.heap.size ≤ ob ∧ w.heap.size ≤ wb ∧ ∀ k, v.ownBlock = some k → w.heap.size ≤ k := by
  go_enter func64, ntmps64; go_wp2_with fail; refine (newW_c w).mono ?_; rintro e w1 ⟨wb, rfl, a1, g1, e1⟩; have hlt := a1.h.lt; obtain ⟨w2, hw2⟩ : ∃ q, w1.alloc (.cells #[pv wb, .bool false] 174) = q := ⟨_, rfl⟩; obtain ⟨ob, hob⟩ : ∃ q, w1.heap.size = q := ⟨_, rfl⟩; have g2 : w1.grownBy w2 none := by rw [← hw2]; exact gAl _ _ _
  have h2 : Has w2 ob [pv wb, .bool false] 174 := by rw [← hw2, ← hob]; exact Has.newA w1 _ 174
  have c0 : w2.cell? ⟨ob, 0, none⟩ = some (pv wb) := h2.cellv 0 _ rfl; have HB : Kp (Ot w2 ob wb (.slice none 0 0) (some []) false ∧ w.grownBy w2 none ∧ w.heap.size ≤ wb ∧ w.heap.size ≤ ob) := ⟨⟨h2, a1.kept g2, by omega, by simp [Value.ownBlock]⟩, g1.trans g2, by omega, by have := g1.size; omega⟩; clear a1 g1 e1 hlt g2 h2; go_wp2_with fail; refine (wBytes_c wb _ (some []) s w2 HB.out.1.a (by simp; omega)).mono ?_; rintro e w3 ⟨rfl, v', d3⟩; have d4 := HB.out.1.did d3
  have HC : Kp (Ot w3 ob wb v' (some (sl s)) false ∧ w.grownBy w3 none ∧ ∀ k, v'.ownBlock = some k → w.heap.size ≤ k) := ⟨by simpa [wBytes] using d4.a, fr_mine HB.out.2.1 d4.f (fun k e => by
      rcases e with e | e | e
      · have := HB.out.2.2.2; omega
      · have := HB.out.2.2.1; omega
      · simp [Value.ownBlock] at e), fun k e => by
    rcases d4.n k e with q | q
    · simp [Value.ownBlock] at q
    · exact Nat.le_trans HB.out.2.1.size q⟩
  clear d3 d4
  go_wp2
  go_ret; exact ⟨ob, wb, v', rfl, HC.out.1, HC.out.2.1, HB.out.2.2.2, HB.out.2.2.1, HC.out.2.2⟩
theorem odone_a (ob wb : Nat) (v : Value) (r : Bool)  (w : World) (h : Ot w ob wb v none r) :
    CRt 65 #[pv ob] w (.tuple #[.string (ba []), .int .i64 73]) := by
  have c0 : w.cell? ⟨ob, 0, none⟩ = some (pv wb) := h.h.cellv 0 _ rfl; have HA : Kp (Ot w ob wb v none r) := ⟨h⟩; clear h; obtain ⟨S, hq⟩ : ∃ S, ba (none.getD []) = S := ⟨_, rfl⟩; have HC : Kp (∀ W : World, w = W → CRt 92 #[pv wb] W (.tuple #[.string S, .int .i64 51])) := ⟨fun W e => by subst e; rw [← hq]; exact wDone_c wb v none w HA.out.a⟩; clear hq; go_enter func65, ntmps65; go_wp2_with fail; refine (HC.out w rfl).mono ?_; rintro e w1 ⟨rfl, g1⟩; have c1 : w1.cell? ⟨ob, 1, none⟩ = some (.bool r) := (HA.out.kept g1).h.cellv 1 _ rfl; have HG := Kp.mk g1; clear g1 HC
  go_wp2
  go_ret2; exact ⟨rfl, HG.out⟩
theorem odone_b (ob wb : Nat) (v : Value) (L : List UInt8)  (w : World) (h : Ot w ob wb v (some L) true) :
    CRt 65 #[pv ob] w (.tuple #[.string (ba []), .int .i64 73]) := by
  have c0 : w.cell? ⟨ob, 0, none⟩ = some (pv wb) := h.h.cellv 0 _ rfl; have HA : Kp (Ot w ob wb v (some L) true) := ⟨h⟩; clear h; obtain ⟨S, hq⟩ : ∃ S, ba ((some L).getD []) = S := ⟨_, rfl⟩; have HC : Kp (∀ W : World, w = W → CRt 92 #[pv wb] W (.tuple #[.string S, .int .i64 0])) := ⟨fun W e => by subst e; rw [← hq]; exact wDone_c wb v (some L) w HA.out.a⟩; clear hq; go_enter func65, ntmps65; go_wp2_with fail; refine (HC.out w rfl).mono ?_; rintro e w1 ⟨rfl, g1⟩; have c1 : w1.cell? ⟨ob, 1, none⟩ = some (.bool true) := (HA.out.kept g1).h.cellv 1 _ rfl; have HG := Kp.mk g1; clear g1 HC
  go_wp2
  go_ret2; exact ⟨rfl, HG.out⟩
theorem odone_c' (ob wb : Nat) (v : Value) (L : List UInt8) (h12 : 1200 < L.length) (w : World) (h : Ot w ob wb v (some L) false) :
    CRt 65 #[pv ob] w (.tuple #[.string (ba []), .int .i64 72]) := by
  have c0 : w.cell? ⟨ob, 0, none⟩ = some (pv wb) := h.h.cellv 0 _ rfl; have HA : Kp (Ot w ob wb v (some L) false) := ⟨h⟩; clear h; obtain ⟨S, hq⟩ : ∃ S, ba ((some L).getD []) = S := ⟨_, rfl⟩; have hsz : S.size = L.length := by rw [← hq]; simp [ByteArray.size]
  have hd : decide ((1200 : Int) < (S.size : Int)) = true := decide_eq_true (by omega); have HC : Kp (∀ W : World, w = W → CRt 92 #[pv wb] W (.tuple #[.string S, .int .i64 0])) := ⟨fun W e => by subst e; rw [← hq]; exact wDone_c wb v (some L) w HA.out.a⟩; clear hq h12 hsz; go_enter func65, ntmps65; go_wp2_with fail; refine (HC.out w rfl).mono ?_; rintro e w1 ⟨rfl, g1⟩; have c1 : w1.cell? ⟨ob, 1, none⟩ = some (.bool false) := (HA.out.kept g1).h.cellv 1 _ rfl; have HG := Kp.mk g1; clear g1 HC
  go_wp2
  go_ret2; exact ⟨rfl, HG.out⟩
theorem odone_d (ob wb : Nat) (v : Value) (L : List UInt8) (h12 : ¬ 1200 < L.length) (w : World) (h : Ot w ob wb v (some L) false) :
    CRt 65 #[pv ob] w (.tuple #[.string (ba L), .int .i64 0]) := by
  have c0 : w.cell? ⟨ob, 0, none⟩ = some (pv wb) := h.h.cellv 0 _ rfl; have HA : Kp (Ot w ob wb v (some L) false) := ⟨h⟩; clear h; obtain ⟨S, hq⟩ : ∃ S, ba ((some L).getD []) = S := ⟨_, rfl⟩; have hsz : S.size = L.length := by rw [← hq]; simp [ByteArray.size]
  have hd : decide ((1200 : Int) < (S.size : Int)) = false := decide_eq_false (by omega); have HQ : Kp (ba L = S) := ⟨hq⟩; rw [HQ.out]; have HC : Kp (∀ W : World, w = W → CRt 92 #[pv wb] W (.tuple #[.string S, .int .i64 0])) := ⟨fun W e => by subst e; rw [← hq]; exact wDone_c wb v (some L) w HA.out.a⟩; clear hq h12 hsz; go_enter func65, ntmps65; go_wp2_with fail; refine (HC.out w rfl).mono ?_; rintro e w1 ⟨rfl, g1⟩; have c1 : w1.cell? ⟨ob, 1, none⟩ = some (.bool false) := (HA.out.kept g1).h.cellv 1 _ rfl; have HG := Kp.mk g1; clear g1 HC
  go_wp2
  go_ret2; exact ⟨rfl, HG.out⟩
theorem odone_c (ob wb : Nat) (v : Value) (st : WS) (r : Bool) (w : World) (h : Ot w ob wb v st r) :
    CRt 65 #[pv ob] w (.tuple #[.string (ba (finish (st, r)).1), .int .i64 (finish (st, r)).2]) := by
  cases st with
  | none => exact odone_a ob wb v r w h
  | some L =>
    cases r
    · by_cases h12 : 1200 < L.length
      · (have e : finish (some L, false) = ([], 72) := by simp [finish, h12]); rw [e]; exact odone_c' ob wb v L h12 w h
      · (have e : finish (some L, false) = (L, 0) := by simp [finish, h12]); rw [e]; exact odone_d ob wb v L h12 w h
    · exact odone_b ob wb v L w h
structure Dg.small (d : Dg) : Prop where
  n : d.nonce.size ≤ 1099511627776
  c : d.cookie.size ≤ 1099511627776
  m : d.name.size ≤ 1099511627776
  s : d.salt.size ≤ 1099511627776
  dt : d.data.size ≤ 1099511627776
  t : d.tag.size ≤ 1099511627776
def LayC (w : World) (f : Fd) (n : Nat) (c : Array Value) : Prop :=
  Enters n ∧ ∀ (W : World) (db ob wb : Nat) (v : Value) (d : Dg) (st : WS) (r : Bool), w.grownBy W none → w.heap.size ≤ ob → w.heap.size ≤ wb → (∀ k, v.ownBlock = some k → w.heap.size ≤ k) → Lay W db ob wb v d.cells st r → d.fine → d.small →
    Calls prog n (#[pv db, pv ob] ++ c) W fun e w' => e = .returned (.tuple #[]) ∧ ∃ v', OD W w' ob wb v (ly d f (st, r)).1 (ly d f (st, r)).2 v'
theorem LayC.kept {w w' : World} {f : Fd} {n : Nat} {c : Array Value} (h : LayC w f n c) (g : w.grownBy w' none) : LayC w' f n c :=
  ⟨h.1, fun W db ob wb v d st r gW l1 l2 l3 t => h.2 W db ob wb v d st r (g.trans gW) (Nat.le_trans g.size l1) (Nat.le_trans g.size l2) (fun k e => Nat.le_trans g.size (l3 k e)) t⟩
theorem not_of {w : World} {ob wb : Nat} {v : Value} {b : Nat} (hb : b < w.heap.size) (l1 : w.heap.size ≤ ob) (l2 : w.heap.size ≤ wb) (l3 : ∀ k, v.ownBlock = some k → w.heap.size ≤ k) : ¬ OF ob wb v b := by
  rintro (e | e | e)
  · omega
  · omega
  · have := l3 _ e; omega
def FieldC (w : World) (f : Fd) (vt vl : Value) : Prop := ∃ nt ct nl cl, vt = .func (.func nt) #[] ct ∧ vl = .func (.func nl) #[] cl ∧ TakeC w f nt ct ∧ LayC w f nl cl
theorem FieldC.kept {w w' : World} {f : Fd} {vt vl : Value} (h : FieldC w f vt vl) (g : w.grownBy w' none) : FieldC w' f vt vl := by
  obtain ⟨nt, ct, nl, cl, e1, e2, h1, h2⟩ := h; exact ⟨nt, ct, nl, cl, e1, e2, h1.kept g, h2.kept g⟩
theorem en119 : Enters 181 := fun _ _ => by kernel_rfl
theorem en124 : Enters 186 := fun _ _ => by kernel_rfl
theorem en130 : Enters 192 := fun _ _ => by kernel_rfl
theorem en99 : Enters 147 := fun _ _ => by kernel_rfl
theorem en107 : Enters 155 := fun _ _ => by kernel_rfl
theorem en93 : Enters 141 := fun _ _ => by kernel_rfl
theorem en110 : Enters 158 := fun _ _ => by kernel_rfl
theorem en87 : Enters 135 := fun _ _ => by kernel_rfl
theorem ly_nonce (w : World) (b1 b2 : Nat) (h1 : Has w b1 [.int .i64 (16 : Nat)] 3) (h2 : Has w b2 [fv 131] 186) : LayC w .nonce 181 #[pv b2, pv b1] := by
  refine ⟨en119, fun W db ob wb v d st r g l1 l2 l3 t fi sm => ?_⟩; show Calls prog 181 #[pv db, pv ob, pv b2, pv b1] W _; exact fixed2_c 131 1 16 db ob wb b1 b2 v d.cells st r d.nonce sm.n W p83 (h1.kept g (by simp)) (h2.kept g (by simp)) (not_of h1.lt l1 l2 l3) (not_of h2.lt l1 l2 l3) t rfl
theorem ly_salt (w : World) (b1 b2 : Nat) (h1 : Has w b1 [.int .i64 (16 : Nat)] 3) (h2 : Has w b2 [fv 149] 186) : LayC w .salt 181 #[pv b2, pv b1] := by
  refine ⟨en119, fun W db ob wb v d st r g l1 l2 l3 t fi sm => ?_⟩; show Calls prog 181 #[pv db, pv ob, pv b2, pv b1] W _; exact fixed2_c 149 7 16 db ob wb b1 b2 v d.cells st r d.salt sm.s W p101 (h1.kept g (by simp)) (h2.kept g (by simp)) (not_of h1.lt l1 l2 l3) (not_of h2.lt l1 l2 l3) t rfl
theorem ly_cookie (w : World) (b1 b2 : Nat) (h1 : Has w b1 [.int .i64 (32 : Nat)] 3) (h2 : Has w b2 [fv 138] 186) : LayC w .cookie 181 #[pv b2, pv b1] := by
  refine ⟨en119, fun W db ob wb v d st r g l1 l2 l3 t fi sm => ?_⟩; show Calls prog 181 #[pv db, pv ob, pv b2, pv b1] W _; exact fixed2_c 138 3 32 db ob wb b1 b2 v d.cells st r d.cookie sm.c W p90 (h1.kept g (by simp)) (h2.kept g (by simp)) (not_of h1.lt l1 l2 l3) (not_of h2.lt l1 l2 l3) t rfl
theorem ly_tag (w : World) (b1 b2 : Nat) (h1 : Has w b1 [.int .i64 (32 : Nat)] 3) (h2 : Has w b2 [fv 143] 186) : LayC w .tag 181 #[pv b2, pv b1] := by
  refine ⟨en119, fun W db ob wb v d st r g l1 l2 l3 t fi sm => ?_⟩; show Calls prog 181 #[pv db, pv ob, pv b2, pv b1] W _; exact fixed2_c 143 14 32 db ob wb b1 b2 v d.cells st r d.tag sm.t W p95 (h1.kept g (by simp)) (h2.kept g (by simp)) (not_of h1.lt l1 l2 l3) (not_of h2.lt l1 l2 l3) t rfl
theorem ly_epoch (w : World) (b1 : Nat) (h1 : Has w b1 [fv 137] 191) : LayC w .epoch 186 #[pv b1] := by
  refine ⟨en124, fun W db ob wb v d st r g l1 l2 l3 t fi sm => ?_⟩; show Calls prog 186 #[pv db, pv ob, pv b1] W _; exact long2_c 137 2 db ob wb b1 v d.cells st r d.epoch fi.e W p89 (h1.kept g (by simp)) (not_of h1.lt l1 l2 l3) t rfl
theorem ly_session (w : World) (b1 : Nat) (h1 : Has w b1 [fv 144] 191) : LayC w .session 186 #[pv b1] := by
  refine ⟨en124, fun W db ob wb v d st r g l1 l2 l3 t fi sm => ?_⟩; show Calls prog 186 #[pv db, pv ob, pv b1] W _; exact long2_c 144 5 db ob wb b1 v d.cells st r d.session fi.s W p96 (h1.kept g (by simp)) (not_of h1.lt l1 l2 l3) t rfl
theorem ly_seq (w : World) (b1 : Nat) (h1 : Has w b1 [fv 150] 191) : LayC w .seq 186 #[pv b1] := by
  refine ⟨en124, fun W db ob wb v d st r g l1 l2 l3 t fi sm => ?_⟩; show Calls prog 186 #[pv db, pv ob, pv b1] W _; exact long2_c 150 8 db ob wb b1 v d.cells st r d.seq fi.q W p102 (h1.kept g (by simp)) (not_of h1.lt l1 l2 l3) t rfl
theorem ly_thr (w : World) (b1 : Nat) (h1 : Has w b1 [fv 152] 194) : LayC w .thr 192 #[pv b1] := by
  refine ⟨en130, fun W db ob wb v d st r g l1 l2 l3 t fi sm => ?_⟩; show Calls prog 192 #[pv db, pv ob, pv b1] W _; exact lever2_c 152 9 db ob wb b1 v d.cells st r d.thr fi.h W p104 (h1.kept g (by simp)) (not_of h1.lt l1 l2 l3) t rfl
theorem ly_turn (w : World) (b1 : Nat) (h1 : Has w b1 [fv 153] 194) : LayC w .turn 192 #[pv b1] := by
  refine ⟨en130, fun W db ob wb v d st r g l1 l2 l3 t fi sm => ?_⟩; show Calls prog 192 #[pv db, pv ob, pv b1] W _; exact lever2_c 153 10 db ob wb b1 v d.cells st r d.turn fi.t W p105 (h1.kept g (by simp)) (not_of h1.lt l1 l2 l3) t rfl
theorem ly_player (w : World) : LayC w .player 147 #[] := by
  refine ⟨en99, fun W db ob wb v d st r g l1 l2 l3 t fi sm => ?_⟩; show Calls prog 147 #[pv db, pv ob] W _; exact player2_c db ob wb v d.cells st r d.player fi.p W t rfl
theorem ly_name (w : World) : LayC w .name 141 #[] := by
  refine ⟨en93, fun W db ob wb v d st r g l1 l2 l3 t fi sm => ?_⟩; show Calls prog 141 #[pv db, pv ob] W _; exact name2_c db ob wb v d.cells st r d.name sm.m W t rfl
theorem ly_view (w : World) : LayC w .view 158 #[] := by
  refine ⟨en110, fun W db ob wb v d st r g l1 l2 l3 t fi sm => ?_⟩; show Calls prog 158 #[pv db, pv ob] W _; exact view2_c db ob wb v d.cells st r d.data sm.dt W t rfl
theorem ly_flags (w : World) : LayC w .flags 155 #[] := by
  refine ⟨en107, fun W db ob wb v d st r g l1 l2 l3 t fi sm => ?_⟩; show Calls prog 155 #[pv db, pv ob] W _; exact flags2_c db ob wb v d.cells st r d.fire d.boost W t rfl rfl
theorem ly_zeros (w : World) (zb : Nat) (hz : Has w zb [.string (ba zero76)] 9) : LayC w .zeros 135 #[pv zb] := by
  refine ⟨en87, fun W db ob wb v d st r g l1 l2 l3 t fi sm => ?_⟩; show Calls prog 135 #[pv db, pv ob, pv zb] W _; have := zeros2_c db ob wb zb v d.cells st r (ba zero76) (by decide) W (hz.kept g (by simp)) (not_of hz.lt l1 l2 l3) t; rw [show sl (ba zero76) = zero76 from sl_mk _] at this; exact this
theorem under57 : ∃ d, prog.underlying 109 = some d ∧ d.isRow = true := ⟨_, underlying109, rfl⟩
theorem info57 : (prog.info? 109).map (·.size) = some 2 := by kernel_rfl
abbrev fc (n : Nat) (c : Array Value) : Value := .func (.func n) #[] c
theorem hs1 (w : World) (x : Obj) : (w.alloc x).heap.size = w.heap.size + 1 := by simp
theorem three (w : World) (a b c : Array Value) (s t u : TypeId) :
    Has (((w.alloc (.cells a s)).alloc (.cells b t)).alloc (.cells c u)) w.heap.size a.toList s ∧ Has (((w.alloc (.cells a s)).alloc (.cells b t)).alloc (.cells c u)) (w.heap.size + 1) b.toList t ∧ Has (((w.alloc (.cells a s)).alloc (.cells b t)).alloc (.cells c u)) (w.heap.size + 1 + 1) c.toList u ∧ w.grownBy (((w.alloc (.cells a s)).alloc (.cells b t)).alloc (.cells c u)) none := by
  refine ⟨((Has.newA w a s).alloc _).alloc _, ?_, ?_, ((gAl _ _ _).trans (gAl _ _ _)).trans (gAl _ _ _)⟩
  · have := (Has.newA (w.alloc (.cells a s)) b t).alloc (.cells c u); rw [hs1] at this; exact this
  · have := Has.newA ((w.alloc (.cells a s)).alloc (.cells b t)) c u; rw [hs1, hs1] at this; exact this
theorem two (w : World) (a b : Array Value) (s t : TypeId) :
    Has ((w.alloc (.cells a s)).alloc (.cells b t)) w.heap.size a.toList s ∧ Has ((w.alloc (.cells a s)).alloc (.cells b t)) (w.heap.size + 1) b.toList t ∧ w.grownBy ((w.alloc (.cells a s)).alloc (.cells b t)) none := by
  refine ⟨(Has.newA w a s).alloc _, ?_, (gAl _ _ _).trans (gAl _ _ _)⟩; have := Has.newA (w.alloc (.cells a s)) b t; rw [hs1] at this; exact this
abbrev MF : Prop := ∀ (fn : Fn) (first cap : Array Value) (w : World), (Instr.makeFunc fn first cap).run prog w = .ok (.func fn first cap) w
theorem fixed_c (n : Int) (pl : Nat) (w : World) :
    Calls prog 130 #[.int .i64 n, fv pl] w fun e w' => ∃ b1 b2, e = .returned (.agg #[fc 180 #[pv b1, pv b2], fc 181 #[pv b2, pv b1]]) ∧ Has w' b1 [.int .i64 n] 3 ∧ Has w' b2 [fv pl] 186 ∧ w.grownBy w' none := by
  have hmf : MF := fun _ _ _ _ => rfl
  obtain ⟨d, hd, hr⟩ := under57; go_enter func130, ntmps130
  go_wp2
  obtain ⟨h1, h2, h3, g⟩ := three w #[.int .i64 n] #[fv pl] #[fc 180 #[pv w.heap.size, pv (w.heap.size + 1)], fc 181 #[pv (w.heap.size + 1), pv w.heap.size]] 3 186 109; exact ret_cell rfl rfl h3 hd hr info57 rfl ⟨w.heap.size, w.heap.size + 1, rfl, h1, h2, g⟩
theorem long_c (pl : Nat) (w : World) :
    Calls prog 136 #[fv pl] w fun e w' => ∃ b1, e = .returned (.agg #[fc 185 #[pv b1], fc 186 #[pv b1]]) ∧ Has w' b1 [fv pl] 191 ∧ w.grownBy w' none := by
  have hmf : MF := fun _ _ _ _ => rfl
  obtain ⟨d, hd, hr⟩ := under57; go_enter func136, ntmps136
  go_wp2
  obtain ⟨h1, h3, g⟩ := two w #[fv pl] #[fc 185 #[pv w.heap.size], fc 186 #[pv w.heap.size]] 191 109; exact ret_cell rfl rfl h3 hd hr info57 rfl ⟨w.heap.size, rfl, h1, g⟩
theorem lever_c (pl : Nat) (w : World) :
    Calls prog 151 #[fv pl] w fun e w' => ∃ b1, e = .returned (.agg #[fc 190 #[pv b1], fc 192 #[pv b1]]) ∧ Has w' b1 [fv pl] 194 ∧ w.grownBy w' none := by
  have hmf : MF := fun _ _ _ _ => rfl
  obtain ⟨d, hd, hr⟩ := under57; go_enter func151, ntmps151
  go_wp2
  obtain ⟨h1, h3, g⟩ := two w #[fv pl] #[fc 190 #[pv w.heap.size], fc 192 #[pv w.heap.size]] 194 109; exact ret_cell rfl rfl h3 hd hr info57 rfl ⟨w.heap.size, rfl, h1, g⟩
def Makes (F : Nat) (f : Fd) : Prop := ∀ w : World, Calls prog F #[] w fun e w' => ∃ vt vl, e = .returned (.agg #[vt, vl]) ∧ FieldC w' f vt vl ∧ w.grownBy w' none
theorem mk_nonce : Makes 73 .nonce := fun w => by
  obtain ⟨d, hd, hr⟩ := under57; go_enter func73, ntmps73; go_wp2_with fail; refine (fixed_c 16 131 _).mono ?_; rintro e w2 ⟨b1, b2, rfl, h1, h2, g⟩; have g3 := g; have h0 : Has w2 w.heap.size [.nilFunc, .nilFunc] 109 := (Has.newA w #[.nilFunc, .nilFunc] 109).kept g (by simp); have hne : b1 ≠ w.heap.size ∧ b2 ≠ w.heap.size := ⟨fun e => (by rw [e] at h1; have := h0.symm.trans h1; simp at this), fun e => (by rw [e] at h2; have := h0.symm.trans h2; simp at this)⟩; have c0 : w2.cell? ⟨w.heap.size, 0, none⟩ = some .nilFunc := h0.cellv 0 _ rfl; have c1 : w2.cell? ⟨w.heap.size, 1, none⟩ = some .nilFunc := h0.cellv 1 _ rfl; have z0 : w2.frozen? ⟨w.heap.size, 0, none⟩ = false := h0.frozen 0; have z1 : w2.frozen? ⟨w.heap.size, 1, none⟩ = false := h0.frozen 1
  have HE : Kp (Has ((w2.setCell ⟨w.heap.size, 0, none⟩ (fc 180 #[pv b1, pv b2])).setCell ⟨w.heap.size, 1, none⟩ (fc 181 #[pv b2, pv b1])) w.heap.size [fc 180 #[pv b1, pv b2], fc 181 #[pv b2, pv b1]] 109 ∧ w.grownBy ((w2.setCell ⟨w.heap.size, 0, none⟩ (fc 180 #[pv b1, pv b2])).setCell ⟨w.heap.size, 1, none⟩ (fc 181 #[pv b2, pv b1])) none ∧ FieldC ((w2.setCell ⟨w.heap.size, 0, none⟩ (fc 180 #[pv b1, pv b2])).setCell ⟨w.heap.size, 1, none⟩ (fc 181 #[pv b2, pv b1])) .nonce (fc 180 #[pv b1, pv b2]) (fc 181 #[pv b2, pv b1])) := by
    have g5 : w2.grownBy ((w2.setCell ⟨w.heap.size, 0, none⟩ (fc 180 #[pv b1, pv b2])).setCell ⟨w.heap.size, 1, none⟩ (fc 181 #[pv b2, pv b1])) (some w.heap.size) := (gr_set _ _ _ _).trans (gr_set _ _ _ _); refine ⟨(h0.setCell 0 (fc 180 #[pv b1, pv b2])).setCell 1 (fc 181 #[pv b2, pv b1]), gr_new ((gAl w (.cells #[.nilFunc, .nilFunc] 109) none).trans g) g5 (Nat.le_refl _), 180, #[pv b1, pv b2], 181, #[pv b2, pv b1], rfl, rfl, ?_, ?_⟩
    · exact tk_nonce _ b1 b2 (h1.kept g5 (by simp; omega)) (h2.kept g5 (by simp; omega))
    · exact ly_nonce _ b1 b2 (h1.kept g5 (by simp; omega)) (h2.kept g5 (by simp; omega))
  clear h0 hne g g3 h1 h2
  go_wp2
  exact ret_cell rfl rfl HE.out.1 hd hr info57 rfl ⟨_, _, rfl, HE.out.2.2, HE.out.2.1⟩
theorem mk_cookie : Makes 76 .cookie := fun w => by
  obtain ⟨d, hd, hr⟩ := under57; go_enter func76, ntmps76; go_wp2_with fail; refine (fixed_c 32 138 _).mono ?_; rintro e w2 ⟨b1, b2, rfl, h1, h2, g⟩; have g3 := g; have h0 : Has w2 w.heap.size [.nilFunc, .nilFunc] 109 := (Has.newA w #[.nilFunc, .nilFunc] 109).kept g (by simp); have hne : b1 ≠ w.heap.size ∧ b2 ≠ w.heap.size := ⟨fun e => (by rw [e] at h1; have := h0.symm.trans h1; simp at this), fun e => (by rw [e] at h2; have := h0.symm.trans h2; simp at this)⟩; have c0 : w2.cell? ⟨w.heap.size, 0, none⟩ = some .nilFunc := h0.cellv 0 _ rfl; have c1 : w2.cell? ⟨w.heap.size, 1, none⟩ = some .nilFunc := h0.cellv 1 _ rfl; have z0 : w2.frozen? ⟨w.heap.size, 0, none⟩ = false := h0.frozen 0; have z1 : w2.frozen? ⟨w.heap.size, 1, none⟩ = false := h0.frozen 1
  have HE : Kp (Has ((w2.setCell ⟨w.heap.size, 0, none⟩ (fc 180 #[pv b1, pv b2])).setCell ⟨w.heap.size, 1, none⟩ (fc 181 #[pv b2, pv b1])) w.heap.size [fc 180 #[pv b1, pv b2], fc 181 #[pv b2, pv b1]] 109 ∧ w.grownBy ((w2.setCell ⟨w.heap.size, 0, none⟩ (fc 180 #[pv b1, pv b2])).setCell ⟨w.heap.size, 1, none⟩ (fc 181 #[pv b2, pv b1])) none ∧ FieldC ((w2.setCell ⟨w.heap.size, 0, none⟩ (fc 180 #[pv b1, pv b2])).setCell ⟨w.heap.size, 1, none⟩ (fc 181 #[pv b2, pv b1])) .cookie (fc 180 #[pv b1, pv b2]) (fc 181 #[pv b2, pv b1])) := by
    have g5 : w2.grownBy ((w2.setCell ⟨w.heap.size, 0, none⟩ (fc 180 #[pv b1, pv b2])).setCell ⟨w.heap.size, 1, none⟩ (fc 181 #[pv b2, pv b1])) (some w.heap.size) := (gr_set _ _ _ _).trans (gr_set _ _ _ _); refine ⟨(h0.setCell 0 (fc 180 #[pv b1, pv b2])).setCell 1 (fc 181 #[pv b2, pv b1]), gr_new ((gAl w (.cells #[.nilFunc, .nilFunc] 109) none).trans g) g5 (Nat.le_refl _), 180, #[pv b1, pv b2], 181, #[pv b2, pv b1], rfl, rfl, ?_, ?_⟩
    · exact tk_cookie _ b1 b2 (h1.kept g5 (by simp; omega)) (h2.kept g5 (by simp; omega))
    · exact ly_cookie _ b1 b2 (h1.kept g5 (by simp; omega)) (h2.kept g5 (by simp; omega))
  clear h0 hne g g3 h1 h2
  go_wp2
  exact ret_cell rfl rfl HE.out.1 hd hr info57 rfl ⟨_, _, rfl, HE.out.2.2, HE.out.2.1⟩
theorem mk_tag : Makes 78 .tag := fun w => by
  obtain ⟨d, hd, hr⟩ := under57; go_enter func78, ntmps78; go_wp2_with fail; refine (fixed_c 32 143 _).mono ?_; rintro e w2 ⟨b1, b2, rfl, h1, h2, g⟩; have g3 := g; have h0 : Has w2 w.heap.size [.nilFunc, .nilFunc] 109 := (Has.newA w #[.nilFunc, .nilFunc] 109).kept g (by simp); have hne : b1 ≠ w.heap.size ∧ b2 ≠ w.heap.size := ⟨fun e => (by rw [e] at h1; have := h0.symm.trans h1; simp at this), fun e => (by rw [e] at h2; have := h0.symm.trans h2; simp at this)⟩; have c0 : w2.cell? ⟨w.heap.size, 0, none⟩ = some .nilFunc := h0.cellv 0 _ rfl; have c1 : w2.cell? ⟨w.heap.size, 1, none⟩ = some .nilFunc := h0.cellv 1 _ rfl; have z0 : w2.frozen? ⟨w.heap.size, 0, none⟩ = false := h0.frozen 0; have z1 : w2.frozen? ⟨w.heap.size, 1, none⟩ = false := h0.frozen 1
  have HE : Kp (Has ((w2.setCell ⟨w.heap.size, 0, none⟩ (fc 180 #[pv b1, pv b2])).setCell ⟨w.heap.size, 1, none⟩ (fc 181 #[pv b2, pv b1])) w.heap.size [fc 180 #[pv b1, pv b2], fc 181 #[pv b2, pv b1]] 109 ∧ w.grownBy ((w2.setCell ⟨w.heap.size, 0, none⟩ (fc 180 #[pv b1, pv b2])).setCell ⟨w.heap.size, 1, none⟩ (fc 181 #[pv b2, pv b1])) none ∧ FieldC ((w2.setCell ⟨w.heap.size, 0, none⟩ (fc 180 #[pv b1, pv b2])).setCell ⟨w.heap.size, 1, none⟩ (fc 181 #[pv b2, pv b1])) .tag (fc 180 #[pv b1, pv b2]) (fc 181 #[pv b2, pv b1])) := by
    have g5 : w2.grownBy ((w2.setCell ⟨w.heap.size, 0, none⟩ (fc 180 #[pv b1, pv b2])).setCell ⟨w.heap.size, 1, none⟩ (fc 181 #[pv b2, pv b1])) (some w.heap.size) := (gr_set _ _ _ _).trans (gr_set _ _ _ _); refine ⟨(h0.setCell 0 (fc 180 #[pv b1, pv b2])).setCell 1 (fc 181 #[pv b2, pv b1]), gr_new ((gAl w (.cells #[.nilFunc, .nilFunc] 109) none).trans g) g5 (Nat.le_refl _), 180, #[pv b1, pv b2], 181, #[pv b2, pv b1], rfl, rfl, ?_, ?_⟩
    · exact tk_tag _ b1 b2 (h1.kept g5 (by simp; omega)) (h2.kept g5 (by simp; omega))
    · exact ly_tag _ b1 b2 (h1.kept g5 (by simp; omega)) (h2.kept g5 (by simp; omega))
  clear h0 hne g g3 h1 h2
  go_wp2
  exact ret_cell rfl rfl HE.out.1 hd hr info57 rfl ⟨_, _, rfl, HE.out.2.2, HE.out.2.1⟩
theorem mk_salt : Makes 81 .salt := fun w => by
  obtain ⟨d, hd, hr⟩ := under57; go_enter func81, ntmps81; go_wp2_with fail; refine (fixed_c 16 149 _).mono ?_; rintro e w2 ⟨b1, b2, rfl, h1, h2, g⟩; have g3 := g; have h0 : Has w2 w.heap.size [.nilFunc, .nilFunc] 109 := (Has.newA w #[.nilFunc, .nilFunc] 109).kept g (by simp); have hne : b1 ≠ w.heap.size ∧ b2 ≠ w.heap.size := ⟨fun e => (by rw [e] at h1; have := h0.symm.trans h1; simp at this), fun e => (by rw [e] at h2; have := h0.symm.trans h2; simp at this)⟩; have c0 : w2.cell? ⟨w.heap.size, 0, none⟩ = some .nilFunc := h0.cellv 0 _ rfl; have c1 : w2.cell? ⟨w.heap.size, 1, none⟩ = some .nilFunc := h0.cellv 1 _ rfl; have z0 : w2.frozen? ⟨w.heap.size, 0, none⟩ = false := h0.frozen 0; have z1 : w2.frozen? ⟨w.heap.size, 1, none⟩ = false := h0.frozen 1
  have HE : Kp (Has ((w2.setCell ⟨w.heap.size, 0, none⟩ (fc 180 #[pv b1, pv b2])).setCell ⟨w.heap.size, 1, none⟩ (fc 181 #[pv b2, pv b1])) w.heap.size [fc 180 #[pv b1, pv b2], fc 181 #[pv b2, pv b1]] 109 ∧ w.grownBy ((w2.setCell ⟨w.heap.size, 0, none⟩ (fc 180 #[pv b1, pv b2])).setCell ⟨w.heap.size, 1, none⟩ (fc 181 #[pv b2, pv b1])) none ∧ FieldC ((w2.setCell ⟨w.heap.size, 0, none⟩ (fc 180 #[pv b1, pv b2])).setCell ⟨w.heap.size, 1, none⟩ (fc 181 #[pv b2, pv b1])) .salt (fc 180 #[pv b1, pv b2]) (fc 181 #[pv b2, pv b1])) := by
    have g5 : w2.grownBy ((w2.setCell ⟨w.heap.size, 0, none⟩ (fc 180 #[pv b1, pv b2])).setCell ⟨w.heap.size, 1, none⟩ (fc 181 #[pv b2, pv b1])) (some w.heap.size) := (gr_set _ _ _ _).trans (gr_set _ _ _ _); refine ⟨(h0.setCell 0 (fc 180 #[pv b1, pv b2])).setCell 1 (fc 181 #[pv b2, pv b1]), gr_new ((gAl w (.cells #[.nilFunc, .nilFunc] 109) none).trans g) g5 (Nat.le_refl _), 180, #[pv b1, pv b2], 181, #[pv b2, pv b1], rfl, rfl, ?_, ?_⟩
    · exact tk_salt _ b1 b2 (h1.kept g5 (by simp; omega)) (h2.kept g5 (by simp; omega))
    · exact ly_salt _ b1 b2 (h1.kept g5 (by simp; omega)) (h2.kept g5 (by simp; omega))
  clear h0 hne g g3 h1 h2
  go_wp2
  exact ret_cell rfl rfl HE.out.1 hd hr info57 rfl ⟨_, _, rfl, HE.out.2.2, HE.out.2.1⟩
theorem mk_epoch : Makes 75 .epoch := fun w => by
  obtain ⟨d, hd, hr⟩ := under57; go_enter func75, ntmps75; go_wp2_with fail; refine (long_c 137 _).mono ?_; rintro e w2 ⟨b1, rfl, h1, g⟩; have g3 := g; have h0 : Has w2 w.heap.size [.nilFunc, .nilFunc] 109 := (Has.newA w #[.nilFunc, .nilFunc] 109).kept g (by simp); have hne : b1 ≠ w.heap.size := fun e => (by rw [e] at h1; have := h0.symm.trans h1; simp at this)
  have c0 : w2.cell? ⟨w.heap.size, 0, none⟩ = some .nilFunc := h0.cellv 0 _ rfl; have c1 : w2.cell? ⟨w.heap.size, 1, none⟩ = some .nilFunc := h0.cellv 1 _ rfl; have z0 : w2.frozen? ⟨w.heap.size, 0, none⟩ = false := h0.frozen 0; have z1 : w2.frozen? ⟨w.heap.size, 1, none⟩ = false := h0.frozen 1
  have HE : Kp (Has ((w2.setCell ⟨w.heap.size, 0, none⟩ (fc 185 #[pv b1])).setCell ⟨w.heap.size, 1, none⟩ (fc 186 #[pv b1])) w.heap.size [fc 185 #[pv b1], fc 186 #[pv b1]] 109 ∧ w.grownBy ((w2.setCell ⟨w.heap.size, 0, none⟩ (fc 185 #[pv b1])).setCell ⟨w.heap.size, 1, none⟩ (fc 186 #[pv b1])) none ∧ FieldC ((w2.setCell ⟨w.heap.size, 0, none⟩ (fc 185 #[pv b1])).setCell ⟨w.heap.size, 1, none⟩ (fc 186 #[pv b1])) .epoch (fc 185 #[pv b1]) (fc 186 #[pv b1])) := by
    have g5 : w2.grownBy ((w2.setCell ⟨w.heap.size, 0, none⟩ (fc 185 #[pv b1])).setCell ⟨w.heap.size, 1, none⟩ (fc 186 #[pv b1])) (some w.heap.size) := (gr_set _ _ _ _).trans (gr_set _ _ _ _); refine ⟨(h0.setCell 0 (fc 185 #[pv b1])).setCell 1 (fc 186 #[pv b1]), gr_new ((gAl w (.cells #[.nilFunc, .nilFunc] 109) none).trans g) g5 (Nat.le_refl _), 185, #[pv b1], 186, #[pv b1], rfl, rfl, ?_, ?_⟩
    · exact tk_epoch _ b1 (h1.kept g5 (by simp; omega))
    · exact ly_epoch _ b1 (h1.kept g5 (by simp; omega))
  clear h0 hne g g3 h1
  go_wp2
  exact ret_cell rfl rfl HE.out.1 hd hr info57 rfl ⟨_, _, rfl, HE.out.2.2, HE.out.2.1⟩
theorem mk_session : Makes 79 .session := fun w => by
  obtain ⟨d, hd, hr⟩ := under57; go_enter func79, ntmps79; go_wp2_with fail; refine (long_c 144 _).mono ?_; rintro e w2 ⟨b1, rfl, h1, g⟩; have g3 := g; have h0 : Has w2 w.heap.size [.nilFunc, .nilFunc] 109 := (Has.newA w #[.nilFunc, .nilFunc] 109).kept g (by simp); have hne : b1 ≠ w.heap.size := fun e => (by rw [e] at h1; have := h0.symm.trans h1; simp at this)
  have c0 : w2.cell? ⟨w.heap.size, 0, none⟩ = some .nilFunc := h0.cellv 0 _ rfl; have c1 : w2.cell? ⟨w.heap.size, 1, none⟩ = some .nilFunc := h0.cellv 1 _ rfl; have z0 : w2.frozen? ⟨w.heap.size, 0, none⟩ = false := h0.frozen 0; have z1 : w2.frozen? ⟨w.heap.size, 1, none⟩ = false := h0.frozen 1
  have HE : Kp (Has ((w2.setCell ⟨w.heap.size, 0, none⟩ (fc 185 #[pv b1])).setCell ⟨w.heap.size, 1, none⟩ (fc 186 #[pv b1])) w.heap.size [fc 185 #[pv b1], fc 186 #[pv b1]] 109 ∧ w.grownBy ((w2.setCell ⟨w.heap.size, 0, none⟩ (fc 185 #[pv b1])).setCell ⟨w.heap.size, 1, none⟩ (fc 186 #[pv b1])) none ∧ FieldC ((w2.setCell ⟨w.heap.size, 0, none⟩ (fc 185 #[pv b1])).setCell ⟨w.heap.size, 1, none⟩ (fc 186 #[pv b1])) .session (fc 185 #[pv b1]) (fc 186 #[pv b1])) := by
    have g5 : w2.grownBy ((w2.setCell ⟨w.heap.size, 0, none⟩ (fc 185 #[pv b1])).setCell ⟨w.heap.size, 1, none⟩ (fc 186 #[pv b1])) (some w.heap.size) := (gr_set _ _ _ _).trans (gr_set _ _ _ _); refine ⟨(h0.setCell 0 (fc 185 #[pv b1])).setCell 1 (fc 186 #[pv b1]), gr_new ((gAl w (.cells #[.nilFunc, .nilFunc] 109) none).trans g) g5 (Nat.le_refl _), 185, #[pv b1], 186, #[pv b1], rfl, rfl, ?_, ?_⟩
    · exact tk_session _ b1 (h1.kept g5 (by simp; omega))
    · exact ly_session _ b1 (h1.kept g5 (by simp; omega))
  clear h0 hne g g3 h1
  go_wp2
  exact ret_cell rfl rfl HE.out.1 hd hr info57 rfl ⟨_, _, rfl, HE.out.2.2, HE.out.2.1⟩
theorem mk_seq : Makes 82 .seq := fun w => by
  obtain ⟨d, hd, hr⟩ := under57; go_enter func82, ntmps82; go_wp2_with fail; refine (long_c 150 _).mono ?_; rintro e w2 ⟨b1, rfl, h1, g⟩; have g3 := g; have h0 : Has w2 w.heap.size [.nilFunc, .nilFunc] 109 := (Has.newA w #[.nilFunc, .nilFunc] 109).kept g (by simp); have hne : b1 ≠ w.heap.size := fun e => (by rw [e] at h1; have := h0.symm.trans h1; simp at this)
  have c0 : w2.cell? ⟨w.heap.size, 0, none⟩ = some .nilFunc := h0.cellv 0 _ rfl; have c1 : w2.cell? ⟨w.heap.size, 1, none⟩ = some .nilFunc := h0.cellv 1 _ rfl; have z0 : w2.frozen? ⟨w.heap.size, 0, none⟩ = false := h0.frozen 0; have z1 : w2.frozen? ⟨w.heap.size, 1, none⟩ = false := h0.frozen 1
  have HE : Kp (Has ((w2.setCell ⟨w.heap.size, 0, none⟩ (fc 185 #[pv b1])).setCell ⟨w.heap.size, 1, none⟩ (fc 186 #[pv b1])) w.heap.size [fc 185 #[pv b1], fc 186 #[pv b1]] 109 ∧ w.grownBy ((w2.setCell ⟨w.heap.size, 0, none⟩ (fc 185 #[pv b1])).setCell ⟨w.heap.size, 1, none⟩ (fc 186 #[pv b1])) none ∧ FieldC ((w2.setCell ⟨w.heap.size, 0, none⟩ (fc 185 #[pv b1])).setCell ⟨w.heap.size, 1, none⟩ (fc 186 #[pv b1])) .seq (fc 185 #[pv b1]) (fc 186 #[pv b1])) := by
    have g5 : w2.grownBy ((w2.setCell ⟨w.heap.size, 0, none⟩ (fc 185 #[pv b1])).setCell ⟨w.heap.size, 1, none⟩ (fc 186 #[pv b1])) (some w.heap.size) := (gr_set _ _ _ _).trans (gr_set _ _ _ _); refine ⟨(h0.setCell 0 (fc 185 #[pv b1])).setCell 1 (fc 186 #[pv b1]), gr_new ((gAl w (.cells #[.nilFunc, .nilFunc] 109) none).trans g) g5 (Nat.le_refl _), 185, #[pv b1], 186, #[pv b1], rfl, rfl, ?_, ?_⟩
    · exact tk_seq _ b1 (h1.kept g5 (by simp; omega))
    · exact ly_seq _ b1 (h1.kept g5 (by simp; omega))
  clear h0 hne g g3 h1
  go_wp2
  exact ret_cell rfl rfl HE.out.1 hd hr info57 rfl ⟨_, _, rfl, HE.out.2.2, HE.out.2.1⟩
theorem mk_thr : Makes 83 .thr := fun w => by
  obtain ⟨d, hd, hr⟩ := under57; go_enter func83, ntmps83; go_wp2_with fail; refine (lever_c 152 _).mono ?_; rintro e w2 ⟨b1, rfl, h1, g⟩; have g3 := g; have h0 : Has w2 w.heap.size [.nilFunc, .nilFunc] 109 := (Has.newA w #[.nilFunc, .nilFunc] 109).kept g (by simp); have hne : b1 ≠ w.heap.size := fun e => (by rw [e] at h1; have := h0.symm.trans h1; simp at this)
  have c0 : w2.cell? ⟨w.heap.size, 0, none⟩ = some .nilFunc := h0.cellv 0 _ rfl; have c1 : w2.cell? ⟨w.heap.size, 1, none⟩ = some .nilFunc := h0.cellv 1 _ rfl; have z0 : w2.frozen? ⟨w.heap.size, 0, none⟩ = false := h0.frozen 0; have z1 : w2.frozen? ⟨w.heap.size, 1, none⟩ = false := h0.frozen 1
  have HE : Kp (Has ((w2.setCell ⟨w.heap.size, 0, none⟩ (fc 190 #[pv b1])).setCell ⟨w.heap.size, 1, none⟩ (fc 192 #[pv b1])) w.heap.size [fc 190 #[pv b1], fc 192 #[pv b1]] 109 ∧ w.grownBy ((w2.setCell ⟨w.heap.size, 0, none⟩ (fc 190 #[pv b1])).setCell ⟨w.heap.size, 1, none⟩ (fc 192 #[pv b1])) none ∧ FieldC ((w2.setCell ⟨w.heap.size, 0, none⟩ (fc 190 #[pv b1])).setCell ⟨w.heap.size, 1, none⟩ (fc 192 #[pv b1])) .thr (fc 190 #[pv b1]) (fc 192 #[pv b1])) := by
    have g5 : w2.grownBy ((w2.setCell ⟨w.heap.size, 0, none⟩ (fc 190 #[pv b1])).setCell ⟨w.heap.size, 1, none⟩ (fc 192 #[pv b1])) (some w.heap.size) := (gr_set _ _ _ _).trans (gr_set _ _ _ _); refine ⟨(h0.setCell 0 (fc 190 #[pv b1])).setCell 1 (fc 192 #[pv b1]), gr_new ((gAl w (.cells #[.nilFunc, .nilFunc] 109) none).trans g) g5 (Nat.le_refl _), 190, #[pv b1], 192, #[pv b1], rfl, rfl, ?_, ?_⟩
    · exact tk_thr _ b1 (h1.kept g5 (by simp; omega))
    · exact ly_thr _ b1 (h1.kept g5 (by simp; omega))
  clear h0 hne g g3 h1
  go_wp2
  exact ret_cell rfl rfl HE.out.1 hd hr info57 rfl ⟨_, _, rfl, HE.out.2.2, HE.out.2.1⟩
theorem mk_turn : Makes 84 .turn := fun w => by
  obtain ⟨d, hd, hr⟩ := under57; go_enter func84, ntmps84; go_wp2_with fail; refine (lever_c 153 _).mono ?_; rintro e w2 ⟨b1, rfl, h1, g⟩; have g3 := g; have h0 : Has w2 w.heap.size [.nilFunc, .nilFunc] 109 := (Has.newA w #[.nilFunc, .nilFunc] 109).kept g (by simp); have hne : b1 ≠ w.heap.size := fun e => (by rw [e] at h1; have := h0.symm.trans h1; simp at this)
  have c0 : w2.cell? ⟨w.heap.size, 0, none⟩ = some .nilFunc := h0.cellv 0 _ rfl; have c1 : w2.cell? ⟨w.heap.size, 1, none⟩ = some .nilFunc := h0.cellv 1 _ rfl; have z0 : w2.frozen? ⟨w.heap.size, 0, none⟩ = false := h0.frozen 0; have z1 : w2.frozen? ⟨w.heap.size, 1, none⟩ = false := h0.frozen 1
  have HE : Kp (Has ((w2.setCell ⟨w.heap.size, 0, none⟩ (fc 190 #[pv b1])).setCell ⟨w.heap.size, 1, none⟩ (fc 192 #[pv b1])) w.heap.size [fc 190 #[pv b1], fc 192 #[pv b1]] 109 ∧ w.grownBy ((w2.setCell ⟨w.heap.size, 0, none⟩ (fc 190 #[pv b1])).setCell ⟨w.heap.size, 1, none⟩ (fc 192 #[pv b1])) none ∧ FieldC ((w2.setCell ⟨w.heap.size, 0, none⟩ (fc 190 #[pv b1])).setCell ⟨w.heap.size, 1, none⟩ (fc 192 #[pv b1])) .turn (fc 190 #[pv b1]) (fc 192 #[pv b1])) := by
    have g5 : w2.grownBy ((w2.setCell ⟨w.heap.size, 0, none⟩ (fc 190 #[pv b1])).setCell ⟨w.heap.size, 1, none⟩ (fc 192 #[pv b1])) (some w.heap.size) := (gr_set _ _ _ _).trans (gr_set _ _ _ _); refine ⟨(h0.setCell 0 (fc 190 #[pv b1])).setCell 1 (fc 192 #[pv b1]), gr_new ((gAl w (.cells #[.nilFunc, .nilFunc] 109) none).trans g) g5 (Nat.le_refl _), 190, #[pv b1], 192, #[pv b1], rfl, rfl, ?_, ?_⟩
    · exact tk_turn _ b1 (h1.kept g5 (by simp; omega))
    · exact ly_turn _ b1 (h1.kept g5 (by simp; omega))
  clear h0 hne g g3 h1
  go_wp2
  exact ret_cell rfl rfl HE.out.1 hd hr info57 rfl ⟨_, _, rfl, HE.out.2.2, HE.out.2.1⟩
theorem mk_player : Makes 80 .player := fun w => by
  obtain ⟨d, hd, hr⟩ := under57; go_enter func80, ntmps80
  go_wp2
  exact ret_cell rfl rfl (Has.newA w #[fv 145, fv 147] 109) hd hr info57 rfl ⟨fv 145, fv 147, rfl, ⟨145, #[], 147, #[], rfl, rfl, tk_player _, ly_player _⟩, gAl _ _ _⟩
theorem mk_flags : Makes 85 .flags := fun w => by
  obtain ⟨d, hd, hr⟩ := under57; go_enter func85, ntmps85
  go_wp2
  exact ret_cell rfl rfl (Has.newA w #[fv 154, fv 155] 109) hd hr info57 rfl ⟨fv 154, fv 155, rfl, ⟨154, #[], 155, #[], rfl, rfl, tk_flags _, ly_flags _⟩, gAl _ _ _⟩
theorem mk_name : Makes 77 .name := fun w => by
  obtain ⟨d, hd, hr⟩ := under57; go_enter func77, ntmps77
  go_wp2
  exact ret_cell rfl rfl (Has.newA w #[fv 139, fv 141] 109) hd hr info57 rfl ⟨fv 139, fv 141, rfl, ⟨139, #[], 141, #[], rfl, rfl, tk_name _, ly_name _⟩, gAl _ _ _⟩
theorem mk_view : Makes 86 .view := fun w => by
  obtain ⟨d, hd, hr⟩ := under57; go_enter func86, ntmps86
  go_wp2
  exact ret_cell rfl rfl (Has.newA w #[fv 156, fv 158] 109) hd hr info57 rfl ⟨fv 156, fv 158, rfl, ⟨156, #[], 158, #[], rfl, rfl, tk_view _, ly_view _⟩, gAl _ _ _⟩
end Go.Proofs.YtldnpebnpbahjaaGreatDoor.Pk
