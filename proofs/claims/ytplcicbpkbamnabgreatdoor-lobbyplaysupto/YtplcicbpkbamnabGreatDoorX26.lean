import Derived.Test.YtplcicbpkbamnabGreatDoorX25
/- lobby: Join begins a session. -/
namespace Go.Proofs.YtplcicbpkbamnabGreatDoor.Lo
open Go Go.RowKit Go.Maps

set_option maxRecDepth 100000 in
set_option maxHeartbeats 16000000 in
theorem join_yes (w0 W : World) (l : List As) (lb : Nat) (X : Lb) (fr nonce salt nm : ByteArray) (tick : Nat) (h : Sep w0 W (lobA lb X :: l)) (ok : LbOk X) (hk : Na.Kc W) (hs : nm.size ≤ 281474976710656) (ac : Nat) (hno : fdI X.A nm = some ac) (x : Ac) (hx : X.A[ac]? = some x) (hkm : Kc w0) (hnn : nonce.size ≤ 281474976710656) (hns : salt.size ≤ 281474976710656) (hnf : fr.size ≤ 281474976710656) (hpl : plyS X ac = false) (hfl : X.S.length < X.most) (hxn : X.next < 1000000) :
    Calls Tryz.prog 14 #[pt lb, .string fr, .string nonce, .string salt, .string nm, uv tick] W fun e W' => e = .returned (.tuple #[.agg (lvc (joiE X fr nonce salt nm tick ac)).toArray, iv 0]) ∧ Sep w0 W' (lobA lb { X with next := X.next + 1, S := X.S ++ [joiE X fr nonce salt nm tick ac] } :: l) := by
  obtain ⟨du, hdu, hdr⟩ := under42
  have S0 := h.newBox z7.toArray 49
  obtain ⟨W1, hW1⟩ : ∃ W1, W.alloc (.cells z7.toArray 49) = W1 := ⟨_, rfl⟩
  obtain ⟨rb, hrb⟩ : ∃ rb, W.heap.size = rb := ⟨_, rfl⟩
  have hk1 : Na.Kc W1 := by rw [← hW1]; exact hk.kept (World.grownBy_alloc _ _ _)
  rw [hW1, hrb] at S0
  change Sep w0 W1 (boxA rb z7 49 :: lobA lb X :: l) at S0
  have HZ1 := Keep.mk z7_one
  obtain ⟨⟨v, mb, P⟩, S0⟩ := S0.swap.opn
  have c5 : W1.cell? ⟨lb, 5, none⟩ = some v := (S0.boxGet k1m).cellv 5 _ rfl
  have hA : AcR W1 v X.A := acr_of ok.a1 (S0.rowGet k2m)
  have hF := find_c W1 v X.A nm hA hk1 hs ok.a2
  obtain ⟨a, cap, hve, _⟩ := hA.o
  subst hve
  have HS : Keep (∀ W', W1.grownBy W' none → Sep w0 W' (boxA rb z7 49 :: lobA lb X :: l)) := ⟨fun W' g => (Sep.cls (lobL lb X) (_, mb, P) (S0.grown g)).swap⟩
  have HXN := Keep.mk hxn
  clear hxn
  rw [hno] at hF
  simp only [idv] at hF
  unfold z7 at hW1
  have HPL : Keep (plyS X ac = false ∧ LbOk X ∧ X.S.length < X.most) := ⟨hpl, ok, hfl⟩
  have HX := Keep.mk (And.intro hx (And.intro hnn (And.intro hns (And.intro hnf hs))))
  have HKM := Keep.mk hkm
  clear hx hnn hns hnf hs hkm
  clear h S0 hA hno ok hk hk1 hpl hfl
  go_enter Tryz.func14, Tryz.ntmps14
  go_wp2_with fail
  refine hF.mono ?_
  rintro e w1 ⟨rfl, g1⟩
  have HS1 := Keep.mk (HS.out w1 g1)
  have hP := plays_c w0 w1 _ lb X ac HS1.out.swap HPL.out.2.1
  rw [HPL.out.1] at hP
  clear hF g1 HS c5 HS1
  go_wp2_with fail
  refine hP.mono ?_
  rintro e w2 ⟨rfl, S2⟩
  have HS1 := Keep.mk (S2.swap.grown (gr_drew w2 none))
  have HRB := Keep.mk (HS1.out.boxGet k0m)
  obtain ⟨⟨v2, mb2, P2⟩, S3⟩ := S2.opn
  have S3d := S3.grown (gr_drew w2 none)
  have c7 : w2.cell? ⟨lb, 7, none⟩ = some (.map (some mb2)) := (S3.boxGet k1m).cellv 7 _ rfl
  have c0 : w2.cell? ⟨lb, 0, none⟩ = some (iv (X.most : Nat)) := (S3.boxGet k1m).cellv 0 _ rfl
  have hP2 : P2.map (fun p => p.2) = X.S := S3.fact k0m
  have hlen := (S3d.mapGet k3m : MapIs w2.drew mb2 _).len 3
  rw [List.length_map, show P2.length = X.S.length by rw [← hP2, List.length_map]] at hlen
  have hge : ¬ (X.most ≤ X.S.length) := by have := HPL.out.2.2; omega
  have HS3 := Keep.mk S3d
  clear hP S2 S3 S3d hP2
  go_wp2_with fail
  go_region
  go_wp2_with fail
  clear HRB HS1 c7 c0 hlen hge hW1 hrb
  generalize w2.drew = w3 at HS3 ⊢
  have SD := HS3.out.grown (gr_drew w3 none)
  obtain ⟨hal, _⟩ := List.getElem?_eq_some_iff.1 HX.out.1
  obtain ⟨n, hn⟩ : ∃ n, X.A.length = n := ⟨_, rfl⟩
  obtain ⟨g, cap2, rfl, hrk0⟩ : ∃ g cap2, v2 = .slice (some ⟨g, 0, none⟩) n cap2 ∧ ∀ W', Sep w0 W' (lobL lb X (v2, mb2, P2) ++ (boxA rb z7 49 :: l)) → W'.rangeAt g (ac * 33 + 1) (x.sc.map b8) := by
    obtain ⟨a', cap', e1, hq⟩ := (acr_of HPL.out.2.1.a1 (SD.rowGet k2m) : AcR w3.drew v2 X.A).o
    obtain ⟨g, hg, _⟩ := hq (by omega)
    refine ⟨g, cap', by rw [e1, hg, hn], fun W' hS' => ?_⟩
    obtain ⟨a2, cap2, e2, hq2⟩ := (acr_of HPL.out.2.1.a1 (hS'.rowGet k2m) : AcR W' v2 X.A).o
    obtain ⟨g2, hg2, hq3⟩ := hq2 (by omega)
    rw [e1] at e2
    injection e2 with e3 _ _
    rw [hg, hg2] at e3
    injection e3 with e4
    injection e4 with e5
    subst e5
    have hrg := hq3 ac x HX.out.1
    intro j v hv
    have := hrg (j + 1) v (by simpa [acv] using hv)
    rw [show ac * 33 + 1 + j = ac * 33 + (j + 1) by omega]
    exact this
  have HSF : Keep (∀ W', Sep w0 W' (lobL lb X (.slice (some ⟨g, 0, none⟩) n cap2, mb2, P2) ++ (boxA rb z7 49 :: l)) → (W'.cell? ⟨lb, 2, none⟩ = some (iv X.r) ∧ W'.cell? ⟨lb, 3, none⟩ = some (iv X.u) ∧ W'.cell? ⟨lb, 4, none⟩ = some (iv (16 * X.u)) ∧ W'.cell? ⟨lb, 5, none⟩ = some (.slice (some ⟨g, 0, none⟩) n cap2) ∧ W'.cell? ⟨lb, 6, none⟩ = some (uv X.next)) ∧ W'.rangeAt g (ac * 33 + 1) (x.sc.map b8)) := ⟨fun W' hS' => ⟨⟨(hS'.boxGet k1m).cellv 2 _ rfl, (hS'.boxGet k1m).cellv 3 _ rfl, (hS'.boxGet k1m).cellv 4 _ rfl, (hS'.boxGet k1m).cellv 5 _ rfl, (hS'.boxGet k1m).cellv 6 _ rfl⟩, hrk0 W' hS'⟩⟩
  clear hrk0
  have hi0 : (0 : Int) ≤ (ac : Int) := by omega
  have hi1 : (ac : Int) < (n : Nat) := by omega
  have hti : ((ac : Nat) : Int).toNat = ac := by omega
  refine wp_region_held_drew (S := fun W' => (W'.cell? ⟨lb, 2, none⟩ = some (iv X.r) ∧ W'.cell? ⟨lb, 3, none⟩ = some (iv X.u) ∧ W'.cell? ⟨lb, 4, none⟩ = some (iv (16 * X.u)) ∧ W'.cell? ⟨lb, 5, none⟩ = some (.slice (some ⟨g, 0, none⟩) n cap2) ∧ W'.cell? ⟨lb, 6, none⟩ = some (uv X.next)) ∧ W'.rangeAt g (ac * 33 + 1) (x.sc.map b8)) (by kernel_rfl) (HSF.out _ SD) (fun hHeld => ?_)
  generalize w3.drew = w4 at SD hHeld ⊢
  clear HS3
  refine wpAnyH_take (i := 0) (oi := _) (v := ?_) rfl (by kernel_rfl) (by kernel_rfl) (by kernel_rfl) (fun _ _ _ h => h) (Or.inl ⟨by rfl, ?_⟩) (by assumption) ?_
  rotate_left
  · (intro w hSw; obtain ⟨⟨y2, y3, y4, y5, y6⟩, _⟩ := hSw; go_simp; first | done | (with_reducible rfl))
  simp only [Act.put, List.getElem_toArray, List.getElem_cons_zero, List.setIfInBounds_toArray, List.set_cons_zero, List.set_cons_succ]
  refine wpAnyH_take (i := 1) (oi := _) (v := ?_) rfl (by kernel_rfl) (by kernel_rfl) (by kernel_rfl) (fun _ _ _ h => h) (Or.inl ⟨by rfl, ?_⟩) (by assumption) ?_
  rotate_left
  · (intro w hSw; obtain ⟨⟨y2, y3, y4, y5, y6⟩, _⟩ := hSw; go_simp; first | done | (with_reducible rfl))
  simp only [Act.put, List.getElem_toArray, List.getElem_cons_succ, List.getElem_cons_zero, List.setIfInBounds_toArray, List.set_cons_zero, List.set_cons_succ]
  refine wpAnyH_take (i := 2) (oi := _) (v := ?_) rfl (by kernel_rfl) (by kernel_rfl) (by kernel_rfl) (fun _ _ _ h => h) (Or.inl ⟨by rfl, ?_⟩) (by assumption) ?_
  rotate_left
  · (intro w hSw; obtain ⟨⟨y2, y3, y4, y5, y6⟩, _⟩ := hSw; go_simp; first | done | (with_reducible rfl))
  simp only [Act.put, List.getElem_toArray, List.getElem_cons_succ, List.getElem_cons_zero, List.setIfInBounds_toArray, List.set_cons_zero, List.set_cons_succ]
  refine wpAnyH_take (i := 3) (oi := _) (v := ?_) rfl (by kernel_rfl) (by kernel_rfl) (by kernel_rfl) (fun _ _ _ h => h) (Or.inl ⟨by rfl, ?_⟩) (by assumption) ?_
  rotate_left
  · (intro w hSw; obtain ⟨⟨y2, y3, y4, y5, y6⟩, _⟩ := hSw; go_simp; first | done | (with_reducible rfl))
  simp only [Act.put, List.getElem_toArray, List.getElem_cons_succ, List.getElem_cons_zero, List.setIfInBounds_toArray, List.set_cons_zero, List.set_cons_succ]
  refine wpAnyH_take (i := 4) (oi := _) (v := ?_) rfl (by kernel_rfl) (by kernel_rfl) (by kernel_rfl) (fun _ _ _ h => h) (Or.inl ⟨by rfl, ?_⟩) (by assumption) ?_
  rotate_left
  · (intro w hSw; obtain ⟨⟨y2, y3, y4, y5, y6⟩, _⟩ := hSw; go_simp; first | done | (with_reducible rfl))
  simp only [Act.put, List.getElem_toArray, List.getElem_cons_succ, List.getElem_cons_zero, List.setIfInBounds_toArray, List.set_cons_zero, List.set_cons_succ]
  refine wpAnyH_take (i := 6) (oi := _) (v := ?_) rfl (by kernel_rfl) (by kernel_rfl) (by kernel_rfl) (fun _ _ _ h => h) (Or.inl ⟨by rfl, ?_⟩) (by assumption) ?_
  rotate_left
  · (intro w hSw; obtain ⟨⟨y2, y3, y4, y5, y6⟩, _⟩ := hSw; go_simp; first | done | (with_reducible rfl))
  simp only [Act.put, List.getElem_toArray, List.getElem_cons_succ, List.getElem_cons_zero, List.setIfInBounds_toArray, List.set_cons_zero, List.set_cons_succ]
  refine wpAnyH_take (i := 7) (oi := _) (v := ?_) rfl (by kernel_rfl) (by kernel_rfl) (by kernel_rfl) (fun _ _ _ h => h) (Or.inl ⟨by rfl, ?_⟩) (by assumption) ?_
  rotate_left
  · (intro w hSw; obtain ⟨⟨y2, y3, y4, y5, y6⟩, _⟩ := hSw; go_simp; first | done | (with_reducible rfl))
  simp only [Act.put, List.getElem_toArray, List.getElem_cons_succ, List.getElem_cons_zero, List.setIfInBounds_toArray, List.set_cons_zero, List.set_cons_succ]
  refine wpAnyH_take (i := 8) (oi := _) (v := ?_) rfl (by kernel_rfl) (by kernel_rfl) (by kernel_rfl) (fun _ _ _ h => h) (Or.inl ⟨by rfl, ?_⟩) (by assumption) ?_
  rotate_left
  · (intro w hSw; obtain ⟨⟨y2, y3, y4, y5, y6⟩, _⟩ := hSw; go_simp; first | done | (with_reducible rfl))
  simp only [Act.put, List.getElem_toArray, List.getElem_cons_succ, List.getElem_cons_zero, List.setIfInBounds_toArray, List.set_cons_zero, List.set_cons_succ]
  refine wpAnyH_take (i := 11) (oi := _) (v := ?_) rfl (by kernel_rfl) (by kernel_rfl) (by kernel_rfl) (fun _ _ _ h => h) (Or.inl ⟨by rfl, ?_⟩) (by assumption) ?_
  rotate_left
  · (intro w hSw; obtain ⟨⟨y2, y3, y4, y5, y6⟩, _⟩ := hSw; go_simp; first | done | (with_reducible rfl))
  simp only [Act.put, List.getElem_toArray, List.getElem_cons_succ, List.getElem_cons_zero, List.setIfInBounds_toArray, List.set_cons_zero, List.set_cons_succ]
  refine wpAnyH_take (i := 12) (oi := _) (v := ?_) rfl (by kernel_rfl) (by kernel_rfl) (by kernel_rfl) (fun _ _ _ h => h) (Or.inl ⟨by rfl, ?_⟩) (by assumption) ?_
  rotate_left
  · (intro w hSw; obtain ⟨⟨y2, y3, y4, y5, y6⟩, _⟩ := hSw; go_simp; first | done | (with_reducible rfl))
  simp only [Act.put, List.getElem_toArray, List.getElem_cons_succ, List.getElem_cons_zero, List.setIfInBounds_toArray, List.set_cons_zero, List.set_cons_succ]
  refine wpAnyH_take (i := 13) (oi := _) (v := ?_) rfl (by kernel_rfl) (by kernel_rfl) (by kernel_rfl) (fun _ _ _ h => h) (Or.inl ⟨by rfl, ?_⟩) (by assumption) ?_
  rotate_left
  · (intro w hSw; obtain ⟨⟨y2, y3, y4, y5, y6⟩, _⟩ := hSw; go_simp; first | done | (with_reducible rfl))
  simp only [Act.put, List.getElem_toArray, List.getElem_cons_succ, List.getElem_cons_zero, List.setIfInBounds_toArray, List.set_cons_zero, List.set_cons_succ]
  refine wpAnyH_take (i := 14) (oi := _) (v := ?_) rfl (by kernel_rfl) (by kernel_rfl) (by kernel_rfl) (fun _ _ _ h => h) (Or.inl ⟨by rfl, ?_⟩) (by assumption) ?_
  rotate_left
  · (intro w hSw; obtain ⟨⟨y2, y3, y4, y5, y6⟩, _⟩ := hSw; go_simp; first | done | (with_reducible rfl))
  simp only [Act.put, List.getElem_toArray, List.getElem_cons_succ, List.getElem_cons_zero, List.setIfInBounds_toArray, List.set_cons_zero, List.set_cons_succ]
  refine wpAnyH_take (i := 15) (oi := _) (v := ?_) rfl (by kernel_rfl) (by kernel_rfl) (by kernel_rfl) (fun _ _ _ h => h) (Or.inl ⟨by rfl, ?_⟩) (by assumption) ?_
  rotate_left
  · (intro w hSw; obtain ⟨⟨y2, y3, y4, y5, y6⟩, _⟩ := hSw; go_simp; first | done | (with_reducible rfl))
  simp only [Act.put, List.getElem_toArray, List.getElem_cons_succ, List.getElem_cons_zero, List.setIfInBounds_toArray, List.set_cons_zero, List.set_cons_succ]
  refine wpAnyH_take (i := 16) (oi := _) (v := ?_) rfl (by kernel_rfl) (by kernel_rfl) (by kernel_rfl) (fun _ _ _ h => h) (Or.inl ⟨by rfl, ?_⟩) (by assumption) ?_
  rotate_left
  · (intro w hSw; obtain ⟨⟨y2, y3, y4, y5, y6⟩, _⟩ := hSw; go_simp; first | done | (with_reducible rfl))
  simp only [Act.put, List.getElem_toArray, List.getElem_cons_succ, List.getElem_cons_zero, List.setIfInBounds_toArray, List.set_cons_zero, List.set_cons_succ]
  refine wpAnyH_take (i := 17) (oi := _) (v := ?_) rfl (by kernel_rfl) (by kernel_rfl) (by kernel_rfl) (fun _ _ _ h => h) (Or.inl ⟨by rfl, ?_⟩) (by assumption) ?_
  rotate_left
  · (intro w hSw; obtain ⟨⟨y2, y3, y4, y5, y6⟩, _⟩ := hSw; go_simp; first | done | (with_reducible rfl))
  simp only [Act.put, List.getElem_toArray, List.getElem_cons_succ, List.getElem_cons_zero, List.setIfInBounds_toArray, List.set_cons_zero, List.set_cons_succ]
  refine wpAnyH_take (i := 18) (oi := _) (v := ?_) rfl (by kernel_rfl) (by kernel_rfl) (by kernel_rfl) (fun _ _ _ h => h) (Or.inl ⟨by rfl, ?_⟩) (by assumption) ?_
  rotate_left
  · (intro w hSw; obtain ⟨⟨y2, y3, y4, y5, y6⟩, _⟩ := hSw; go_simp; first | done | (with_reducible rfl))
  simp only [Act.put, List.getElem_toArray, List.getElem_cons_succ, List.getElem_cons_zero, List.setIfInBounds_toArray, List.set_cons_zero, List.set_cons_succ]
  have HI85 : Keep ((Tryz.prog.info? 102).map (·.size) = some (x.sc.map b8).length) := ⟨by rw [List.length_map, HPL.out.2.1.a1 x (List.mem_of_getElem? HX.out.1)]; kernel_rfl⟩
  refine wpAnyH_take (i := 19) (oi := _) (v := .agg (x.sc.map b8).toArray) rfl (by kernel_rfl) (by kernel_rfl) (by kernel_rfl) (fun _ _ _ h => h) (yieldsIf_load_mid (by rfl) 102 _ rfl g (ac * 33 + 1) rfl _ _ (fun _ h => h.2) Tryz.underlying102 rfl HI85.out) (by assumption) ?_
  simp only [Act.put, List.getElem_toArray, List.getElem_cons_succ, List.getElem_cons_zero, List.setIfInBounds_toArray, List.set_cons_zero, List.set_cons_succ]
  refine wpAnyH_take (i := 20) (oi := _) (v := ?_) rfl (by kernel_rfl) (by kernel_rfl) (by kernel_rfl) (fun _ _ _ h => h) (Or.inl ⟨by rfl, ?_⟩) (by assumption) ?_
  rotate_left
  · (intro w hSw; obtain ⟨⟨y2, y3, y4, y5, y6⟩, _⟩ := hSw; go_simp; first | done | (with_reducible rfl))
  simp only [Act.put, List.getElem_toArray, List.getElem_cons_succ, List.getElem_cons_zero, List.setIfInBounds_toArray, List.set_cons_zero, List.set_cons_succ]
  refine wpAnyH_take (i := 21) (oi := _) (v := ?_) rfl (by kernel_rfl) (by kernel_rfl) (by kernel_rfl) (fun _ _ _ h => h) (Or.inl ⟨by rfl, ?_⟩) (by assumption) ?_
  rotate_left
  · (intro w hSw; obtain ⟨⟨y2, y3, y4, y5, y6⟩, _⟩ := hSw; go_simp; first | done | (with_reducible rfl))
  simp only [Act.put, List.getElem_toArray, List.getElem_cons_succ, List.getElem_cons_zero, List.setIfInBounds_toArray, List.set_cons_zero, List.set_cons_succ]
  refine wpAnyH_take (i := 22) (oi := _) (v := ?_) rfl (by kernel_rfl) (by kernel_rfl) (by kernel_rfl) (fun _ _ _ h => h) (Or.inl ⟨by rfl, ?_⟩) (by assumption) ?_
  rotate_left
  · (intro w hSw; obtain ⟨⟨y2, y3, y4, y5, y6⟩, _⟩ := hSw; go_simp; first | done | (with_reducible rfl))
  simp only [Act.put, List.getElem_toArray, List.getElem_cons_succ, List.getElem_cons_zero, List.setIfInBounds_toArray, List.set_cons_zero, List.set_cons_succ]
  refine wpAnyH_take (i := 23) (oi := _) (v := ?_) rfl (by kernel_rfl) (by kernel_rfl) (by kernel_rfl) (fun _ _ _ h => h) (Or.inl ⟨by rfl, ?_⟩) (by assumption) ?_
  rotate_left
  · (intro w hSw; obtain ⟨⟨y2, y3, y4, y5, y6⟩, _⟩ := hSw; go_simp; first | done | (with_reducible rfl))
  simp only [Act.put, List.getElem_toArray, List.getElem_cons_succ, List.getElem_cons_zero, List.setIfInBounds_toArray, List.set_cons_zero, List.set_cons_succ]
  refine wpAnyH_take (i := 24) (oi := _) (v := ?_) rfl (by kernel_rfl) (by kernel_rfl) (by kernel_rfl) (fun _ _ _ h => h) (Or.inl ⟨by rfl, ?_⟩) (by assumption) ?_
  rotate_left
  · (intro w hSw; obtain ⟨⟨y2, y3, y4, y5, y6⟩, _⟩ := hSw; go_simp; first | done | (with_reducible rfl))
  simp only [Act.put, List.getElem_toArray, List.getElem_cons_succ, List.getElem_cons_zero, List.setIfInBounds_toArray, List.set_cons_zero, List.set_cons_succ]
  refine wpAnyH_take (i := 25) (oi := _) (v := ?_) rfl (by kernel_rfl) (by kernel_rfl) (by kernel_rfl) (fun _ _ _ h => h) (Or.inl ⟨by rfl, ?_⟩) (by assumption) ?_
  rotate_left
  · (intro w hSw; obtain ⟨⟨y2, y3, y4, y5, y6⟩, _⟩ := hSw; go_simp; first | done | (with_reducible rfl))
  simp only [Act.put, List.getElem_toArray, List.getElem_cons_succ, List.getElem_cons_zero, List.setIfInBounds_toArray, List.set_cons_zero, List.set_cons_succ]
  refine wpAnyH_take (i := 27) (oi := _) (v := ?_) rfl (by kernel_rfl) (by kernel_rfl) (by kernel_rfl) (fun _ _ _ h => h) (Or.inl ⟨by rfl, ?_⟩) (by assumption) ?_
  rotate_left
  · (intro w hSw; obtain ⟨⟨y2, y3, y4, y5, y6⟩, _⟩ := hSw; go_simp; first | done | (with_reducible rfl))
  simp only [Act.put, List.getElem_toArray, List.getElem_cons_succ, List.getElem_cons_zero, List.setIfInBounds_toArray, List.set_cons_zero, List.set_cons_succ]
  refine wpAnyH_take (i := 28) (oi := _) (v := ?_) rfl (by kernel_rfl) (by kernel_rfl) (by kernel_rfl) (fun _ _ _ h => h) (Or.inl ⟨by rfl, ?_⟩) (by assumption) ?_
  rotate_left
  · (intro w hSw; obtain ⟨⟨y2, y3, y4, y5, y6⟩, _⟩ := hSw; go_simp; first | done | (with_reducible rfl))
  simp only [Act.put, List.getElem_toArray, List.getElem_cons_succ, List.getElem_cons_zero, List.setIfInBounds_toArray, List.set_cons_zero, List.set_cons_succ]
  refine wpAnyH_take (i := 29) (oi := _) (v := ?_) rfl (by kernel_rfl) (by kernel_rfl) (by kernel_rfl) (fun _ _ _ h => h) (Or.inl ⟨by rfl, ?_⟩) (by assumption) ?_
  rotate_left
  · (intro w hSw; obtain ⟨⟨y2, y3, y4, y5, y6⟩, _⟩ := hSw; go_simp; first | done | (with_reducible rfl))
  simp only [Act.put, List.getElem_toArray, List.getElem_cons_succ, List.getElem_cons_zero, List.setIfInBounds_toArray, List.set_cons_zero, List.set_cons_succ]
  refine wpAnyH_take (i := 30) (oi := _) (v := ?_) rfl (by kernel_rfl) (by kernel_rfl) (by kernel_rfl) (fun _ _ _ h => h) (Or.inl ⟨by rfl, ?_⟩) (by assumption) ?_
  rotate_left
  · (intro w hSw; obtain ⟨⟨y2, y3, y4, y5, y6⟩, _⟩ := hSw; go_simp; first | done | (with_reducible rfl))
  simp only [Act.put, List.getElem_toArray, List.getElem_cons_succ, List.getElem_cons_zero, List.setIfInBounds_toArray, List.set_cons_zero, List.set_cons_succ]
  refine wpAnyH_ready (rs := [5]) (by kernel_rfl) (by simp) ?_
  refine AllReadyH.cons rfl (fun K hK => ?_) AllReadyH.nil
  have hC := free_o w0 w4 _ lb X _ mb2 P2 SD HPL.out.2.1
  go_simp
  go_wp2_with fail
  refine hC.mono ?_
  rintro e w5 ⟨rfl, S5⟩
  refine hK.out _ _ (HSF.out _ S5) (fun hHeld => ?_)
  clear hK K hC SD
  refine wpAnyH_take (i := 9) (oi := _) (v := ?_) rfl (by kernel_rfl) (by kernel_rfl) (by kernel_rfl) (fun _ _ _ h => h) (Or.inl ⟨by rfl, ?_⟩) (by assumption) ?_
  rotate_left
  · (intro w hSw; obtain ⟨⟨y2, y3, y4, y5, y6⟩, _⟩ := hSw; go_simp; first | done | (with_reducible rfl))
  simp only [Act.put, List.getElem_toArray, List.getElem_cons_succ, List.getElem_cons_zero, List.setIfInBounds_toArray, List.set_cons_zero, List.set_cons_succ]
  refine wpAnyH_ready (rs := [10]) (by kernel_rfl) (by simp) ?_
  refine AllReadyH.cons rfl (fun K hK => ?_) AllReadyH.nil
  obtain ⟨fp, hfp, _, _, _⟩ := frS_at X HPL.out.2.2 HPL.out.2.1.m2
  have hC := live_c w5 (joiE X fr nonce salt nm tick ac) HX.out.2.2.2.2 HX.out.2.2.2.1
  have hlc : lvc (joiE X fr nonce salt nm tick ac) = [uv X.next, .int .i64 (frS X), .string nm, .string fr, uv tick, uv 0, uv 0] := by
    unfold lvc joiE
    rw [hfp]; rfl
  rw [hlc] at hC
  have HSE := Keep.mk (hse X fr nonce salt nm tick ac x HX.out.1 hlc)
  clear hlc hfp
  go_simp
  go_wp2_with fail
  refine hC.mono ?_
  rintro e w6 ⟨rfl, g6⟩
  have S6 := S5.grown g6
  refine hK.out _ _ (HSF.out _ S6) (fun hHeld => ?_)
  clear hK K hC S5
  refine wpAnyH_ready (rs := [26]) (by kernel_rfl) (by simp) ?_
  refine AllReadyH.cons rfl (fun K hK => ?_) AllReadyH.nil
  have hC := drv_c x.sc nonce salt X.next w6 (HKM.out.kept S6.g (by simp)) (HPL.out.2.1.a1 x (List.mem_of_getElem? HX.out.1)) HX.out.2.1 HX.out.2.2.1
  go_simp
  go_wp2_with fail
  refine hC.mono ?_
  rintro e w7 ⟨rfl, g7⟩
  have S7 := S6.grown g7
  refine hK.out _ _ (HSF.out _ S7) (fun hHeld => ?_)
  clear hK K hC S6
  have hdl : ((drv x.sc nonce salt X.next).map b8).length = 32 := by rw [List.length_map]; exact sl_drv _ _ _
  have hbu := built97 (uv X.next) (.int .i64 (frS X)) (.string nm) (.string fr) (uv tick) (uv 0) (uv 0) (iv X.r) (iv X.u) (iv (16 * X.u)) (ac : Nat) ((drv x.sc nonce salt X.next).map b8) hdl
  rw [← HSE.out] at hbu
  refine wpAnyH_take (i := 31) (oi := _) (v := .agg (sev X.r X.u (joiE X fr nonce salt nm tick ac)).toArray) rfl (by kernel_rfl) (by kernel_rfl) (by kernel_rfl) (fun _ _ _ h => h) (yieldsIf_build (by rfl) 109 _ rfl _ ?_) (by assumption) ?_
  · refine (congrArg (Tryz.prog.built 109) ?_).trans hbu
    simp only [List.map_toArray, List.map_cons, List.map_nil]
    rfl
  simp only [Act.put, List.getElem_toArray, List.getElem_cons_succ, List.getElem_cons_zero, List.setIfInBounds_toArray, List.set_cons_zero, List.set_cons_succ]
  clear hbu
  obtain ⟨ev, hev⟩ : ∃ ev, sev X.r X.u (joiE X fr nonce salt nm tick ac) = ev := ⟨_, rfl⟩
  have hsz : ev.length = 45 := by rw [← hev, HSE.out, List.length_append, List.length_append, hdl]; rfl
  clear hdl
  rw [hev]
  refine wpAnyH_ready (rs := [32]) (by kernel_rfl) (by simp) ?_
  refine AllReadyH.cons rfl (fun K hK => ?_) AllReadyH.nil
  go_simp
  have S8 := S7.newBox ev.toArray 109
  refine hK.out _ _ (HSF.out _ S8.tail) (fun hHeld => ?_)
  clear hK K hHeld
  refine wpAnyH_ready (rs := [33]) (by kernel_rfl) (by simp) ?_
  refine AllReadyH.cons rfl (fun K hK => ?_) AllReadyH.nil
  go_simp
  refine hK.out _ _ (HSF.out _ S8.tail) (fun hHeld => ?_)
  clear hK K hHeld
  refine wpAnyH_done (by kernel_rfl) ?_ _
  obtain ⟨kb, hkb⟩ : ∃ k, w7.heap.size = k := ⟨_, rfl⟩
  obtain ⟨w8, hw8⟩ : ∃ w, w7.alloc (.cells ev.toArray 109) = w := ⟨_, rfl⟩
  rw [hkb, hw8] at S8
  rw [hkb, hw8]
  clear hkb hw8 S7
  change Sep w0 w8 (boxA kb ev 109 :: _) at S8
  rw [← hev] at S8
  have SD := S8.grown (gr_drew w8 none)
  have HSE2 : Keep (∀ W', Sep w0 W' (boxA kb (sev X.r X.u (joiE X fr nonce salt nm tick ac)) 109 :: (lobL lb X (.slice (some ⟨g, 0, none⟩) n cap2, mb2, P2) ++ (boxA rb z7 49 :: l))) → W'.cell? ⟨lb, 7, none⟩ = some (.map (some mb2)) ∧ W'.cell? ⟨lb, 6, none⟩ = some (uv X.next)) := ⟨fun W' hS' => ⟨(hS'.boxGet k2m).cellv 7 _ rfl, (hS'.boxGet k2m).cellv 6 _ rfl⟩⟩
  have HL9 := Keep.mk (lob_new SD rfl HPL.out.2.1 HXN.out)
  have HS8 := Keep.mk S8
  clear S8
  go_wp2_with fail
  refine wp_region_held_drew (S := fun W' => W'.cell? ⟨lb, 7, none⟩ = some (.map (some mb2)) ∧ W'.cell? ⟨lb, 6, none⟩ = some (uv X.next)) (by kernel_rfl) (HSE2.out _ SD) (fun hHeld => ?_)
  clear SD
  refine wpAnyH_take (i := 0) (oi := _) (v := ?_) rfl (by kernel_rfl) (by kernel_rfl) (by kernel_rfl) (fun _ _ _ h => h) (Or.inl ⟨by rfl, ?_⟩) (by assumption) ?_
  rotate_left
  · (intro w hSw; obtain ⟨y7, y6⟩ := hSw; go_simp; first | done | (with_reducible rfl))
  simp only [Act.put, List.getElem_toArray, List.getElem_cons_zero, List.setIfInBounds_toArray, List.set_cons_zero, List.set_cons_succ]
  refine wpAnyH_take (i := 1) (oi := _) (v := ?_) rfl (by kernel_rfl) (by kernel_rfl) (by kernel_rfl) (fun _ _ _ h => h) (Or.inl ⟨by rfl, ?_⟩) (by assumption) ?_
  rotate_left
  · (intro w hSw; obtain ⟨y7, y6⟩ := hSw; go_simp; first | done | (with_reducible rfl))
  simp only [Act.put, List.getElem_toArray, List.getElem_cons_succ, List.getElem_cons_zero, List.setIfInBounds_toArray, List.set_cons_zero, List.set_cons_succ]
  refine wpAnyH_take (i := 2) (oi := _) (v := ?_) rfl (by kernel_rfl) (by kernel_rfl) (by kernel_rfl) (fun _ _ _ h => h) (Or.inl ⟨by rfl, ?_⟩) (by assumption) ?_
  rotate_left
  · (intro w hSw; obtain ⟨y7, y6⟩ := hSw; go_simp; first | done | (with_reducible rfl))
  simp only [Act.put, List.getElem_toArray, List.getElem_cons_succ, List.getElem_cons_zero, List.setIfInBounds_toArray, List.set_cons_zero, List.set_cons_succ]
  refine wpAnyH_take (i := 3) (oi := _) (v := ?_) rfl (by kernel_rfl) (by kernel_rfl) (by kernel_rfl) (fun _ _ _ h => h) (Or.inl ⟨by rfl, ?_⟩) (by assumption) ?_
  rotate_left
  · (intro w hSw; obtain ⟨y7, y6⟩ := hSw; go_simp; first | done | (with_reducible rfl))
  simp only [Act.put, List.getElem_toArray, List.getElem_cons_succ, List.getElem_cons_zero, List.setIfInBounds_toArray, List.set_cons_zero, List.set_cons_succ]
  refine wpAnyH_take (i := 4) (oi := _) (v := ?_) rfl (by kernel_rfl) (by kernel_rfl) (by kernel_rfl) (fun _ _ _ h => h) (Or.inl ⟨by rfl, ?_⟩) (by assumption) ?_
  rotate_left
  · (intro w hSw; obtain ⟨y7, y6⟩ := hSw; go_simp; first | done | (with_reducible rfl))
  simp only [Act.put, List.getElem_toArray, List.getElem_cons_succ, List.getElem_cons_zero, List.setIfInBounds_toArray, List.set_cons_zero, List.set_cons_succ]
  refine wpAnyH_take (i := 5) (oi := _) (v := ?_) rfl (by kernel_rfl) (by kernel_rfl) (by kernel_rfl) (fun _ _ _ h => h) (Or.inl ⟨by rfl, ?_⟩) (by assumption) ?_
  rotate_left
  · (intro w hSw; obtain ⟨y7, y6⟩ := hSw; go_simp; first | done | (with_reducible rfl))
  simp only [Act.put, List.getElem_toArray, List.getElem_cons_succ, List.getElem_cons_zero, List.setIfInBounds_toArray, List.set_cons_zero, List.set_cons_succ]
  refine wpAnyH_take (i := 6) (oi := _) (v := ?_) rfl (by kernel_rfl) (by kernel_rfl) (by kernel_rfl) (fun _ _ _ h => h) (Or.inl ⟨by rfl, ?_⟩) (by assumption) ?_
  rotate_left
  · (intro w hSw; obtain ⟨y7, y6⟩ := hSw; go_simp; first | done | (with_reducible rfl))
  simp only [Act.put, List.getElem_toArray, List.getElem_cons_succ, List.getElem_cons_zero, List.setIfInBounds_toArray, List.set_cons_zero, List.set_cons_succ]
  refine wpAnyH_take (i := 7) (oi := _) (v := ?_) rfl (by kernel_rfl) (by kernel_rfl) (by kernel_rfl) (fun _ _ _ h => h) (Or.inl ⟨by rfl, ?_⟩) (by assumption) ?_
  rotate_left
  · (intro w hSw; obtain ⟨y7, y6⟩ := hSw; go_simp; first | done | (with_reducible rfl))
  simp only [Act.put, List.getElem_toArray, List.getElem_cons_succ, List.getElem_cons_zero, List.setIfInBounds_toArray, List.set_cons_zero, List.set_cons_succ]
  refine wpAnyH_take (i := 8) (oi := _) (v := ?_) rfl (by kernel_rfl) (by kernel_rfl) (by kernel_rfl) (fun _ _ _ h => h) (Or.inl ⟨by rfl, ?_⟩) (by assumption) ?_
  rotate_left
  · (intro w hSw; obtain ⟨y7, y6⟩ := hSw; go_simp; first | done | (with_reducible rfl))
  simp only [Act.put, List.getElem_toArray, List.getElem_cons_succ, List.getElem_cons_zero, List.setIfInBounds_toArray, List.set_cons_zero, List.set_cons_succ]
  obtain ⟨W9, hole, r1, r2, r3⟩ := HL9.out
  have HR2 := Keep.mk r2
  have HR3 := Keep.mk r3
  clear r2 r3 HL9
  refine wpAnyH_ready (rs := [9]) (by kernel_rfl) (by simp) ?_
  refine AllReadyH.cons rfl (fun K hK => ?_) AllReadyH.nil
  go_simp
  obtain ⟨c6, c7, f6, S10⟩ := HR2.out W9 (World.grownBy.refl _ _)
  refine hK.out _ _ ⟨c7, c6⟩ (fun hHeld => ?_)
  clear hK K hHeld
  refine wpAnyH_done (by kernel_rfl) ?_ _
  have hwn : IntKind.u64.wrap (((X.next : Nat) : Int) + 1) = ((X.next + 1 : Nat) : Int) := by
    have := HXN.out
    unfold IntKind.wrap; simp [IntKind.signed, IntKind.bits]; omega
  have hT := tell_c w0 _ kb X.r X.u (joiE X fr nonce salt nm tick ac) _ S10 HX.out.2.2.2.2 HX.out.2.2.2.1
  have ec : uv (X.next + 1) = .int .u64 ((X.next : Int) + 1) := by
    show Value.int .u64 ((X.next + 1 : Nat) : Int) = _
    congr 1
  rw [ec] at hT
  clear c7 S10 ec
  have HL1 := Keep.mk (lvc_one (joiE X fr nonce salt nm tick ac))
  have HL7 : Keep ((lvc (joiE X fr nonce salt nm tick ac)).length = 7) := ⟨rfl⟩
  obtain ⟨lv, hlv⟩ : ∃ lv, lvc (joiE X fr nonce salt nm tick ac) = lv := ⟨_, rfl⟩
  rw [hlv] at HL1 HL7 hT
  have HLV := Keep.mk hlv
  clear hlv
  go_wp2_with fail
  refine hT.mono ?_
  rintro e w11 ⟨rfl, S11⟩
  have S12 : Sep w0 w11 (boxA rb z7 49 :: ((boxA kb (sev X.r X.u (joiE X fr nonce salt nm tick ac)) 109 :: hole) ++ l)) := fr1 (boxA kb (sev X.r X.u (joiE X fr nonce salt nm tick ac)) 109 :: hole) S11
  have HRB := Keep.mk (S12.boxGet k0m)
  have HS12 := Keep.mk S12
  clear hT S11 S12 c6 f6
  go_wp2_with (first
    | (show wpList _ _ _ ({ dst := _, op := Op.store 49 _ _, type := _, pos := _, after := _, guard := _ } :: _) _ _
       refine store_box _ rb z7 lv 49 rfl rfl rfl rfl HRB.out (by rw [HL7.out]; rfl) (by rw [HL7.out]; exact info42) HL1.out ?_))
  intro w13 hS13 g13
  have HS13 := Keep.mk (hS13 _ _ HS12.out)
  clear hS13 g13 HRB HS12
  go_wp2_with fail
  refine Bu.ret_ct rfl rfl (HS13.out.boxGet k0m) hdu hdr (by rw [HL7.out]; exact info42) rfl ?_
  rw [HLV.out]
  exact ⟨rfl, HR3.out _ _ HS13.out.tail⟩
end Go.Proofs.YtplcicbpkbamnabGreatDoor.Lo

