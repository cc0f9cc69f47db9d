import Derived.Test.YtplcicbpkbamnaaDoorX22
/- LobbyKeys' walk -/
namespace Go.Proofs.YtplcicbpkbamnaaDoor.Lo
open Go Go.RowKit Go.Maps

/-- a script as it is handed in -/
structure SrO (W : World) (v : Value) (L : List Opr) : Prop where
  o : ∃ a cap, v = .slice a L.length cap ∧ (0 < L.length → ∃ g o, a = some ⟨g, o, none⟩ ∧ ∀ (j : Nat) (x : Opr), L[j]? = some x → W.rangeAt g (o + j * 10) (opv x))
  s : ∀ x ∈ L, OpOk x
theorem SrO.kept {W W' : World} {v : Value} {L : List Opr} (h : SrO W v L) (g : W.grownBy W' none) : SrO W' v L := by
  obtain ⟨a, cap, e, q⟩ := h.o
  refine ⟨⟨a, cap, e, fun hn => ?_⟩, h.s⟩
  obtain ⟨b, o, e1, q⟩ := q hn
  exact ⟨b, o, e1, fun j x hx i v hv => g.cell (q j x hx i v hv) (by simp)⟩
set_option maxRecDepth 100000 in
theorem fld24 (ab : Nat) (W : World) : (Instr.field 24 (.agg #[iv 2, iv 0, iv 8, iv 2, iv 0, iv 0, iv 3, iv 0, iv 0, iv 0, .string ⟨#[]⟩, .string ⟨#[]⟩, .slice (some ⟨ab, 0, none⟩) 3 3]) 12).run Tryd.prog W = .ok (.slice (some ⟨ab, 0, none⟩) 3 3) W := by kernel_rfl
abbrev sBob : ByteArray := ⟨#[66, 111, 98]⟩
set_option maxRecDepth 100000 in
theorem a_cpy : cpyL pP = some aA := by kernel_rfl
set_option maxRecDepth 100000 in
theorem a_bob : fdI aA sBob = some 1 := by kernel_rfl
theorem new_A {c : Cf} {X : Lb} (h : newL c pP = some X) : X.A = aA := by
  unfold newL at h
  split at h
  · rw [a_cpy] at h
    simp only [Option.map_some, Option.some.injEq] at h
    rw [← h]
  · cases h
/-- Bob begins the first session -/
theorem bob_one {c : Cf} {X : Lb} (h : newL c pP = some X) (t0 t1 t2 : ByteArray) (hf : t0.size ≤ 281474976710656) : ∃ e, joiS X t0 t1 t2 sBob 5 = some e ∧ joiC X sBob = 0 ∧ e.num = 1 ∧ LbOk (joiX X t0 t1 t2 sBob 5) ∧ Up (joiX X t0 t1 t2 sBob 5) ∧ One (joiX X t0 t1 t2 sBob 5) (drv (rep 98) t1 t2 1) t0 ∧ fds (joiX X t0 t1 t2 sBob 5) 1 = some e ∧ (joiX X t0 t1 t2 sBob 5).next = 2 ∧ (joiX X t0 t1 t2 sBob 5).A = aA := by
  obtain ⟨ok, up, hS, hn⟩ := new_ok h
  have hA := new_A h
  have hfd : fdI X.A sBob = some 1 := by rw [hA]; exact a_bob
  have hp : plyS X 1 = false := by unfold plyS; rw [hS]; rfl
  have hl : X.S.length < X.most := by rw [hS]; exact ok.m1
  have q := joi_yes hfd hp hl t0 t1 t2 5
  have hX : joiX X t0 t1 t2 sBob 5 = { X with next := X.next + 1, S := X.S ++ [joiE X t0 t1 t2 sBob 5 1] } := by unfold joiX; rw [q.2]
  refine ⟨_, q.2, q.1, hn, ok.join (by rw [hn]; omega) (by decide) (by decide) hf (fun a z => fdI_lt z), up.join ok .., ?_, ?_, ?_, ?_⟩
  · rw [hX]
    refine ⟨by show 2 ≤ X.next + 1; omega, fun s hs _ => ?_⟩
    have hs' : s ∈ X.S ++ [joiE X t0 t1 t2 sBob 5 1] := hs
    rw [hS, List.nil_append, List.mem_singleton] at hs'
    subst hs'
    refine ⟨?_, rfl⟩
    show drv (((X.A[1]?).map Ac.sc).getD []) t1 t2 X.next = _
    rw [hA, hn]
    rfl
  · rw [hX]
    show (X.S ++ [joiE X t0 t1 t2 sBob 5 1]).find? _ = _
    rw [hS, List.nil_append, List.find?_cons]
    have : (joiE X t0 t1 t2 sBob 5 1).num = 1 := hn
    simp [this]
  · rw [hX]; show X.next + 1 = 2; omega
  · rw [hX]; exact hA
theorem act_A {X : Lb} {o : Opr} : (actX X o).A = X.A := by
  unfold actX
  split
  · unfold joiX; split <;> rfl
  · split
    · unfold acpX; cases fds X o.ses <;> rfl
    · split
      · unfold levX; cases fds X o.ses <;> rfl
      · split
        · rfl
        · split
          · rfl
          · split
            · unfold sntX; cases fds X o.ses <;> rfl
            · rfl
theorem under50 : ∃ d, Tryd.prog.underlying 50 = some d ∧ d.isRow = true := ⟨_, Tryd.underlying50, rfl⟩
theorem info50 : (Tryd.prog.info? 50).map (·.size) = some 10 := by kernel_rfl
abbrev sBOB : ByteArray := ⟨#[66, 79, 66]⟩
set_option maxRecDepth 100000 in
theorem a_BOB : fdI aA sBOB = some 1 := by kernel_rfl
theorem lev_A {X : Lb} {k : Nat} : (levX X k).A = X.A ∧ (levX X k).next = X.next := by
  unfold levX; cases fds X k <;> exact ⟨rfl, rfl⟩
/-- Bob again -/
theorem bob_again {Y : Lb} (hA : Y.A = aA) (ok : LbOk Y) (hn : 2 ≤ Y.next) (h1 : fds Y 1 = none) (t0 t1 t2 : ByteArray) : (joiS Y t0 t1 t2 sBOB 5 = none ∧ joiC Y sBOB ≠ 0 ∧ joiX Y t0 t1 t2 sBOB 5 = Y) ∨ ∃ e, joiS Y t0 t1 t2 sBOB 5 = some e ∧ joiC Y sBOB = 0 ∧ e.num = Y.next ∧ fds (joiX Y t0 t1 t2 sBOB 5) 1 = none ∧ keyS (joiX Y t0 t1 t2 sBOB 5) Y.next = txt (drv (rep 98) t1 t2 Y.next) := by
  have hfd : fdI Y.A sBOB = some 1 := by rw [hA]; exact a_BOB
  cases hp : plyS Y 1 with
  | true =>
    have q := joi_taken hfd hp t0 t1 t2 5
    exact .inl ⟨q.2, by rw [q.1]; decide, by unfold joiX; rw [q.2]⟩
  | false =>
    by_cases hl : Y.most ≤ Y.S.length
    · have q := joi_full hfd hp hl t0 t1 t2 5
      exact .inl ⟨q.2, by rw [q.1]; decide, by unfold joiX; rw [q.2]⟩
    · have q := joi_yes hfd hp (Nat.lt_of_not_le hl) t0 t1 t2 5
      refine .inr ⟨_, q.2, q.1, rfl, ?_, ?_⟩
      · unfold joiX
        rw [q.2]
        show (Y.S ++ [joiE Y t0 t1 t2 sBOB 5 1]).find? _ = none
        rw [List.find?_append]
        have e1 : Y.S.find? (fun s => decide (s.num = 1)) = none := h1
        rw [e1, List.find?_cons]
        have e2 : decide ((joiE Y t0 t1 t2 sBOB 5 1).num = 1) = false := decide_eq_false (by show ¬ Y.next = 1; omega)
        rw [e2]
        rfl
      · unfold joiX
        rw [q.2]
        unfold keyS fds
        show (((Y.S ++ [joiE Y t0 t1 t2 sBOB 5 1]).find? fun s => decide (s.num = Y.next)).map fun s => txt s.key).getD _ = _
        have e1 : Y.S.find? (fun s => decide (s.num = Y.next)) = none := by
          rw [List.find?_eq_none]
          intro z hz
          have := (ok.s z hz).2.1
          simp only [decide_eq_true_eq]
          omega
        rw [List.find?_append, e1, List.find?_cons]
        have e2 : decide ((joiE Y t0 t1 t2 sBOB 5 1).num = Y.next) = true := decide_eq_true rfl
        rw [e2]
        show txt (drv (((Y.A[1]?).map Ac.sc).getD []) t1 t2 Y.next) = _
        rw [hA]
        rfl
theorem cfv_len (c : Cf) (v : Value) : (cfv c v).toList.length = 13 := rfl
set_option maxRecDepth 100000 in
set_option maxHeartbeats 16000000 in
theorem keys_c (w : World) (c : Cf) (v sv : Value) (t0 t1 t2 t3 : ByteArray) (L : List Opr) (hn : Na.Kc w) (hk : Kc w) (hs : SrO w sv L) (h0 : t0.size ≤ 281474976710656) (h1 : t1.size ≤ 281474976710656) (h2 : t2.size ≤ 281474976710656) :
    Calls Tryd.prog 4 #[.agg (cfv c v), .agg #[.string t0, .string t1, .string t2, .string t3], sv] w fun e w' => e = .returned (.bool true) ∧ w.grownBy w' none := by
  obtain ⟨du, hdu, hdr⟩ := under24
  obtain ⟨du2, hdu2, hdr2⟩ := under42
  have S2 := ((Sep.nil w).newBox (cfv c v) 24).newBox #[.string t0, .string t1, .string t2, .string t3] 37
  obtain ⟨W1, hW1⟩ : ∃ W1, w.alloc (.cells (cfv c v) 24) = W1 := ⟨_, rfl⟩
  obtain ⟨cb, hcb⟩ : ∃ cb, w.heap.size = cb := ⟨_, rfl⟩
  rw [hW1, hcb] at S2
  obtain ⟨W2, hW2⟩ : ∃ W2, W1.alloc (.cells #[.string t0, .string t1, .string t2, .string t3] 37) = W2 := ⟨_, rfl⟩
  obtain ⟨xb, hxb⟩ : ∃ xb, W1.heap.size = xb := ⟨_, rfl⟩
  rw [hW2, hxb] at S2
  have HS2 : Keep (Sep w W2 [boxA cb (cfv c v).toList 24, boxA xb [.string t0, .string t1, .string t2, .string t3] 37]) := ⟨S2.swap⟩
  have HKK : Keep (∀ W l, Sep w W l → Na.Kc W ∧ Kc W) := ⟨fun W l h => ⟨hn.kept h.g, hk.kept h.g (by simp)⟩⟩
  have HNK := Keep.mk (And.intro hn (And.intro hk (And.intro hs (And.intro h0 (And.intro h1 h2)))))
  have hA := alive_c W2 (HKK.out _ _ S2).1 (HKK.out _ _ S2).2
  have HCV : Keep ((cfv c v).toList.length = 13 ∧ ∀ u, (cfv c v).toList.set 12 u = (cfv c u).toList) := ⟨rfl, fun _ => rfl⟩
  generalize hcv : cfv c v = cv at hW1 HS2 HCV ⊢
  clear hcv S2 hn hk hs h0 h1 h2
  go_enter Tryd.func4, Tryd.ntmps4
  go_wp2_with fail
  refine hA.mono ?_
  rintro e w3 ⟨rfl, g3⟩
  have S3 := HS2.out.grown g3
  have hP := plain_s w3
  have HS3 := Keep.mk S3
  clear hA g3 HS2 hW1 hcb hW2 hxb S3
  go_wp2_with fail
  refine hP.mono ?_
  rintro e w4 ⟨ab, rfl, S4'⟩
  have S4 : Sep w w4 (boxA ab pcs 27 :: boxA cb cv.toList 24 :: boxA xb [.string t0, .string t1, .string t2, .string t3] 37 :: []) := HS3.out.ovr S4'
  clear hP S4' HS3
  have hfl := fld24 ab w4
  rw [show cfv pc (.slice (some ⟨ab, 0, none⟩) 3 3) = #[iv 2, iv 0, iv 8, iv 2, iv 0, iv 0, iv 3, iv 0, iv 0, iv 0, .string ⟨#[]⟩, .string ⟨#[]⟩, (.slice (some ⟨ab, 0, none⟩) 3 3)] from rfl]
  obtain ⟨y, hy⟩ : ∃ y, cv.toList[12]? = some y := ⟨_, List.getElem?_eq_getElem (by rw [HCV.out.1]; omega)⟩
  have c12 : w4.cell? ⟨cb, 12, none⟩ = some y := (S4.boxGet k1m).cellv 12 _ hy
  have f12 : w4.frozen? ⟨cb, 12, none⟩ = false := (S4.boxGet k1m).frozen 12
  have S5 := S4.swap.boxPut 12 (.slice (some ⟨ab, 0, none⟩) 3 3)
  rw [HCV.out.2] at S5
  obtain ⟨w5, hw5⟩ : ∃ w5, w4.setCell ⟨cb, 12, none⟩ (.slice (some ⟨ab, 0, none⟩) 3 3) = w5 := ⟨_, rfl⟩
  rw [hw5] at S5
  have hN := new_c w5 c (.slice (some ⟨ab, 0, none⟩) 3 3) pP (pcs_in (S5.boxGet k1m)) (HKK.out _ _ S5).1
  have RNG := Keep.mk (S5.boxGet k0m).range
  have HCL : Keep ((cfv c (.slice (some ⟨ab, 0, none⟩) 3 3)).toList.length = 13) := ⟨rfl⟩
  have hcl : (cfv c (.slice (some ⟨ab, 0, none⟩) 3 3)) = (cfv c (.slice (some ⟨ab, 0, none⟩) 3 3)).toList.toArray := rfl
  rw [hcl] at hN
  generalize (cfv c (.slice (some ⟨ab, 0, none⟩) 3 3)).toList = cl at hN RNG HCL S5
  have HS5 := Keep.mk S5
  clear S4 hy HCV S5 hcl
  cases hX : newL c pP with
  | none =>
    rw [hX] at hN
    go_wp2_with (first
      | (show wpList _ _ _ ({ dst := _, op := Op.load 24 _, type := _, pos := _, after := _, guard := _ } :: _) _ _
         refine wpList_load_mid rfl 24 _ rfl _ _ rfl _ _ RNG.out hdu hdr (by rw [HCL.out]; exact info24) ?_))
    refine hN.mono ?_
    rintro e w6 ⟨rfl, g6⟩
    have HG := Keep.mk (HS5.out.g.trans g6)
    clear hN g6
    go_wp2_with fail
    go_ret
    exact ⟨rfl, HG.out⟩
  | some X =>
    rw [hX] at hN
    go_wp2_with (first
      | (show wpList _ _ _ ({ dst := _, op := Op.load 24 _, type := _, pos := _, after := _, guard := _ } :: _) _ _
         refine wpList_load_mid rfl 24 _ rfl _ _ rfl _ _ RNG.out hdu hdr (by rw [HCL.out]; exact info24) ?_))
    refine hN.mono ?_
    rintro e w6 ⟨lb, rfl, S6'⟩
    have S6 := HS5.out.ovr S6'
    have HS6 : Keep (Sep w w6 (lobA lb X :: boxA xb [.string t0, .string t1, .string t2, .string t3] 37 :: [])) := ⟨by
      have q : Sep w w6 ([lobA lb X] ++ ([boxA cb cl 24, boxA ab pcs 27] ++ [boxA xb [.string t0, .string t1, .string t2, .string t3] 37])) := S6
      exact Sep.dropM _ _ q⟩
    clear hN S6 S6' HS5 RNG HCL c12 f12 hw5 hfl
    go_wp2_with fail
    have HX3 : Keep (w6.drew.cell? ⟨xb, 0, none⟩ = some (.string t0) ∧ w6.drew.cell? ⟨xb, 1, none⟩ = some (.string t1) ∧ w6.drew.cell? ⟨xb, 2, none⟩ = some (.string t2)) := ⟨(HS6.out.boxGet k1m).cellv 0 _ rfl, (HS6.out.boxGet k1m).cellv 1 _ rfl, (HS6.out.boxGet k1m).cellv 2 _ rfl⟩
    refine wp_region_held_drew (S := fun w' => w'.cell? ⟨xb, 0, none⟩ = some (.string t0) ∧ w'.cell? ⟨xb, 1, none⟩ = some (.string t1) ∧ w'.cell? ⟨xb, 2, none⟩ = some (.string t2)) (by kernel_rfl) HX3.out (fun hHeld => ?_)
    refine wpAnyH_take (i := 0) (oi := _) (v := ?_) rfl (by kernel_rfl) (by kernel_rfl) (by kernel_rfl) (fun _ _ _ h => h) (Or.inl ⟨by rfl, ?_⟩) (by assumption) ?_
    rotate_left
    · (intro w hSw; obtain ⟨y0, y1, y2⟩ := hSw; go_simp; first | done | (with_reducible rfl))
    simp only [Act.put, List.getElem_toArray, List.getElem_cons_zero, List.setIfInBounds_toArray, List.set_cons_zero, List.set_cons_succ]
    refine wpAnyH_take (i := 1) (oi := _) (v := ?_) rfl (by kernel_rfl) (by kernel_rfl) (by kernel_rfl) (fun _ _ _ h => h) (Or.inl ⟨by rfl, ?_⟩) (by assumption) ?_
    rotate_left
    · (intro w hSw; obtain ⟨y0, y1, y2⟩ := hSw; go_simp; first | done | (with_reducible rfl))
    simp only [Act.put, List.getElem_toArray, List.getElem_cons_succ, List.getElem_cons_zero, List.setIfInBounds_toArray, List.set_cons_zero, List.set_cons_succ]
    refine wpAnyH_take (i := 2) (oi := _) (v := ?_) rfl (by kernel_rfl) (by kernel_rfl) (by kernel_rfl) (fun _ _ _ h => h) (Or.inl ⟨by rfl, ?_⟩) (by assumption) ?_
    rotate_left
    · (intro w hSw; obtain ⟨y0, y1, y2⟩ := hSw; go_simp; first | done | (with_reducible rfl))
    simp only [Act.put, List.getElem_toArray, List.getElem_cons_succ, List.getElem_cons_zero, List.setIfInBounds_toArray, List.set_cons_zero, List.set_cons_succ]
    refine wpAnyH_take (i := 3) (oi := _) (v := ?_) rfl (by kernel_rfl) (by kernel_rfl) (by kernel_rfl) (fun _ _ _ h => h) (Or.inl ⟨by rfl, ?_⟩) (by assumption) ?_
    rotate_left
    · (intro w hSw; obtain ⟨y0, y1, y2⟩ := hSw; go_simp; first | done | (with_reducible rfl))
    simp only [Act.put, List.getElem_toArray, List.getElem_cons_succ, List.getElem_cons_zero, List.setIfInBounds_toArray, List.set_cons_zero, List.set_cons_succ]
    refine wpAnyH_take (i := 4) (oi := _) (v := ?_) rfl (by kernel_rfl) (by kernel_rfl) (by kernel_rfl) (fun _ _ _ h => h) (Or.inl ⟨by rfl, ?_⟩) (by assumption) ?_
    rotate_left
    · (intro w hSw; obtain ⟨y0, y1, y2⟩ := hSw; go_simp; first | done | (with_reducible rfl))
    simp only [Act.put, List.getElem_toArray, List.getElem_cons_succ, List.getElem_cons_zero, List.setIfInBounds_toArray, List.set_cons_zero, List.set_cons_succ]
    refine wpAnyH_take (i := 5) (oi := _) (v := ?_) rfl (by kernel_rfl) (by kernel_rfl) (by kernel_rfl) (fun _ _ _ h => h) (Or.inl ⟨by rfl, ?_⟩) (by assumption) ?_
    rotate_left
    · (intro w hSw; obtain ⟨y0, y1, y2⟩ := hSw; go_simp; first | done | (with_reducible rfl))
    simp only [Act.put, List.getElem_toArray, List.getElem_cons_succ, List.getElem_cons_zero, List.setIfInBounds_toArray, List.set_cons_zero, List.set_cons_succ]
    refine wpAnyH_ready (rs := [6]) (by kernel_rfl) (by simp) ?_
    refine AllReadyH.cons rfl (fun K hK => ?_) AllReadyH.nil
    go_simp
    refine hK.out _ _ HX3.out (fun hHeld => ?_)
    clear hK K
    refine wpAnyH_ready (rs := [7]) (by kernel_rfl) (by simp) ?_
    refine AllReadyH.cons rfl (fun K hK => ?_) AllReadyH.nil
    go_simp
    refine hK.out _ _ HX3.out (fun hHeld => ?_)
    clear hK K
    refine wpAnyH_ready (rs := [8]) (by kernel_rfl) (by simp) ?_
    refine AllReadyH.cons rfl (fun K hK => ?_) AllReadyH.nil
    go_simp
    refine hK.out _ _ HX3.out (fun hHeld => ?_)
    clear hK K
    refine wpAnyH_done (by kernel_rfl) ?_ _
    have HS7 := Keep.mk (HS6.out.grown (gr_drew w6 none))
    clear HS6 HX3
    go_wp2_with fail
    obtain ⟨e1, hj1, hj2, hn1, hok, hup, hone, hfd, hnx, hXA⟩ := bob_one hX t0 t1 t2 HNK.out.2.2.2.1
    have hJ := join_c w w6.drew _ lb X t0 t1 t2 sBob 5 HS7.out (new_ok hX).1 (HKK.out _ _ HS7.out).1 HNK.out.2.1 (by decide) HNK.out.2.2.2.2.1 HNK.out.2.2.2.2.2 HNK.out.2.2.2.1 (by rw [(new_ok hX).2.2.2]; omega)
    rw [hj1, hj2] at hJ
    change Calls Tryd.prog 14 _ _ (fun e W' => e = .returned (.tuple #[.agg (lvc e1).toArray, iv 0]) ∧ _) at hJ
    have HD : Keep (deriveB (txt (rep 98)) ⟨#[115, 101, 115, 115, 105, 111, 110]⟩ [t1, t2, txt (Mac.len8 1)] = txt (drv (rep 98) t1 t2 1)) := ⟨rfl⟩
    generalize joiX X t0 t1 t2 sBob 5 = X1 at hJ hok hup hone hfd hnx hXA
    generalize drv (rep 98) t1 t2 1 = k1 at HD hone
    have HOK := Keep.mk (And.intro hok (And.intro hup (And.intro hone (And.intro hfd (And.intro hnx hXA)))))
    have HN1 := Keep.mk hn1
    clear hj1 hj2 hn1 hok hup hone hfd hnx hXA HS7 hX
    refine hJ.mono ?_
    rintro e w8 ⟨rfl, S8⟩
    have HS8 := Keep.mk S8
    clear hJ S8
    go_wp2_with (first
      | (show wpList _ _ _ ({ dst := _, op := Op.store 42 _ _, type := _, pos := _, after := _, guard := _ } :: _) _ _
         refine store_new _ (lvc e1) 42 rfl rfl rfl rfl rfl (by exact info42) (lvc_one _) ?_))
    intro w9 hS9 g9
    have S9 := (hS9 w _ HS8.out).swap
    generalize w8.heap.size = b12 at S9 ⊢
    have HS9 := Keep.mk S9
    have hSc := sec_c 98
    change ∀ w, Calls Tryd.prog 10 #[.int .u8 98] w _ at hSc
    have HSZ : Keep ((txt (rep 98)).size = 32 ∧ (txt (Mac.len8 1)).size = 8) := ⟨rfl, rfl⟩
    have hNm := number_c 1
    change ∀ w, Calls Tryd.prog 16 #[.int .u64 1] w _ at hNm
    generalize txt (rep 98) = s1 at hSc HSZ HD
    generalize txt (Mac.len8 1) = n1 at hNm HSZ HD
    generalize hkt : txt k1 = kt at HD
    clear hS9 g9 HS8 S9
    go_wp2_with fail
    refine (hSc _).mono ?_
    rintro e wC ⟨rfl, gC⟩
    have HSC := Keep.mk (HS9.out.grown gC)
    clear gC hSc HS9
    go_wp2_with fail
    refine (hNm _).mono ?_
    rintro e wD ⟨rfl, gD⟩
    have SD := HSC.out.grown gD
    have SE := SD.newBox #[.string t1, .string t2, .string n1] 9
    obtain ⟨wE, hwE⟩ : ∃ wE, wD.alloc (.cells #[.string t1, .string t2, .string n1] 9) = wE := ⟨_, rfl⟩
    obtain ⟨sb, hsb⟩ : ∃ sb, wD.heap.size = sb := ⟨_, rfl⟩
    rw [hwE, hsb] at SE
    have hDv := der_c wE (HKK.out _ _ SE).2 s1 t1 t2 n1 sb (SE.boxGet k0m) (by have := HSZ.out; omega) HNK.out.2.2.2.2.1 HNK.out.2.2.2.2.2 (by have := HSZ.out; omega)
    rw [HD.out] at hDv
    have HSE := Keep.mk SE
    clear gD hNm SD SE HSC
    go_wp2_with fail
    refine hDv.mono ?_
    rintro e wF ⟨rfl, gF⟩
    have SF := (HSE.out.grown gF).tail
    have hKy := key_c w wF _ lb X1 1 SF HOK.out.1 (by decide)
    have HF1 : Keep (keyS X1 1 = kt ∧ (fds X1 1).isSome = true) := ⟨by
      rcases keyS_one HOK.out.2.2.1 with q | ⟨_, _, q, _⟩
      · rw [HOK.out.2.2.2.1] at q; cases q.1
      · rw [q, hkt], by rw [HOK.out.2.2.2.1]; rfl⟩
    rw [HF1.out.1, HF1.out.2] at hKy
    have HKT := Keep.mk hkt
    clear hDv gF HSE hwE hsb SF hkt HF1
    go_wp2_with fail
    refine hKy.mono ?_
    rintro e wG ⟨rfl, SG⟩
    have c0 : wG.cell? ⟨b12, 0, none⟩ = some (.int .u64 1) := by
      have := (SG.boxGet k1m).cellv 0 (uv e1.num) rfl
      rw [HN1.out] at this
      exact this
    have HSG : Keep (Sep w wG [lobA lb X1]) := ⟨Sep.dropM [lobA lb X1] _ (l := []) (by rw [List.append_nil]; exact SG)⟩
    obtain ⟨sa, scap, hsv, _⟩ := HNK.out.2.2.1.o
    obtain ⟨n, hnL⟩ : ∃ n, L.length = n := ⟨_, rfl⟩
    rw [hnL] at hsv
    subst hsv
    obtain ⟨du5, hdu5, hdr5⟩ := under50
    clear hKy SG
    go_wp2_with fail
    go_loopw [15, 16, 17, 18, 19] (fun v15 v16 u _ _ wr => ∃ (i : Nat) (Y : Lb), i ≤ n ∧ i ≤ 120 ∧ u = .int .i64 i ∧ v15 = .string kt ∧ v16 = .bool true ∧ Keep (Sep w wr [lobA lb Y]) ∧ Keep (LbOk Y ∧ Up Y ∧ One Y k1 t0 ∧ Y.next ≤ 2 + i ∧ Y.A = aA)) (fun _ _ u _ _ _ => (120 - intOf u).toNat)
    case atStart => exact ⟨0, X1, by omega, by omega, rfl, rfl, rfl, HSG, ⟨HOK.out.1, HOK.out.2.1, HOK.out.2.2.1, by rw [HOK.out.2.2.2.2.1]; omega, HOK.out.2.2.2.2.2⟩⟩
    case round =>
      clear HSG HOK c0
      obtain ⟨i, Y, hi, h120, rfl, rfl, rfl, hS, hY⟩ := hrel
      by_cases hlt : i < n ∧ i < 120
      · obtain ⟨hl1, hl2⟩ := hlt
        have hSR := HNK.out.2.2.1.kept hS.out.g
        obtain ⟨a', cap', e, hq⟩ := hSR.o
        rw [hnL] at e
        injection e with e1' e2' e3'
        obtain ⟨g, og, hg, hq⟩ := hq (by omega)
        rw [← e1'] at hg
        subst hg
        obtain ⟨x, hx⟩ : ∃ x, L[i]? = some x := ⟨_, List.getElem?_eq_getElem (by rw [hnL]; exact hl1)⟩
        have HRG := Keep.mk (hq i x hx)
        have HXS : Keep ((opv x).length = 10) := ⟨rfl⟩
        have hxo := hSR.s x (List.mem_of_getElem? hx)
        have hAc := acts_c w wr [] lb Y x hS.out hY.out.1 hY.out.2.1 HNK.out.1 HNK.out.2.1 hxo (by have := hY.out.2.2.2.1; omega)
        have HY2 : Keep (LbOk (actX Y x) ∧ Up (actX Y x) ∧ One (actX Y x) k1 t0 ∧ (actX Y x).next ≤ 2 + (i + 1) ∧ (actX Y x).A = aA) := ⟨hY.out.1.act hxo (by have := hY.out.2.2.2.1; omega), hY.out.2.1.act hY.out.1, hY.out.2.2.1.act x, by have := hY.out.2.2.2.1; have := act_next (X := Y) (o := x); omega, by rw [act_A]; exact hY.out.2.2.2.2⟩
        generalize actX Y x = Z at hAc HY2
        have hi0 : (0 : Int) ≤ (i : Int) := by omega
        have hi1 : (i : Int) < (n : Nat) := by omega
        have hi2 : (i : Int) < 120 := by omega
        have hti : ((i : Nat) : Int).toNat = i := by omega
        have hwi : IntKind.i64.wrap ((i : Int) + 1) = ((i + 1 : Nat) : Int) := by rw [wi _ (by omega) (by omega)]; omega
        have HI : Keep (i < n ∧ i < 120) := ⟨hl1, hl2⟩
        obtain ⟨cs, hcs⟩ : ∃ cs, opv x = cs := ⟨_, rfl⟩
        rw [hcs] at HRG HXS hAc
        clear hSR hq e1' e2' e3' hx hxo hS hY hcs hl1 hl2 hi h120
        go_wp2_with (first
          | (show wpList _ _ _ ({ dst := _, op := Op.load 50 _, type := _, pos := _, after := _, guard := _ } :: _) _ _
             refine wpList_load_mid rfl 50 _ rfl _ _ rfl _ _ HRG.out hdu5 hdr5 (by rw [HXS.out]; exact info50) ?_))
        refine hAc.mono ?_
        rintro e wI ⟨rfl, SI⟩
        have hF := fnd_c w wI [] lb Z 1 t0 SI HY2.out.1 (by decide)
        clear hAc SI HRG HXS
        rcases keyS_one HY2.out.2.2.1 with ⟨q1, q2, q3⟩ | ⟨s, q1, q2, q3⟩
        · rw [q3] at hF
          have HQ := Keep.mk (And.intro q1 q2)
          clear q1 q2 q3
          go_wp2_with fail
          refine hF.mono ?_
          rintro e wJ ⟨rfl, SJ⟩
          have HSJ := Keep.mk SJ
          clear hF SJ
          go_wp2_with (first
            | (show wpList _ _ _ ({ dst := _, op := Op.store 42 _ _, type := _, pos := _, after := _, guard := _ } :: _) _ _
               refine store_new _ z7 42 rfl rfl rfl rfl rfl (by exact info42) z7_one ?_))
          intro wK hSK gK
          have SK := (hSK w _ HSJ.out).tail
          have hKy := key_c w wK [] lb Z 1 SK HY2.out.1 (by decide)
          rw [HQ.out.1, HQ.out.2] at hKy
          clear hSK gK HSJ SK
          go_wp2_with fail
          refine hKy.mono ?_
          rintro e wM ⟨rfl, SM⟩
          have HG := Keep.mk SM.g
          clear hKy SM
          go_wp2_with fail
          go_ret
          exact ⟨rfl, HG.out⟩
        · rw [q3] at hF
          have HQ := Keep.mk (And.intro q1 q2)
          clear q1 q2 q3
          go_wp2_with fail
          refine hF.mono ?_
          rintro e wJ ⟨rfl, SJ⟩
          have HSJ := Keep.mk SJ
          clear hF SJ
          go_wp2_with (first
            | (show wpList _ _ _ ({ dst := _, op := Op.store 42 _ _, type := _, pos := _, after := _, guard := _ } :: _) _ _
               refine store_new _ (lvc s) 42 rfl rfl rfl rfl rfl (by exact info42) (lvc_one _) ?_))
          intro wK hSK gK
          have SK := (hSK w _ HSJ.out).tail
          have hKy := key_c w wK [] lb Z 1 SK HY2.out.1 (by decide)
          rw [HQ.out.1, HQ.out.2, HKT.out] at hKy
          clear hSK gK HSJ SK
          go_wp2_with fail
          refine hKy.mono ?_
          rintro e wM ⟨rfl, SM⟩
          have HSM := Keep.mk SM
          clear hKy SM
          go_wp2_with fail
          exact ⟨⟨i + 1, Z, by have := HI.out; omega, by have := HI.out; omega, by simp, rfl, rfl, HSM, HY2⟩, by simp only [intOf]; have := HI.out; omega⟩
      · have hLv := leave_c w wr [] lb Y 1 hS.out hY.out.1 (by decide)
        have hoL : LbOk (levX Y 1) := hY.out.1.leave
        have hA2 : (levX Y 1).A = aA := by rw [lev_A.1]; exact hY.out.2.2.2.2
        have hn2 : 2 ≤ (levX Y 1).next ∧ (levX Y 1).next ≤ 122 := by rw [lev_A.2]; exact ⟨hY.out.2.2.1.1, by have := hY.out.2.2.2.1; omega⟩
        have hg1 := fds_lev Y 1
        generalize levX Y 1 = Z at hLv hoL hA2 hn2 hg1
        have HZ := Keep.mk (And.intro hoL (And.intro hA2 (And.intro hn2 hg1)))
        generalize (levS Y 1).1.toArray = la at hLv
        generalize (levS Y 1).2 = li at hLv
        clear hoL hA2 hn2 hg1 hS hY
        by_cases hl1 : i < n
        case' pos =>
          have hi1 : (i : Int) < (n : Nat) := by omega
          have hi2 : ¬ (i : Int) < 120 := by omega
        case' neg => have hi1 : ¬ (i : Int) < (n : Nat) := by omega
        all_goals
          clear hlt hl1
          go_wp2_with fail
          refine hLv.mono ?_
          rintro e wI ⟨rfl, SI⟩
          have hJ := join_c w wI [] lb Z t0 t1 t2 sBOB 5 SI HZ.out.1 (HKK.out _ _ SI).1 HNK.out.2.1 (by decide) HNK.out.2.2.2.2.1 HNK.out.2.2.2.2.2 HNK.out.2.2.2.1 (by have := HZ.out.2.2.1; omega)
          have hoJ : LbOk (joiX Z t0 t1 t2 sBOB 5) := HZ.out.1.join (by have := HZ.out.2.2.1; omega) (by decide) (by decide) HNK.out.2.2.2.1 (fun a z => fdI_lt z)
          rcases bob_again HZ.out.2.1 HZ.out.1 HZ.out.2.2.1.1 HZ.out.2.2.2 t0 t1 t2 with ⟨q1, q2, q3⟩ | ⟨e2, q1, q2, q3, q4, q5⟩
          · rw [q1, q3] at hJ
            rw [q3] at hoJ
            obtain ⟨jc, hjc⟩ : ∃ jc, joiC Z sBOB = jc := ⟨_, rfl⟩
            rw [hjc] at hJ q2
            change Calls Tryd.prog 14 _ _ (fun e W' => e = .returned (.tuple #[.agg z7.toArray, iv jc]) ∧ _) at hJ
            have HQ : Keep (LbOk Z ∧ fds Z 1 = none) := ⟨hoJ, HZ.out.2.2.2⟩
            clear hLv SI q1 q3 hjc hoJ
            go_wp2_with fail
            refine hJ.mono ?_
            rintro e wJ ⟨rfl, SJ⟩
            have HSJ := Keep.mk SJ
            clear hJ SJ
            go_wp2_with (first
              | (show wpList _ _ _ ({ dst := _, op := Op.store 42 _ _, type := _, pos := _, after := _, guard := _ } :: _) _ _
                 refine store_new _ z7 42 rfl rfl rfl rfl rfl (by exact info42) z7_one ?_))
            intro wK hSK gK
            have SK := (hSK w _ HSJ.out).swap
            generalize wJ.heap.size = b20 at SK ⊢
            have c20 : wK.cell? ⟨b20, 0, none⟩ = some (.int .u64 0) := (SK.boxGet k1m).cellv 0 _ rfl
            have hKy := key_c w wK _ lb Z 0 SK HQ.out.1 (by decide)
            generalize keyS Z 0 = kk at hKy
            generalize (fds Z 0).isSome = kb at hKy
            clear hSK gK HSJ SK
            go_wp2_with fail
            refine hKy.mono ?_
            rintro e wM ⟨rfl, SM⟩
            have hKy2 := key_c w wM _ lb Z 1 SM HQ.out.1 (by decide)
            rw [HQ.out.2] at hKy2
            clear hKy SM
            go_wp2_with fail
            refine hKy2.mono ?_
            rintro e wN ⟨rfl, SN⟩
            have HSN := Keep.mk SN
            clear hKy2 SN
            go_wp2_with fail
            have hjn : (!decide (jc = 0)) = true := by simp [q2]
            have HGN := Keep.mk (HSN.out.g.trans (gr_drew wN none))
            refine wp_region_held_drew (S := fun _ => True) (by kernel_rfl) trivial (fun hHeld => ?_)
            refine wpAnyH_take (i := 0) (oi := _) (v := ?_) rfl (by kernel_rfl) (by kernel_rfl) (by kernel_rfl) (fun _ _ _ h => h) (Or.inl ⟨by rfl, ?_⟩) (by assumption) ?_
            rotate_left
            · (intro w hSw; go_simp; first | done | (with_reducible rfl))
            simp only [Act.put, List.getElem_toArray, List.getElem_cons_zero, List.setIfInBounds_toArray, List.set_cons_zero, List.set_cons_succ]
            refine wpAnyH_take (i := 1) (oi := _) (v := ?_) rfl (by kernel_rfl) (by kernel_rfl) (by kernel_rfl) (fun _ _ _ h => h) (Or.inl ⟨by rfl, ?_⟩) (by assumption) ?_
            rotate_left
            · (intro w hSw; go_simp; first | done | (with_reducible rfl))
            simp only [Act.put, List.getElem_toArray, List.getElem_cons_succ, List.getElem_cons_zero, List.setIfInBounds_toArray, List.set_cons_zero, List.set_cons_succ]
            refine wpAnyH_take (i := 2) (oi := _) (v := ?_) rfl (by kernel_rfl) (by kernel_rfl) (by kernel_rfl) (fun _ _ _ h => h) (Or.inl ⟨by rfl, ?_⟩) (by assumption) ?_
            rotate_left
            · (intro w hSw; go_simp; first | done | (with_reducible rfl))
            simp only [Act.put, List.getElem_toArray, List.getElem_cons_succ, List.getElem_cons_zero, List.setIfInBounds_toArray, List.set_cons_zero, List.set_cons_succ]
            refine wpAnyH_take (i := 3) (oi := _) (v := ?_) rfl (by kernel_rfl) (by kernel_rfl) (by kernel_rfl) (fun _ _ _ h => h) (Or.inl ⟨by rfl, ?_⟩) (by assumption) ?_
            rotate_left
            · (intro w hSw; go_simp; first | done | (with_reducible rfl))
            simp only [Act.put, List.getElem_toArray, List.getElem_cons_succ, List.getElem_cons_zero, List.setIfInBounds_toArray, List.set_cons_zero, List.set_cons_succ]
            refine wpAnyH_take (i := 4) (oi := _) (v := .bool true) rfl (by kernel_rfl) (by kernel_rfl) (by kernel_rfl) (fun _ _ _ h => h) (Or.inl ⟨by rfl, ?_⟩) (by assumption) ?_
            · (intro w hSw; go_simp; first | done | (simp [q2]; done) | trace_state)
            simp only [Act.put, List.getElem_toArray, List.getElem_cons_succ, List.getElem_cons_zero, List.setIfInBounds_toArray, List.set_cons_zero, List.set_cons_succ]
            refine wpAnyH_take (i := 5) (oi := _) (v := ?_) rfl (by kernel_rfl) (by kernel_rfl) (by kernel_rfl) (fun _ _ _ h => h) (Or.inl ⟨by rfl, ?_⟩) (by assumption) ?_
            rotate_left
            · (intro w hSw; go_simp; first | done | (with_reducible rfl))
            simp only [Act.put, List.getElem_toArray, List.getElem_cons_succ, List.getElem_cons_zero, List.setIfInBounds_toArray, List.set_cons_zero, List.set_cons_succ]
            refine wpAnyH_take (i := 6) (oi := _) (v := undef) rfl (by kernel_rfl) (by kernel_rfl) (by kernel_rfl) (fun _ _ _ h => h) (Or.inr ⟨by rfl, rfl⟩) (by assumption) ?_
            simp only [Act.put, List.getElem_toArray, List.getElem_cons_succ, List.getElem_cons_zero, List.setIfInBounds_toArray, List.set_cons_zero, List.set_cons_succ]
            refine wpAnyH_take (i := 7) (oi := _) (v := undef) rfl (by kernel_rfl) (by kernel_rfl) (by kernel_rfl) (fun _ _ _ h => h) (Or.inr ⟨by rfl, rfl⟩) (by assumption) ?_
            simp only [Act.put, List.getElem_toArray, List.getElem_cons_succ, List.getElem_cons_zero, List.setIfInBounds_toArray, List.set_cons_zero, List.set_cons_succ]
            refine wpAnyH_take (i := 8) (oi := _) (v := undef) rfl (by kernel_rfl) (by kernel_rfl) (by kernel_rfl) (fun _ _ _ h => h) (Or.inr ⟨by rfl, rfl⟩) (by assumption) ?_
            simp only [Act.put, List.getElem_toArray, List.getElem_cons_succ, List.getElem_cons_zero, List.setIfInBounds_toArray, List.set_cons_zero, List.set_cons_succ]
            refine wpAnyH_take (i := 9) (oi := _) (v := undef) rfl (by kernel_rfl) (by kernel_rfl) (by kernel_rfl) (fun _ _ _ h => h) (Or.inr ⟨by rfl, rfl⟩) (by assumption) ?_
            simp only [Act.put, List.getElem_toArray, List.getElem_cons_succ, List.getElem_cons_zero, List.setIfInBounds_toArray, List.set_cons_zero, List.set_cons_succ]
            refine wpAnyH_take (i := 10) (oi := _) (v := undef) rfl (by kernel_rfl) (by kernel_rfl) (by kernel_rfl) (fun _ _ _ h => h) (Or.inr ⟨by rfl, rfl⟩) (by assumption) ?_
            simp only [Act.put, List.getElem_toArray, List.getElem_cons_succ, List.getElem_cons_zero, List.setIfInBounds_toArray, List.set_cons_zero, List.set_cons_succ]
            refine wpAnyH_take (i := 11) (oi := _) (v := undef) rfl (by kernel_rfl) (by kernel_rfl) (by kernel_rfl) (fun _ _ _ h => h) (Or.inr ⟨by rfl, rfl⟩) (by assumption) ?_
            simp only [Act.put, List.getElem_toArray, List.getElem_cons_succ, List.getElem_cons_zero, List.setIfInBounds_toArray, List.set_cons_zero, List.set_cons_succ]
            refine wpAnyH_take (i := 12) (oi := _) (v := undef) rfl (by kernel_rfl) (by kernel_rfl) (by kernel_rfl) (fun _ _ _ h => h) (Or.inr ⟨by rfl, rfl⟩) (by assumption) ?_
            simp only [Act.put, List.getElem_toArray, List.getElem_cons_succ, List.getElem_cons_zero, List.setIfInBounds_toArray, List.set_cons_zero, List.set_cons_succ]
            refine wpAnyH_take (i := 13) (oi := _) (v := undef) rfl (by kernel_rfl) (by kernel_rfl) (by kernel_rfl) (fun _ _ _ h => h) (Or.inr ⟨by rfl, rfl⟩) (by assumption) ?_
            simp only [Act.put, List.getElem_toArray, List.getElem_cons_succ, List.getElem_cons_zero, List.setIfInBounds_toArray, List.set_cons_zero, List.set_cons_succ]
            refine wpAnyH_take (i := 14) (oi := _) (v := undef) rfl (by kernel_rfl) (by kernel_rfl) (by kernel_rfl) (fun _ _ _ h => h) (Or.inr ⟨by rfl, rfl⟩) (by assumption) ?_
            simp only [Act.put, List.getElem_toArray, List.getElem_cons_succ, List.getElem_cons_zero, List.setIfInBounds_toArray, List.set_cons_zero, List.set_cons_succ]
            refine wpAnyH_take (i := 15) (oi := _) (v := undef) rfl (by kernel_rfl) (by kernel_rfl) (by kernel_rfl) (fun _ _ _ h => h) (Or.inr ⟨by rfl, rfl⟩) (by assumption) ?_
            simp only [Act.put, List.getElem_toArray, List.getElem_cons_succ, List.getElem_cons_zero, List.setIfInBounds_toArray, List.set_cons_zero, List.set_cons_succ]
            refine wpAnyH_take (i := 16) (oi := _) (v := undef) rfl (by kernel_rfl) (by kernel_rfl) (by kernel_rfl) (fun _ _ _ h => h) (Or.inr ⟨by rfl, rfl⟩) (by assumption) ?_
            simp only [Act.put, List.getElem_toArray, List.getElem_cons_succ, List.getElem_cons_zero, List.setIfInBounds_toArray, List.set_cons_zero, List.set_cons_succ]
            refine wpAnyH_take (i := 17) (oi := _) (v := undef) rfl (by kernel_rfl) (by kernel_rfl) (by kernel_rfl) (fun _ _ _ h => h) (Or.inr ⟨by rfl, rfl⟩) (by assumption) ?_
            simp only [Act.put, List.getElem_toArray, List.getElem_cons_succ, List.getElem_cons_zero, List.setIfInBounds_toArray, List.set_cons_zero, List.set_cons_succ]
            refine wpAnyH_take (i := 18) (oi := _) (v := undef) rfl (by kernel_rfl) (by kernel_rfl) (by kernel_rfl) (fun _ _ _ h => h) (Or.inr ⟨by rfl, rfl⟩) (by assumption) ?_
            simp only [Act.put, List.getElem_toArray, List.getElem_cons_succ, List.getElem_cons_zero, List.setIfInBounds_toArray, List.set_cons_zero, List.set_cons_succ]
            refine wpAnyH_take (i := 19) (oi := _) (v := undef) rfl (by kernel_rfl) (by kernel_rfl) (by kernel_rfl) (fun _ _ _ h => h) (Or.inr ⟨by rfl, rfl⟩) (by assumption) ?_
            simp only [Act.put, List.getElem_toArray, List.getElem_cons_succ, List.getElem_cons_zero, List.setIfInBounds_toArray, List.set_cons_zero, List.set_cons_succ]
            refine wpAnyH_take (i := 20) (oi := _) (v := undef) rfl (by kernel_rfl) (by kernel_rfl) (by kernel_rfl) (fun _ _ _ h => h) (Or.inr ⟨by rfl, rfl⟩) (by assumption) ?_
            simp only [Act.put, List.getElem_toArray, List.getElem_cons_succ, List.getElem_cons_zero, List.setIfInBounds_toArray, List.set_cons_zero, List.set_cons_succ]
            refine wpAnyH_take (i := 21) (oi := _) (v := undef) rfl (by kernel_rfl) (by kernel_rfl) (by kernel_rfl) (fun _ _ _ h => h) (Or.inr ⟨by rfl, rfl⟩) (by assumption) ?_
            simp only [Act.put, List.getElem_toArray, List.getElem_cons_succ, List.getElem_cons_zero, List.setIfInBounds_toArray, List.set_cons_zero, List.set_cons_succ]
            refine wpAnyH_take (i := 22) (oi := _) (v := undef) rfl (by kernel_rfl) (by kernel_rfl) (by kernel_rfl) (fun _ _ _ h => h) (Or.inr ⟨by rfl, rfl⟩) (by assumption) ?_
            simp only [Act.put, List.getElem_toArray, List.getElem_cons_succ, List.getElem_cons_zero, List.setIfInBounds_toArray, List.set_cons_zero, List.set_cons_succ]
            refine wpAnyH_take (i := 23) (oi := _) (v := undef) rfl (by kernel_rfl) (by kernel_rfl) (by kernel_rfl) (fun _ _ _ h => h) (Or.inr ⟨by rfl, rfl⟩) (by assumption) ?_
            simp only [Act.put, List.getElem_toArray, List.getElem_cons_succ, List.getElem_cons_zero, List.setIfInBounds_toArray, List.set_cons_zero, List.set_cons_succ]
            refine wpAnyH_take (i := 24) (oi := _) (v := undef) rfl (by kernel_rfl) (by kernel_rfl) (by kernel_rfl) (fun _ _ _ h => h) (Or.inr ⟨by rfl, rfl⟩) (by assumption) ?_
            simp only [Act.put, List.getElem_toArray, List.getElem_cons_succ, List.getElem_cons_zero, List.setIfInBounds_toArray, List.set_cons_zero, List.set_cons_succ]
            refine wpAnyH_take (i := 25) (oi := _) (v := undef) rfl (by kernel_rfl) (by kernel_rfl) (by kernel_rfl) (fun _ _ _ h => h) (Or.inr ⟨by rfl, rfl⟩) (by assumption) ?_
            simp only [Act.put, List.getElem_toArray, List.getElem_cons_succ, List.getElem_cons_zero, List.setIfInBounds_toArray, List.set_cons_zero, List.set_cons_succ]
            refine wpAnyH_take (i := 26) (oi := _) (v := undef) rfl (by kernel_rfl) (by kernel_rfl) (by kernel_rfl) (fun _ _ _ h => h) (Or.inr ⟨by rfl, rfl⟩) (by assumption) ?_
            simp only [Act.put, List.getElem_toArray, List.getElem_cons_succ, List.getElem_cons_zero, List.setIfInBounds_toArray, List.set_cons_zero, List.set_cons_succ]
            refine wpAnyH_take (i := 27) (oi := _) (v := undef) rfl (by kernel_rfl) (by kernel_rfl) (by kernel_rfl) (fun _ _ _ h => h) (Or.inr ⟨by rfl, rfl⟩) (by assumption) ?_
            simp only [Act.put, List.getElem_toArray, List.getElem_cons_succ, List.getElem_cons_zero, List.setIfInBounds_toArray, List.set_cons_zero, List.set_cons_succ]
            refine wpAnyH_take (i := 28) (oi := _) (v := undef) rfl (by kernel_rfl) (by kernel_rfl) (by kernel_rfl) (fun _ _ _ h => h) (Or.inr ⟨by rfl, rfl⟩) (by assumption) ?_
            simp only [Act.put, List.getElem_toArray, List.getElem_cons_succ, List.getElem_cons_zero, List.setIfInBounds_toArray, List.set_cons_zero, List.set_cons_succ]
            refine wpAnyH_take (i := 29) (oi := _) (v := undef) rfl (by kernel_rfl) (by kernel_rfl) (by kernel_rfl) (fun _ _ _ h => h) (Or.inr ⟨by rfl, rfl⟩) (by assumption) ?_
            simp only [Act.put, List.getElem_toArray, List.getElem_cons_succ, List.getElem_cons_zero, List.setIfInBounds_toArray, List.set_cons_zero, List.set_cons_succ]
            refine wpAnyH_take (i := 30) (oi := _) (v := ?_) rfl (by kernel_rfl) (by kernel_rfl) (by kernel_rfl) (fun _ _ _ h => h) (Or.inl ⟨by rfl, ?_⟩) (by assumption) ?_
            rotate_left
            · (intro w hSw; go_simp; first | done | (with_reducible rfl))
            simp only [Act.put, List.getElem_toArray, List.getElem_cons_succ, List.getElem_cons_zero, List.setIfInBounds_toArray, List.set_cons_zero, List.set_cons_succ]
            refine wpAnyH_take (i := 31) (oi := _) (v := ?_) rfl (by kernel_rfl) (by kernel_rfl) (by kernel_rfl) (fun _ _ _ h => h) (Or.inl ⟨by rfl, ?_⟩) (by assumption) ?_
            rotate_left
            · (intro w hSw; go_simp; first | done | (with_reducible rfl))
            simp only [Act.put, List.getElem_toArray, List.getElem_cons_succ, List.getElem_cons_zero, List.setIfInBounds_toArray, List.set_cons_zero, List.set_cons_succ]
            refine wpAnyH_ready (rs := [32]) (by kernel_rfl) (by simp) ?_
            refine AllReadyH.cons rfl (fun K hK => ?_) AllReadyH.nil
            go_simp
            refine hK.out _ _ trivial (fun hHeld => ?_)
            clear hK K hHeld
            refine wpAnyH_done (by kernel_rfl) ?_ _
            go_wp2_with fail
            go_ret
            exact ⟨rfl, HGN.out⟩
          · rw [q1, q2] at hJ
            change Calls Tryd.prog 14 _ _ (fun e W' => e = .returned (.tuple #[.agg (lvc e2).toArray, iv 0]) ∧ _) at hJ
            have HD2 : Keep (deriveB (txt (rep 98)) ⟨#[115, 101, 115, 115, 105, 111, 110]⟩ [t1, t2, txt (Mac.len8 Z.next)] = txt (drv (rep 98) t1 t2 Z.next)) := ⟨rfl⟩
            obtain ⟨m, hm⟩ : ∃ m, Z.next = m := ⟨_, rfl⟩
            rw [hm] at q3 q5 HD2
            have hmb : m < 18446744073709551616 := by have := HZ.out.2.2.1; omega
            generalize joiX Z t0 t1 t2 sBOB 5 = X2 at hJ hoJ q4 q5
            generalize txt (drv (rep 98) t1 t2 m) = km at q5 HD2
            have hSc := sec_c 98
            change ∀ w, Calls Tryd.prog 10 #[.int .u8 98] w _ at hSc
            have hNm := number_c m
            have HSZ2 : Keep ((txt (rep 98)).size = 32 ∧ (txt (Mac.len8 m)).size = 8) := ⟨rfl, txt_size (Mac.len8_len m)⟩
            generalize txt (rep 98) = s2 at hSc HSZ2 HD2
            generalize txt (Mac.len8 m) = n2 at hNm HSZ2 HD2
            have HQ : Keep (LbOk X2 ∧ fds X2 1 = none ∧ keyS X2 m = km ∧ m < 18446744073709551616) := ⟨hoJ, q4, q5, hmb⟩
            have HE20 : Keep ((lvc e2)[0]? = some (uv m)) := ⟨by rw [← q3]; rfl⟩
            clear hLv SI q1 q2 q3 q4 q5 hoJ hm hmb
            go_wp2_with fail
            refine hJ.mono ?_
            rintro e wJ ⟨rfl, SJ⟩
            have HSJ := Keep.mk SJ
            clear hJ SJ
            go_wp2_with (first
              | (show wpList _ _ _ ({ dst := _, op := Op.store 42 _ _, type := _, pos := _, after := _, guard := _ } :: _) _ _
                 refine store_new _ (lvc e2) 42 rfl rfl rfl rfl rfl (by exact info42) (lvc_one _) ?_))
            intro wK hSK gK
            have SK := (hSK w _ HSJ.out).swap
            generalize wJ.heap.size = b20 at SK ⊢
            have c20 : wK.cell? ⟨b20, 0, none⟩ = some (uv m) := (SK.boxGet k1m).cellv 0 _ HE20.out
            have hKy := key_c w wK _ lb X2 m SK HQ.out.1 HQ.out.2.2.2
            rw [HQ.out.2.2.1] at hKy
            generalize (fds X2 m).isSome = kb at hKy
            clear hSK gK HSJ SK
            go_wp2_with fail
            refine hKy.mono ?_
            rintro e wM ⟨rfl, SM⟩
            have hKy2 := key_c w wM _ lb X2 1 SM HQ.out.1 (by decide)
            rw [HQ.out.2.1] at hKy2
            clear hKy SM c20
            go_wp2_with fail
            refine hKy2.mono ?_
            rintro e wN ⟨rfl, SN⟩
            have HQ0 := Keep.mk (SN.grown (gr_drew wN none))
            clear hKy2 SN
            go_wp2_with fail
            refine wp_region_held_drew (S := fun w' => w'.cell? ⟨b20, 0, none⟩ = some (uv m)) (by kernel_rfl) ((HQ0.out.boxGet k1m).cellv 0 _ HE20.out) (fun hHeld => ?_)
            refine wpAnyH_take (i := 0) (oi := _) (v := ?_) rfl (by kernel_rfl) (by kernel_rfl) (by kernel_rfl) (fun _ _ _ h => h) (Or.inl ⟨by rfl, ?_⟩) (by assumption) ?_
            rotate_left
            · (intro w hSw; go_simp; first | done | (with_reducible rfl))
            simp only [Act.put, List.getElem_toArray, List.getElem_cons_zero, List.setIfInBounds_toArray, List.set_cons_zero, List.set_cons_succ]
            refine wpAnyH_take (i := 1) (oi := _) (v := ?_) rfl (by kernel_rfl) (by kernel_rfl) (by kernel_rfl) (fun _ _ _ h => h) (Or.inl ⟨by rfl, ?_⟩) (by assumption) ?_
            rotate_left
            · (intro w hSw; go_simp; first | done | (with_reducible rfl))
            simp only [Act.put, List.getElem_toArray, List.getElem_cons_succ, List.getElem_cons_zero, List.setIfInBounds_toArray, List.set_cons_zero, List.set_cons_succ]
            refine wpAnyH_take (i := 2) (oi := _) (v := ?_) rfl (by kernel_rfl) (by kernel_rfl) (by kernel_rfl) (fun _ _ _ h => h) (Or.inl ⟨by rfl, ?_⟩) (by assumption) ?_
            rotate_left
            · (intro w hSw; go_simp; first | done | (with_reducible rfl))
            simp only [Act.put, List.getElem_toArray, List.getElem_cons_succ, List.getElem_cons_zero, List.setIfInBounds_toArray, List.set_cons_zero, List.set_cons_succ]
            refine wpAnyH_take (i := 3) (oi := _) (v := ?_) rfl (by kernel_rfl) (by kernel_rfl) (by kernel_rfl) (fun _ _ _ h => h) (Or.inl ⟨by rfl, ?_⟩) (by assumption) ?_
            rotate_left
            · (intro w hSw; go_simp; first | done | (with_reducible rfl))
            simp only [Act.put, List.getElem_toArray, List.getElem_cons_succ, List.getElem_cons_zero, List.setIfInBounds_toArray, List.set_cons_zero, List.set_cons_succ]
            refine wpAnyH_take (i := 4) (oi := _) (v := ?_) rfl (by kernel_rfl) (by kernel_rfl) (by kernel_rfl) (fun _ _ _ h => h) (Or.inl ⟨by rfl, ?_⟩) (by assumption) ?_
            rotate_left
            · (intro w hSw; go_simp; first | done | (with_reducible rfl))
            simp only [Act.put, List.getElem_toArray, List.getElem_cons_succ, List.getElem_cons_zero, List.setIfInBounds_toArray, List.set_cons_zero, List.set_cons_succ]
            refine wpAnyH_take (i := 5) (oi := _) (v := ?_) rfl (by kernel_rfl) (by kernel_rfl) (by kernel_rfl) (fun _ _ _ h => h) (Or.inl ⟨by rfl, ?_⟩) (by assumption) ?_
            rotate_left
            · (intro w hSw; go_simp; first | done | (with_reducible rfl))
            simp only [Act.put, List.getElem_toArray, List.getElem_cons_succ, List.getElem_cons_zero, List.setIfInBounds_toArray, List.set_cons_zero, List.set_cons_succ]
            refine wpAnyH_take (i := 6) (oi := _) (v := ?_) rfl (by kernel_rfl) (by kernel_rfl) (by kernel_rfl) (fun _ _ _ h => h) (Or.inl ⟨by rfl, ?_⟩) (by assumption) ?_
            rotate_left
            · (intro w hSw; go_simp; first | done | (with_reducible rfl))
            simp only [Act.put, List.getElem_toArray, List.getElem_cons_succ, List.getElem_cons_zero, List.setIfInBounds_toArray, List.set_cons_zero, List.set_cons_succ]
            refine wpAnyH_take (i := 8) (oi := _) (v := ?_) rfl (by kernel_rfl) (by kernel_rfl) (by kernel_rfl) (fun _ _ _ h => h) (Or.inl ⟨by rfl, ?_⟩) (by assumption) ?_
            rotate_left
            · (intro w hSw; go_simp; first | done | (with_reducible rfl))
            simp only [Act.put, List.getElem_toArray, List.getElem_cons_succ, List.getElem_cons_zero, List.setIfInBounds_toArray, List.set_cons_zero, List.set_cons_succ]
            refine wpAnyH_take (i := 9) (oi := _) (v := ?_) rfl (by kernel_rfl) (by kernel_rfl) (by kernel_rfl) (fun _ _ _ h => h) (Or.inl ⟨by rfl, ?_⟩) (by assumption) ?_
            rotate_left
            · (intro w hSw; go_simp; first | done | (with_reducible rfl))
            simp only [Act.put, List.getElem_toArray, List.getElem_cons_succ, List.getElem_cons_zero, List.setIfInBounds_toArray, List.set_cons_zero, List.set_cons_succ]
            refine wpAnyH_take (i := 10) (oi := _) (v := ?_) rfl (by kernel_rfl) (by kernel_rfl) (by kernel_rfl) (fun _ _ _ h => h) (Or.inl ⟨by rfl, ?_⟩) (by assumption) ?_
            rotate_left
            · (intro w hSw; go_simp; first | done | (with_reducible rfl))
            simp only [Act.put, List.getElem_toArray, List.getElem_cons_succ, List.getElem_cons_zero, List.setIfInBounds_toArray, List.set_cons_zero, List.set_cons_succ]
            refine wpAnyH_take (i := 11) (oi := _) (v := ?_) rfl (by kernel_rfl) (by kernel_rfl) (by kernel_rfl) (fun _ _ _ h => h) (Or.inl ⟨by rfl, ?_⟩) (by assumption) ?_
            rotate_left
            · (intro w hSw; go_simp; first | done | (with_reducible rfl))
            simp only [Act.put, List.getElem_toArray, List.getElem_cons_succ, List.getElem_cons_zero, List.setIfInBounds_toArray, List.set_cons_zero, List.set_cons_succ]
            refine wpAnyH_ready (rs := [7]) (by kernel_rfl) (by simp) ?_
            refine AllReadyH.cons rfl (fun K hK => ?_) AllReadyH.nil
            go_simp
            refine (hSc _).mono ?_
            rintro e wO ⟨rfl, gO⟩
            have HSO := Keep.mk (HQ0.out.grown gO)
            refine hK.out _ _ ((HSO.out.boxGet k1m).cellv 0 _ HE20.out) (fun hHeld => ?_)
            clear hK K gO
            refine wpAnyH_ready (rs := [12]) (by kernel_rfl) (by simp) ?_
            refine AllReadyH.cons rfl (fun K hK => ?_) AllReadyH.nil
            go_simp
            refine (hNm _).mono ?_
            rintro e wP ⟨rfl, gP⟩
            have HSP := Keep.mk (HSO.out.grown gP)
            refine hK.out _ _ ((HSP.out.boxGet k1m).cellv 0 _ HE20.out) (fun hHeld => ?_)
            clear hK K gP
            refine wpAnyH_ready (rs := [13]) (by kernel_rfl) (by simp) ?_
            refine AllReadyH.cons rfl (fun K hK => ?_) AllReadyH.nil
            go_simp
            have SQ := HSP.out.newBox #[.string t1, .string t2, .string n2] 9
            refine hK.out _ _ ((SQ.boxGet k2m).cellv 0 _ HE20.out) (fun hHeld => ?_)
            clear hK K
            generalize hwQ : World.alloc _ _ = wQ at SQ hHeld ⊢
            clear hwQ
            generalize wP.heap.size = sbQ at SQ ⊢
            have hDv := der_c wQ (HKK.out _ _ SQ).2 s2 t1 t2 n2 sbQ (SQ.boxGet k0m) (by have := HSZ2.out; omega) HNK.out.2.2.2.2.1 HNK.out.2.2.2.2.2 (by have := HSZ2.out; omega)
            rw [HD2.out] at hDv
            have HSQ := Keep.mk SQ.tail
            clear SQ
            refine wpAnyH_ready (rs := [14]) (by kernel_rfl) (by simp) ?_
            refine AllReadyH.cons rfl (fun K hK => ?_) AllReadyH.nil
            go_simp
            refine (hDv).mono ?_
            rintro e wR ⟨rfl, gR⟩
            have HSR := Keep.mk (HSQ.out.grown gR)
            refine hK.out _ _ ((HSR.out.boxGet k1m).cellv 0 _ HE20.out) (fun hHeld => ?_)
            clear hK K gR hDv
            refine wpAnyH_take (i := 15) (oi := _) (v := .bool true) rfl (by kernel_rfl) (by kernel_rfl) (by kernel_rfl) (fun _ _ _ h => h) (Or.inl ⟨by rfl, ?_⟩) (by assumption) ?_
            · (intro w hSw; go_simp; first | done | (simp; done) | trace_state)
            simp only [Act.put, List.getElem_toArray, List.getElem_cons_succ, List.getElem_cons_zero, List.setIfInBounds_toArray, List.set_cons_zero, List.set_cons_succ]
            refine wpAnyH_take (i := 16) (oi := _) (v := ?_) rfl (by kernel_rfl) (by kernel_rfl) (by kernel_rfl) (fun _ _ _ h => h) (Or.inl ⟨by rfl, ?_⟩) (by assumption) ?_
            rotate_left
            · (intro w hSw; go_simp; first | done | (with_reducible rfl))
            simp only [Act.put, List.getElem_toArray, List.getElem_cons_succ, List.getElem_cons_zero, List.setIfInBounds_toArray, List.set_cons_zero, List.set_cons_succ]
            refine wpAnyH_take (i := 17) (oi := _) (v := ?_) rfl (by kernel_rfl) (by kernel_rfl) (by kernel_rfl) (fun _ _ _ h => h) (Or.inl ⟨by rfl, ?_⟩) (by assumption) ?_
            rotate_left
            · (intro w hSw; go_simp; first | done | (with_reducible rfl))
            simp only [Act.put, List.getElem_toArray, List.getElem_cons_succ, List.getElem_cons_zero, List.setIfInBounds_toArray, List.set_cons_zero, List.set_cons_succ]
            refine wpAnyH_take (i := 19) (oi := _) (v := ?_) rfl (by kernel_rfl) (by kernel_rfl) (by kernel_rfl) (fun _ _ _ h => h) (Or.inl ⟨by rfl, ?_⟩) (by assumption) ?_
            rotate_left
            · (intro w hSw; go_simp; first | done | (with_reducible rfl))
            simp only [Act.put, List.getElem_toArray, List.getElem_cons_succ, List.getElem_cons_zero, List.setIfInBounds_toArray, List.set_cons_zero, List.set_cons_succ]
            refine wpAnyH_take (i := 20) (oi := _) (v := ?_) rfl (by kernel_rfl) (by kernel_rfl) (by kernel_rfl) (fun _ _ _ h => h) (Or.inl ⟨by rfl, ?_⟩) (by assumption) ?_
            rotate_left
            · (intro w hSw; go_simp; first | done | (with_reducible rfl))
            simp only [Act.put, List.getElem_toArray, List.getElem_cons_succ, List.getElem_cons_zero, List.setIfInBounds_toArray, List.set_cons_zero, List.set_cons_succ]
            refine wpAnyH_take (i := 21) (oi := _) (v := ?_) rfl (by kernel_rfl) (by kernel_rfl) (by kernel_rfl) (fun _ _ _ h => h) (Or.inl ⟨by rfl, ?_⟩) (by assumption) ?_
            rotate_left
            · (intro w hSw; go_simp; first | done | (with_reducible rfl))
            simp only [Act.put, List.getElem_toArray, List.getElem_cons_succ, List.getElem_cons_zero, List.setIfInBounds_toArray, List.set_cons_zero, List.set_cons_succ]
            refine wpAnyH_take (i := 22) (oi := _) (v := ?_) rfl (by kernel_rfl) (by kernel_rfl) (by kernel_rfl) (fun _ _ _ h => h) (Or.inl ⟨by rfl, ?_⟩) (by assumption) ?_
            rotate_left
            · (intro w hSw; go_simp; first | done | (with_reducible rfl))
            simp only [Act.put, List.getElem_toArray, List.getElem_cons_succ, List.getElem_cons_zero, List.setIfInBounds_toArray, List.set_cons_zero, List.set_cons_succ]
            refine wpAnyH_take (i := 26) (oi := _) (v := ?_) rfl (by kernel_rfl) (by kernel_rfl) (by kernel_rfl) (fun _ _ _ h => h) (Or.inl ⟨by rfl, ?_⟩) (by assumption) ?_
            rotate_left
            · (intro w hSw; go_simp; first | done | (with_reducible rfl))
            simp only [Act.put, List.getElem_toArray, List.getElem_cons_succ, List.getElem_cons_zero, List.setIfInBounds_toArray, List.set_cons_zero, List.set_cons_succ]
            refine wpAnyH_ready (rs := [18]) (by kernel_rfl) (by simp) ?_
            refine AllReadyH.cons rfl (fun K hK => ?_) AllReadyH.nil
            go_simp
            refine (hSc _).mono ?_
            rintro e wT ⟨rfl, gT⟩
            have HST := Keep.mk (HSR.out.grown gT)
            refine hK.out _ _ ((HST.out.boxGet k1m).cellv 0 _ HE20.out) (fun hHeld => ?_)
            clear hK K gT
            refine wpAnyH_ready (rs := [23]) (by kernel_rfl) (by simp) ?_
            refine AllReadyH.cons rfl (fun K hK => ?_) AllReadyH.nil
            go_simp
            refine (hNm _).mono ?_
            rintro e wU ⟨rfl, gU⟩
            have HSU := Keep.mk (HST.out.grown gU)
            refine hK.out _ _ ((HSU.out.boxGet k1m).cellv 0 _ HE20.out) (fun hHeld => ?_)
            clear hK K gU
            refine wpAnyH_ready (rs := [24]) (by kernel_rfl) (by simp) ?_
            refine AllReadyH.cons rfl (fun K hK => ?_) AllReadyH.nil
            go_simp
            have SV := HSU.out.newBox #[.string t1, .string t2, .string n2] 9
            refine hK.out _ _ ((SV.boxGet k2m).cellv 0 _ HE20.out) (fun hHeld => ?_)
            clear hK K
            generalize hwV : World.alloc _ _ = wV at SV hHeld ⊢
            clear hwV
            generalize wU.heap.size = sbV at SV ⊢
            have hDv := der_c wV (HKK.out _ _ SV).2 s2 t1 t2 n2 sbV (SV.boxGet k0m) (by have := HSZ2.out; omega) HNK.out.2.2.2.2.1 HNK.out.2.2.2.2.2 (by have := HSZ2.out; omega)
            rw [HD2.out] at hDv
            have HSV := Keep.mk SV.tail
            clear SV
            refine wpAnyH_ready (rs := [25]) (by kernel_rfl) (by simp) ?_
            refine AllReadyH.cons rfl (fun K hK => ?_) AllReadyH.nil
            go_simp
            refine (hDv).mono ?_
            rintro e wX ⟨rfl, gX⟩
            have HSX := Keep.mk (HSV.out.grown gX)
            refine hK.out _ _ ((HSX.out.boxGet k1m).cellv 0 _ HE20.out) (fun hHeld => ?_)
            clear hK K gX hDv
            refine wpAnyH_take (i := 27) (oi := _) (v := ?_) rfl (by kernel_rfl) (by kernel_rfl) (by kernel_rfl) (fun _ _ _ h => h) (Or.inl ⟨by rfl, ?_⟩) (by assumption) ?_
            rotate_left
            · (intro w hSw; go_simp; first | done | (with_reducible rfl))
            simp only [Act.put, List.getElem_toArray, List.getElem_cons_succ, List.getElem_cons_zero, List.setIfInBounds_toArray, List.set_cons_zero, List.set_cons_succ]
            refine wpAnyH_take (i := 28) (oi := _) (v := .bool true) rfl (by kernel_rfl) (by kernel_rfl) (by kernel_rfl) (fun _ _ _ h => h) (Or.inl ⟨by rfl, ?_⟩) (by assumption) ?_
            · (intro w hSw; go_simp; first | done | (simp; done) | trace_state)
            simp only [Act.put, List.getElem_toArray, List.getElem_cons_succ, List.getElem_cons_zero, List.setIfInBounds_toArray, List.set_cons_zero, List.set_cons_succ]
            refine wpAnyH_take (i := 29) (oi := _) (v := ?_) rfl (by kernel_rfl) (by kernel_rfl) (by kernel_rfl) (fun _ _ _ h => h) (Or.inl ⟨by rfl, ?_⟩) (by assumption) ?_
            rotate_left
            · (intro w hSw; go_simp; first | done | (with_reducible rfl))
            simp only [Act.put, List.getElem_toArray, List.getElem_cons_succ, List.getElem_cons_zero, List.setIfInBounds_toArray, List.set_cons_zero, List.set_cons_succ]
            refine wpAnyH_take (i := 30) (oi := _) (v := ?_) rfl (by kernel_rfl) (by kernel_rfl) (by kernel_rfl) (fun _ _ _ h => h) (Or.inl ⟨by rfl, ?_⟩) (by assumption) ?_
            rotate_left
            · (intro w hSw; go_simp; first | done | (with_reducible rfl))
            simp only [Act.put, List.getElem_toArray, List.getElem_cons_succ, List.getElem_cons_zero, List.setIfInBounds_toArray, List.set_cons_zero, List.set_cons_succ]
            refine wpAnyH_take (i := 31) (oi := _) (v := ?_) rfl (by kernel_rfl) (by kernel_rfl) (by kernel_rfl) (fun _ _ _ h => h) (Or.inl ⟨by rfl, ?_⟩) (by assumption) ?_
            rotate_left
            · (intro w hSw; go_simp; first | done | (with_reducible rfl))
            simp only [Act.put, List.getElem_toArray, List.getElem_cons_succ, List.getElem_cons_zero, List.setIfInBounds_toArray, List.set_cons_zero, List.set_cons_succ]
            refine wpAnyH_ready (rs := [32]) (by kernel_rfl) (by simp) ?_
            refine AllReadyH.cons rfl (fun K hK => ?_) AllReadyH.nil
            go_simp
            refine hK.out _ _ (((HSX.out).boxGet k1m).cellv 0 _ HE20.out) (fun hHeld => ?_)
            clear hK K
            refine wpAnyH_done (by kernel_rfl) ?_ _
            have HGX := Keep.mk HSX.out.g
            go_wp2_with fail
            go_ret
            exact ⟨rfl, HGX.out⟩
end Go.Proofs.YtplcicbpkbamnaaDoor.Lo

