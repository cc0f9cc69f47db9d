import Derived.Test.YtplcicbpkbamnabGreatDoorX27
/- lobby: tellThose, for Expire. -/
namespace Go.Proofs.YtplcicbpkbamnabGreatDoor.Lo
open Go Go.RowKit Go.Maps
set_option maxRecDepth 100000 in
set_option maxHeartbeats 16000000 in
theorem those_e (w0 W : World) (l : List As) (lb : Nat) (X : Lb) (q : Se → Bool) (ca cb : Nat) (h : Sep w0 W (lobA lb X :: l)) (ok : LbOk X) (up : Up X)
    (hpf : ∀ (W' : World) (v : Value) (mb : Nat) (P : List (Nat × Se)) (pb : Nat) (s : Se), Sep w0 W' (lobL lb X (v, mb, P) ++ l) → (pb, s) ∈ P → s ∈ X.S → Calls Tryz.prog 62 #[pt pb, pt ca, pt cb] W' fun e W'' => e = .returned (.bool (q s)) ∧ W'.grownBy W'' none) :
    Calls Tryz.prog 45 #[pt lb, .func (.func 62) #[] #[pt ca, pt cb]] W fun e W' => ∃ v, e = .returned v ∧ Sep w0 W' (rowV 49 7 v (X.S.filter q).length (lvs (X.S.filter q)) :: lobA lb X :: l) := by
  obtain ⟨⟨v, mb, P⟩, h⟩ := h.opn
  have hP : P.map (fun p => p.2) = X.S := h.fact k0m
  have c7 : W.cell? ⟨lb, 7, none⟩ = some (.map (some mb)) := (h.boxGet k1m).cellv 7 _ rfl
  have hM : MapIs W mb (P.map fun p => (p.2.num, p.1)) := h.mapGet k3m
  have hkeys : Tb.keys (P.map fun p => (p.2.num, p.1)) = X.S.map Se.num := by
    rw [← hP]; simp [Tb.keys, Function.comp_def]
  have HND : Keep ((Tb.keys (P.map fun p => (p.2.num, p.1))).Nodup) := ⟨by rw [hkeys]; exact ok.nd⟩
  have HND2 : Keep ((P.map fun p => p.2.num).Nodup) := ⟨by have := ok.nd; rw [← hP, List.map_map] at this; exact this⟩
  have HLN : Keep ((P.map fun p => (p.2.num, p.1)).length ≤ 32) := ⟨by
    have h1 := ok.le
    have h2 := ok.m2
    rw [← hP, List.length_map] at h1
    rw [List.length_map]; omega⟩
  have HP := Keep.mk hP
  have HOK := Keep.mk ok
  have HUP := Keep.mk up
  have HPF := Keep.mk hpf
  have HS := Keep.mk h
  have HM := Keep.mk hM
  have HBX : Keep (∀ p ∈ P, boxA p.1 (sev X.r X.u p.2) 109 ∈ lobL lb X (v, mb, P) ++ l) := ⟨fun p hp => List.mem_append_left _ (by
    unfold lobL
    simp only [List.mem_cons]
    exact .inr (.inr (.inr (.inr (List.mem_map.2 ⟨p, hp, rfl⟩)))))⟩
  obtain ⟨M, hMM⟩ : ∃ M, (P.map fun p => (p.2.num, p.1)) = M := ⟨_, rfl⟩
  have HMM := Keep.mk hMM
  rw [hMM] at HM HND HLN
  obtain ⟨r, hr⟩ : ∃ r, W.heap.size = r := ⟨_, rfl⟩
  clear h hP hM hkeys hMM ok up hpf
  go_enter Tryz.func45, Tryz.ntmps45
  go_wp2_with (first | (at_range; refine wpList_range_s _ rfl (.tmp 11) rfl mb M rfl HM.out HND.out ?_))
  intro w1 hrg g1 hs1
  have S1 := HS.out.iter g1 (by rw [hr]; exact hs1)
  rw [hr] at S1
  have HS1 := Keep.mk (S1.nilV 49 7).swap
  have HRG := Keep.mk hrg
  clear hrg g1 hs1 S1 HS HM c7 hr
  first | go_frame | go_wp2_with fail
  go_loopw [5, 7] (fun u5 _ wr => ∃ L G, Keep (Rng wr mb r M L) ∧ Keep (Sep w0 wr (iterA r :: rowV 49 7 u5 G.length (lvs G) :: (lobL lb X (v, mb, P) ++ l))) ∧ Keep (Got P q L G)) (fun _ _ wr => wr.rangeLeft mb r)
  case atStart => exact ⟨M, [], HRG, HS1, ⟨Got.start HMM.out HLN.out⟩⟩
  case round =>
    clear HRG HS1
    obtain ⟨L, G, hR, hS, hQ⟩ := hrel
    go_wp2_with (first | (at_next; refine wpList_next_s _ rfl (.tmp 12) rfl mb r M L rfl hR.out ?_ ?_))
    · intro hL
      have hso := sort_all w0 wr _ u5 G (by have := hQ.out.len; omega) hS.out.swap
      have HFS := Keep.mk (Got.done HP.out HUP.out (hL ▸ hQ.out))
      clear hL hR hS hQ
      go_wp2_with fail
      refine hso.mono ?_
      rintro e w3 ⟨rfl, L', hpm, hsd, S3⟩
      have e3 := HFS.out L' hpm hsd
      have hgl : G.length = (X.S.filter q).length := by rw [← e3]; exact hpm.length_eq.symm
      rw [e3, hgl] at S3
      have S4 : Sep w0 w3 (rowV 49 7 u5 (X.S.filter q).length (lvs (X.S.filter q)) :: lobA lb X :: l) := by
        have S5 := S3.swap.tail
        have S6 : Sep w0 w3 (lobL lb X (v, mb, P) ++ (rowV 49 7 u5 (X.S.filter q).length (lvs (X.S.filter q)) :: l)) := bk1 _ S5
        exact (Sep.cls (lobL lb X) (v, mb, P) S6).swap
      have HS4 := Keep.mk S4
      clear hso S3 S4 hpm hsd e3 hgl HFS
      go_wp2_with fail
      go_ret
      exact ⟨_, rfl, HS4.out⟩
    · intro k b w2 hkb hk hR2 hlt hg2 hs2 hen
      have S2 := hS.out.iterTurn hg2 hs2
      obtain ⟨p, hp, hpe⟩ : ∃ p ∈ P, (p.2.num, p.1) = (k, b) := by
        have := hR.out.sub _ hkb
        obtain ⟨A, C, hAC, _⟩ := Tb.look_split this
        have hm : (k, b) ∈ M := by rw [hAC]; simp
        rw [← HMM.out] at hm
        obtain ⟨p, hp, e⟩ := List.mem_map.1 hm
        exact ⟨p, hp, e⟩
      obtain ⟨pb, s⟩ := p
      simp only [Prod.mk.injEq] at hpe
      obtain ⟨hsk, rfl⟩ := hpe
      subst hsk
      have hsm : s ∈ X.S := by rw [← HP.out]; exact List.mem_map.2 ⟨_, hp, rfl⟩
      have hT := HPF.out w2 v mb P pb s S2.tail.tail hp hsm
      have HGT := Keep.mk (Got.step HND2.out hQ.out hp hkb)
      have HHS := Keep.mk (HOK.out.s s hsm)
      have HS2 := Keep.mk S2
      have HR2 := Keep.mk hR2
      have HLT := Keep.mk hlt
      have HPM := Keep.mk hp
      have HLG : Keep (G.length ≤ 64) := ⟨by have := hQ.out.len; omega⟩
      clear hR hS hQ hkb hR2 hlt hg2 hs2 S2 hp hsm
      go_wp2_with fail
      refine hT.mono ?_
      rintro e w3 ⟨rfl, g3⟩
      have S3 := HS2.out.grown g3
      obtain ⟨q1, q2⟩ := HR2.out.kept g3 nofun nofun
      have HR3 := Keep.mk q1
      have HL3 : Keep (w3.rangeLeft mb r < wr.rangeLeft mb r) := ⟨by rw [q2]; exact HLT.out⟩
      have HS3 := Keep.mk S3
      clear hT g3 q1 q2 S3 HS2 HR2 HLT
      by_cases hq : q s = true
      · rw [hq]
        have HG2 := Keep.mk (HGT.out.1 hq)
        have hTT := tell_g w3 pb X.r X.u s (HS3.out.boxGet (List.mem_cons_of_mem _ (List.mem_cons_of_mem _ (HBX.out _ HPM.out)))) HHS.out.2.2.2.2.2.2.2.2.2.2.2.2.1 HHS.out.2.2.2.2.2.2.2.2.2.2.2.2.2
        clear HGT hq
        go_wp2_with fail
        refine hTT.mono ?_
        rintro e w4 ⟨rfl, g4⟩
        have S4 := HS3.out.grown g4
        obtain ⟨q1, q2⟩ := HR3.out.kept g4 nofun nofun
        obtain ⟨g9, c9, w9, ap, g5, S9⟩ := Sep.app7 s S4.swap HLG.out
        obtain ⟨a1, a2⟩ := row_apart q1 (S4.rowGet k1m)
        obtain ⟨q3, q4⟩ := q1.kept g5 a1 a2
        have HR9 := Keep.mk q3
        have HL9 : Keep (w9.rangeLeft mb r < wr.rangeLeft mb r) := ⟨by rw [q4, q2]; exact HL3.out⟩
        have HS9 := Keep.mk S9.swap
        have AP := Keep.mk ap
        have HACL : Keep ((lvc s).length = 7) := ⟨rfl⟩
        obtain ⟨cs, hcs⟩ : ∃ cs, lvc s = cs := ⟨_, rfl⟩
        rw [hcs] at AP HACL
        generalize Value.slice (some ⟨g9, 0, none⟩) (G.length + 1) c9 = v9 at *
        rw [hcs]
        clear hTT g4 S4 q1 q2 ap g5 S9 a1 a2 q3 q4 hcs HR3 HL3 HS3 HLG
        go_wp2_with (first
          | (show wpList _ _ _ ({ dst := _, op := Op.buildSlice 43 _ _, type := _, pos := _, after := _, guard := _ } :: _) _ _
             refine wpList_bs_run rfl (.tmp 22) 43 rfl _ rfl (bs7_run _ cs HACL.out) ?_)
          | (at_builtin; refine wpList_append_run _ rfl (.tmp 20) (.tmp 23) 43 rfl _ _ rfl rfl AP.out ?_))
        exact ⟨⟨_, _, HR9, HS9, HG2⟩, HL9.out⟩
      · have hq' : q s = false := by simpa using hq
        rw [hq']
        have HG2 := Keep.mk (HGT.out.2 hq')
        clear HGT hq hq'
        go_wp2_with fail
        exact ⟨⟨_, _, HR3, HS3, HG2⟩, HL3.out⟩
end Go.Proofs.YtplcicbpkbamnabGreatDoor.Lo

/- lobby: Lives, and who was silent too long. -/
namespace Go.Proofs.YtplcicbpkbamnabGreatDoor.Lo
open Go Go.RowKit Go.Maps

set_option maxRecDepth 100000 in
theorem all_c (pb : Nat) (W : World) : Calls Tryz.prog 46 #[pt pb] W fun e W' => e = .returned (.bool true) ∧ W.grownBy W' none := by
  go_enter Tryz.func46, Tryz.ntmps46
  go_wp2_with fail
  go_ret
  exact ⟨rfl, World.grownBy.refl _ _⟩
/-- Lives -/
theorem lives_c (w0 W : World) (l : List As) (lb : Nat) (X : Lb) (h : Sep w0 W (lobA lb X :: l)) (ok : LbOk X) (up : Up X) :
    Calls Tryz.prog 9 #[pt lb] W fun e W' => ∃ v, e = .returned v ∧ Sep w0 W' (rowV 49 7 v X.S.length (lvs X.S) :: lobA lb X :: l) := by
  have hT := those_a w0 W l lb X (fun _ => true) h ok up (fun W' _ _ _ pb s _ _ _ => all_c pb W')
  rw [show X.S.filter (fun _ => true) = X.S from List.filter_eq_self.2 (fun _ _ => rfl)] at hT
  clear h ok up
  go_enter Tryz.func9, Tryz.ntmps9
  go_wp2_with fail
  refine hT.mono ?_
  rintro e w1 ⟨v, rfl, S1⟩
  have HS := Keep.mk S1
  clear hT S1
  go_wp2_with fail
  go_ret
  exact ⟨_, rfl, HS.out⟩
set_option maxRecDepth 100000 in
set_option maxHeartbeats 8000000 in
theorem silent_c (W : World) (pb : Nat) (r u : Int) (s : Se) (tick : Nat) (hb : Has W pb (sev r u s) 109) (ht : tick < 18446744073709551616) (hh : s.heard < 18446744073709551616) :
    Calls Tryz.prog 63 #[pt pb, uv tick] W fun e W' => e = .returned (uv (tick - s.heard)) ∧ W.grownBy W' none := by
  have HC : Keep (W.cell? ⟨pb, 4, none⟩ = some (uv s.heard)) := ⟨hb.cellv 4 _ rfl⟩
  clear hb
  have HE : Keep (uv (tick - s.heard) = .int .u64 (IntKind.u64.wrap (max ((tick : Nat) : Int) ((s.heard : Nat) : Int) - ((s.heard : Nat) : Int)))) := ⟨by
    show Value.int .u64 ((tick - s.heard : Nat) : Int) = _
    congr 1
    unfold IntKind.wrap; simp [IntKind.signed, IntKind.bits]; omega⟩
  clear ht hh
  go_enter Tryz.func63, Tryz.ntmps63
  go_wp2_with fail
  refine wp_region_held_drew (S := fun w' => w'.cell? ⟨pb, 4, none⟩ = some (uv s.heard)) (by kernel_rfl) HC.out (fun hHeld => ?_)
  refine wpAnyH_take (i := 0) (oi := _) (v := ?_) rfl (by kernel_rfl) (by kernel_rfl) (by kernel_rfl) (fun _ _ _ h => h) (Or.inl ⟨by rfl, ?_⟩) (by assumption) ?_
  rotate_left
  · (intro w hSw; go_simp; first | done | (with_reducible rfl))
  simp only [Act.put, List.getElem_toArray, List.getElem_cons_zero, List.setIfInBounds_toArray, List.set_cons_zero, List.set_cons_succ]
  refine wpAnyH_take (i := 1) (oi := _) (v := ?_) rfl (by kernel_rfl) (by kernel_rfl) (by kernel_rfl) (fun _ _ _ h => h) (Or.inl ⟨by rfl, ?_⟩) (by assumption) ?_
  rotate_left
  · (intro w hSw; go_simp; first | done | (with_reducible rfl))
  simp only [Act.put, List.getElem_toArray, List.getElem_cons_succ, List.getElem_cons_zero, List.setIfInBounds_toArray, List.set_cons_zero, List.set_cons_succ]
  refine wpAnyH_take (i := 2) (oi := _) (v := ?_) rfl (by kernel_rfl) (by kernel_rfl) (by kernel_rfl) (fun _ _ _ h => h) (Or.inl ⟨by rfl, ?_⟩) (by assumption) ?_
  rotate_left
  · (intro w hSw; go_simp; first | done | (with_reducible rfl))
  simp only [Act.put, List.getElem_toArray, List.getElem_cons_succ, List.getElem_cons_zero, List.setIfInBounds_toArray, List.set_cons_zero, List.set_cons_succ]
  refine wpAnyH_take (i := 3) (oi := _) (v := ?_) rfl (by kernel_rfl) (by kernel_rfl) (by kernel_rfl) (fun _ _ _ h => h) (Or.inl ⟨by rfl, ?_⟩) (by assumption) ?_
  rotate_left
  · (intro w hSw; go_simp; first | done | (with_reducible rfl))
  simp only [Act.put, List.getElem_toArray, List.getElem_cons_succ, List.getElem_cons_zero, List.setIfInBounds_toArray, List.set_cons_zero, List.set_cons_succ]
  refine wpAnyH_take (i := 4) (oi := _) (v := ?_) rfl (by kernel_rfl) (by kernel_rfl) (by kernel_rfl) (fun _ _ _ h => h) (Or.inl ⟨by rfl, ?_⟩) (by assumption) ?_
  rotate_left
  · (intro w hSw; go_simp; first | done | (with_reducible rfl))
  simp only [Act.put, List.getElem_toArray, List.getElem_cons_succ, List.getElem_cons_zero, List.setIfInBounds_toArray, List.set_cons_zero, List.set_cons_succ]
  refine wpAnyH_take (i := 5) (oi := _) (v := ?_) rfl (by kernel_rfl) (by kernel_rfl) (by kernel_rfl) (fun _ _ _ h => h) (Or.inl ⟨by rfl, ?_⟩) (by assumption) ?_
  rotate_left
  · (intro w hSw; go_simp; first | done | (with_reducible rfl))
  simp only [Act.put, List.getElem_toArray, List.getElem_cons_succ, List.getElem_cons_zero, List.setIfInBounds_toArray, List.set_cons_zero, List.set_cons_succ]
  refine wpAnyH_take (i := 7) (oi := _) (v := ?_) rfl (by kernel_rfl) (by kernel_rfl) (by kernel_rfl) (fun _ _ _ h => h) (Or.inl ⟨by rfl, ?_⟩) (by assumption) ?_
  rotate_left
  · (intro w hSw; go_simp; first | done | (with_reducible rfl))
  simp only [Act.put, List.getElem_toArray, List.getElem_cons_succ, List.getElem_cons_zero, List.setIfInBounds_toArray, List.set_cons_zero, List.set_cons_succ]
  refine wpAnyH_take (i := 8) (oi := _) (v := ?_) rfl (by kernel_rfl) (by kernel_rfl) (by kernel_rfl) (fun _ _ _ h => h) (Or.inl ⟨by rfl, ?_⟩) (by assumption) ?_
  rotate_left
  · (intro w hSw; go_simp; first | done | (with_reducible rfl))
  simp only [Act.put, List.getElem_toArray, List.getElem_cons_succ, List.getElem_cons_zero, List.setIfInBounds_toArray, List.set_cons_zero, List.set_cons_succ]
  refine wpAnyH_take (i := 9) (oi := _) (v := ?_) rfl (by kernel_rfl) (by kernel_rfl) (by kernel_rfl) (fun _ _ _ h => h) (Or.inl ⟨by rfl, ?_⟩) (by assumption) ?_
  rotate_left
  · (intro w hSw; go_simp; first | done | (with_reducible rfl))
  simp only [Act.put, List.getElem_toArray, List.getElem_cons_succ, List.getElem_cons_zero, List.setIfInBounds_toArray, List.set_cons_zero, List.set_cons_succ]
  refine wpAnyH_take (i := 10) (oi := _) (v := ?_) rfl (by kernel_rfl) (by kernel_rfl) (by kernel_rfl) (fun _ _ _ h => h) (Or.inl ⟨by rfl, ?_⟩) (by assumption) ?_
  rotate_left
  · (intro w hSw; go_simp; first | done | (with_reducible rfl))
  simp only [Act.put, List.getElem_toArray, List.getElem_cons_succ, List.getElem_cons_zero, List.setIfInBounds_toArray, List.set_cons_zero, List.set_cons_succ]
  refine wpAnyH_take (i := 11) (oi := _) (v := ?_) rfl (by kernel_rfl) (by kernel_rfl) (by kernel_rfl) (fun _ _ _ h => h) (Or.inl ⟨by rfl, ?_⟩) (by assumption) ?_
  rotate_left
  · (intro w hSw; go_simp; first | done | (with_reducible rfl))
  simp only [Act.put, List.getElem_toArray, List.getElem_cons_succ, List.getElem_cons_zero, List.setIfInBounds_toArray, List.set_cons_zero, List.set_cons_succ]
  refine wpAnyH_ready (rs := [6]) (by kernel_rfl) (by simp) ?_
  refine AllReadyH.cons rfl (fun K hK => ?_) AllReadyH.nil
  go_simp
  refine hK.out _ _ HC.out (fun hHeld => ?_)
  clear hK K hHeld
  refine wpAnyH_take (i := 12) (oi := _) (v := ?_) rfl (by kernel_rfl) (by kernel_rfl) (by kernel_rfl) (fun _ _ _ h => h) (Or.inl ⟨by rfl, ?_⟩) (by assumption) ?_
  rotate_left
  · (intro w hSw; go_simp; first | done | (with_reducible rfl))
  simp only [Act.put, List.getElem_toArray, List.getElem_cons_succ, List.getElem_cons_zero, List.setIfInBounds_toArray, List.set_cons_zero, List.set_cons_succ]
  refine wpAnyH_ready (rs := [13]) (by kernel_rfl) (by simp) ?_
  refine AllReadyH.cons rfl (fun K hK => ?_) AllReadyH.nil
  go_simp
  refine hK.out _ _ HC.out (fun hHeld => ?_)
  clear hK K hHeld
  refine wpAnyH_done (by kernel_rfl) ?_ _
  go_wp2_with fail
  go_ret
  exact ⟨HE.out ▸ rfl, gr_drew _ _⟩
end Go.Proofs.YtplcicbpkbamnabGreatDoor.Lo

/- lobby: who was silent too long; a lobby without them. -/
namespace Go.Proofs.YtplcicbpkbamnabGreatDoor.Lo
open Go Go.RowKit Go.Maps

/-- silent too long -/
def slt (X : Lb) (tick : Nat) (s : Se) : Bool := decide (X.idle < tick - s.heard)
set_option maxRecDepth 100000 in
set_option maxHeartbeats 8000000 in
theorem slt_c (W : World) (pb tb kb lb : Nat) (X : Lb) (s : Se) (tick : Nat) (cs : List Value) (hb : Has W pb (sev X.r X.u s) 109) (h1 : Has W tb [uv tick] 38) (h2 : Has W kb [pt lb] 27) (h3 : Has W lb cs 70) (hc : cs[1]? = some (uv X.idle)) (ht : tick < 18446744073709551616) (hh : s.heard < 18446744073709551616) :
    Calls Tryz.prog 62 #[pt pb, pt tb, pt kb] W fun e W' => e = .returned (.bool (slt X tick s)) ∧ W.grownBy W' none := by
  have HK : Keep (∀ w', W.grownBy w' none → w'.cell? ⟨tb, 0, none⟩ = some (uv tick) ∧ w'.cell? ⟨kb, 0, none⟩ = some (pt lb) ∧ w'.cell? ⟨lb, 1, none⟩ = some (uv X.idle)) := ⟨fun w' g => ⟨(h1.kept g nofun).cellv 0 _ rfl, (h2.kept g nofun).cellv 0 _ rfl, (h3.kept g nofun).cellv 1 _ hc⟩⟩
  have hT := silent_c W.drew pb X.r X.u s tick (hb.kept (gr_drew W none) nofun) ht hh
  unfold slt
  clear hb h1 h2 h3 hc ht hh
  obtain ⟨d, hd⟩ : ∃ d, tick - s.heard = d := ⟨_, rfl⟩
  rw [hd] at hT ⊢
  clear hd
  go_enter Tryz.func62, Tryz.ntmps62
  go_wp2_with fail
  refine wp_region_held_drew (S := fun w' => w'.cell? ⟨tb, 0, none⟩ = some (uv tick) ∧ w'.cell? ⟨kb, 0, none⟩ = some (pt lb) ∧ w'.cell? ⟨lb, 1, none⟩ = some (uv X.idle)) (by kernel_rfl) (HK.out _ (gr_drew W none)) (fun hHeld => ?_)
  refine wpAnyH_take (i := 0) (oi := _) (v := ?_) rfl (by kernel_rfl) (by kernel_rfl) (by kernel_rfl) (fun _ _ _ h => h) (Or.inl ⟨by rfl, ?_⟩) (by assumption) ?_
  rotate_left
  · (intro w hSw; obtain ⟨y1, y2, y3⟩ := hSw; go_simp; first | done | (with_reducible rfl))
  simp only [Act.put, List.getElem_toArray, List.getElem_cons_zero, List.setIfInBounds_toArray, List.set_cons_zero, List.set_cons_succ]
  refine wpAnyH_take (i := 1) (oi := _) (v := ?_) rfl (by kernel_rfl) (by kernel_rfl) (by kernel_rfl) (fun _ _ _ h => h) (Or.inl ⟨by rfl, ?_⟩) (by assumption) ?_
  rotate_left
  · (intro w hSw; obtain ⟨y1, y2, y3⟩ := hSw; go_simp; first | done | (with_reducible rfl))
  simp only [Act.put, List.getElem_toArray, List.getElem_cons_succ, List.getElem_cons_zero, List.setIfInBounds_toArray, List.set_cons_zero, List.set_cons_succ]
  refine wpAnyH_take (i := 3) (oi := _) (v := ?_) rfl (by kernel_rfl) (by kernel_rfl) (by kernel_rfl) (fun _ _ _ h => h) (Or.inl ⟨by rfl, ?_⟩) (by assumption) ?_
  rotate_left
  · (intro w hSw; obtain ⟨y1, y2, y3⟩ := hSw; go_simp; first | done | (with_reducible rfl))
  simp only [Act.put, List.getElem_toArray, List.getElem_cons_succ, List.getElem_cons_zero, List.setIfInBounds_toArray, List.set_cons_zero, List.set_cons_succ]
  refine wpAnyH_take (i := 4) (oi := _) (v := ?_) rfl (by kernel_rfl) (by kernel_rfl) (by kernel_rfl) (fun _ _ _ h => h) (Or.inl ⟨by rfl, ?_⟩) (by assumption) ?_
  rotate_left
  · (intro w hSw; obtain ⟨y1, y2, y3⟩ := hSw; go_simp; first | done | (with_reducible rfl))
  simp only [Act.put, List.getElem_toArray, List.getElem_cons_succ, List.getElem_cons_zero, List.setIfInBounds_toArray, List.set_cons_zero, List.set_cons_succ]
  refine wpAnyH_take (i := 5) (oi := _) (v := ?_) rfl (by kernel_rfl) (by kernel_rfl) (by kernel_rfl) (fun _ _ _ h => h) (Or.inl ⟨by rfl, ?_⟩) (by assumption) ?_
  rotate_left
  · (intro w hSw; obtain ⟨y1, y2, y3⟩ := hSw; go_simp; first | done | (with_reducible rfl))
  simp only [Act.put, List.getElem_toArray, List.getElem_cons_succ, List.getElem_cons_zero, List.setIfInBounds_toArray, List.set_cons_zero, List.set_cons_succ]
  refine wpAnyH_take (i := 6) (oi := _) (v := ?_) rfl (by kernel_rfl) (by kernel_rfl) (by kernel_rfl) (fun _ _ _ h => h) (Or.inl ⟨by rfl, ?_⟩) (by assumption) ?_
  rotate_left
  · (intro w hSw; obtain ⟨y1, y2, y3⟩ := hSw; go_simp; first | done | (with_reducible rfl))
  simp only [Act.put, List.getElem_toArray, List.getElem_cons_succ, List.getElem_cons_zero, List.setIfInBounds_toArray, List.set_cons_zero, List.set_cons_succ]
  refine wpAnyH_ready (rs := [2]) (by kernel_rfl) (by simp) ?_
  refine AllReadyH.cons rfl (fun K hK => ?_) AllReadyH.nil
  go_simp
  refine hT.mono ?_
  rintro e w2 ⟨rfl, g2⟩
  refine hK.out _ _ (HK.out w2 ((gr_drew W none).trans g2)) (fun hHeld => ?_)
  have HG2 := Keep.mk ((gr_drew W none).trans g2)
  clear hK K hT g2
  refine wpAnyH_take (i := 7) (oi := _) (v := ?_) rfl (by kernel_rfl) (by kernel_rfl) (by kernel_rfl) (fun _ _ _ h => h) (Or.inl ⟨by rfl, ?_⟩) (by assumption) ?_
  rotate_left
  · (intro w hSw; obtain ⟨y1, y2, y3⟩ := hSw; go_simp; first | done | (with_reducible rfl))
  simp only [Act.put, List.getElem_toArray, List.getElem_cons_succ, List.getElem_cons_zero, List.setIfInBounds_toArray, List.set_cons_zero, List.set_cons_succ]
  refine wpAnyH_ready (rs := [8]) (by kernel_rfl) (by simp) ?_
  refine AllReadyH.cons rfl (fun K hK => ?_) AllReadyH.nil
  go_simp
  refine hK.out _ _ (HK.out w2 HG2.out) (fun hHeld => ?_)
  clear hK K hHeld
  refine wpAnyH_done (by kernel_rfl) ?_ _
  go_wp2_with fail
  go_ret
  exact ⟨rfl, HG2.out⟩
/-- the first i of E are gone -/
def cut (X : Lb) (E : List Se) (i : Nat) : Lb := { X with S := X.S.filter fun s => decide (s.num ∉ (E.take i).map Se.num) }
set_option maxRecDepth 100000 in
theorem cut_zero (X : Lb) (E : List Se) : cut X E 0 = X := by
  unfold cut
  rw [List.filter_eq_self.2 (by simp)]
set_option maxRecDepth 100000 in
theorem cut_step (X : Lb) {E : List Se} {i : Nat} {s : Se} (h : E[i]? = some s) : del (cut X E i) s.num = cut X E (i + 1) := by
  unfold del cut
  simp only [List.filter_filter]
  congr 1
  refine List.filter_congr fun z _ => ?_
  rw [List.take_add_one, h]
  by_cases e : z.num = s.num <;> by_cases f : z.num ∈ (E.take i).map Se.num <;> simp_all
set_option maxRecDepth 100000 in
theorem LbOk.filter {X : Lb} (ok : LbOk X) (q : Se → Bool) : LbOk { X with S := X.S.filter q } := by
  refine ⟨ok.m1, ok.m2, ok.r, ok.a1, ok.a2, ok.n1, ok.n2, ?_, fun z hz => ok.s z (List.mem_filter.1 hz).1, Nat.le_trans (List.length_filter_le ..) ok.le⟩
  exact ((List.filter_sublist (l := X.S)).map Se.num).nodup ok.nd
set_option maxRecDepth 100000 in
theorem same_num {S : List Se} (hn : (S.map Se.num).Nodup) {s z : Se} (h1 : s ∈ S) (h2 : z ∈ S) (e : s.num = z.num) : s = z := by
  obtain ⟨i, hi, e1⟩ := List.getElem_of_mem h1
  obtain ⟨j, hj, e2⟩ := List.getElem_of_mem h2
  have e3 : (S.map Se.num)[i]'(by simpa using hi) = (S.map Se.num)[j]'(by simpa using hj) := by simp [e1, e2, e]
  have e4 := (List.getElem_inj hn).1 e3
  subst e4
  rw [← e1, ← e2]
set_option maxRecDepth 100000 in
theorem fds_mem {X : Lb} (hn : (X.S.map Se.num).Nodup) {s : Se} (h : s ∈ X.S) : fds X s.num = some s := by
  cases hf : fds X s.num with
  | none =>
    unfold fds at hf
    have := List.find?_eq_none.1 hf s h
    simp at this
  | some z =>
    obtain ⟨h1, h2⟩ := fds_num hf
    rw [same_num hn h1 h h2]
/-- those that are gone -/
def expL (X : Lb) (tick : Nat) : List Se := X.S.filter (slt X tick)
def expX (X : Lb) (tick : Nat) : Lb := { X with S := X.S.filter fun s => !slt X tick s }
set_option maxRecDepth 100000 in
theorem cut_at {X : Lb} {tick i : Nat} {s : Se} (ok : LbOk X) (h : (expL X tick)[i]? = some s) : fds (cut X (expL X tick) i) s.num = some s := by
  have hm : s ∈ X.S := (List.mem_filter.1 (List.mem_of_getElem? h)).1
  have hnd : ((expL X tick).map Se.num).Nodup := (ok.filter (slt X tick)).nd
  refine fds_mem (ok.filter _).nd (List.mem_filter.2 ⟨hm, ?_⟩)
  simp only [decide_eq_true_eq]
  intro q
  obtain ⟨hi, e⟩ := List.getElem?_eq_some_iff.1 h
  rw [List.map_take] at q
  obtain ⟨j, hj, e2⟩ := List.getElem_of_mem q
  rw [List.getElem_take] at e2
  rw [List.length_take] at hj
  have e3 : ((expL X tick).map Se.num)[j]'(by omega) = ((expL X tick).map Se.num)[i]'(by simpa using hi) := by rw [e2]; simp [e]
  have := (List.getElem_inj hnd).1 e3
  omega
set_option maxRecDepth 100000 in
theorem cut_end {X : Lb} {tick : Nat} (ok : LbOk X) : cut X (expL X tick) (expL X tick).length = expX X tick := by
  unfold cut expX
  congr 1
  refine List.filter_congr fun z hz => ?_
  rw [List.take_of_length_le (Nat.le_refl _)]
  by_cases q : slt X tick z = true
  · rw [q]
    simp only [Bool.not_true, decide_eq_false_iff_not, Decidable.not_not]
    exact List.mem_map.2 ⟨z, List.mem_filter.2 ⟨hz, q⟩, rfl⟩
  · have q' : slt X tick z = false := by simpa using q
    rw [q']
    simp only [Bool.not_false, decide_eq_true_eq]
    intro hm
    obtain ⟨y, hy, e⟩ := List.mem_map.1 hm
    obtain ⟨hy1, hy2⟩ := List.mem_filter.1 hy
    rw [same_num ok.nd hy1 hz e] at hy2
    exact q hy2
set_option maxRecDepth 100000 in
theorem LbOk.expire {X : Lb} (ok : LbOk X) (tick : Nat) : LbOk (expX X tick) := ok.filter _
set_option maxRecDepth 100000 in
theorem Up.expire {X : Lb} (h : Up X) (tick : Nat) : Up (expX X tick) := h.filter _
set_option maxRecDepth 100000 in
theorem lvs_get {L : List Se} {j : Nat} {s : Se} (hj : L[j]? = some s) (i : Nat) (v : Value) (hv : (lvc s)[i]? = some v) : (lvs L)[j * 7 + i]? = some v := by
  obtain ⟨hj1, e⟩ := List.getElem?_eq_some_iff.1 hj
  have e2 : L = L.take j ++ s :: L.drop (j + 1) := by rw [← e, ← List.drop_eq_getElem_cons hj1, List.take_append_drop]
  have hl : (lvs (L.take j)).length = j * 7 := by
    rw [lvs_len, List.length_take]; congr 1; omega
  have hi : i < (lvc s).length := (List.getElem?_eq_some_iff.1 hv).1
  have e3 : lvs L = lvs (L.take j) ++ (lvc s ++ lvs (L.drop (j + 1))) := by
    conv => lhs; rw [e2]
    simp [lvs]
  rw [e3, List.getElem?_append_right (by omega), hl, show j * 7 + i - j * 7 = i by omega, List.getElem?_append_left hi]
  exact hv
/-- how a row of what is told is read -/
theorem lv_at {W : World} {v : Value} {L : List Se} (h : W.ownsRow 0 49 7 v L.length (lvs L)) : ∃ a cap, v = .slice a L.length cap ∧ (0 < L.length → ∃ g, a = some ⟨g, 0, none⟩ ∧ ∀ (j : Nat) (x : Se), L[j]? = some x → W.rangeAt g (j * 7) (lvc x)) := by
  by_cases hn : 0 < L.length
  · obtain ⟨g, c, rfl, q⟩ := own_any h hn
    refine ⟨_, c, rfl, fun _ => ⟨g, rfl, fun j x hx i v hv => ?_⟩⟩
    exact (q _ _ (lvs_get hx i v hv)).1
  · obtain ⟨a, c, rfl⟩ := own_slice h
    exact ⟨a, c, rfl, fun h => absurd h hn⟩
end Go.Proofs.YtplcicbpkbamnabGreatDoor.Lo

/- lobby: Expire. -/
namespace Go.Proofs.YtplcicbpkbamnabGreatDoor.Lo
open Go Go.RowKit Go.Maps

set_option maxRecDepth 100000 in
theorem lob_dl {w0 W : World} {l : List As} {lb : Nat} {X : Lb} (h : Sep w0 W (lobA lb X :: l)) (ok : LbOk X) (k : Nat) (hk : k < 18446744073709551616) {s0 : Se} (hf : fds X k = some s0) :
    ∃ mb b W', W.cell? ⟨lb, 7, none⟩ = some (.map (some mb)) ∧ (Instr.lookup 68 (.map (some mb)) (uv k) true).run Tryz.prog W = .ok (.tuple #[pt b, .bool true]) W ∧ (Builtin.delete_ #[68, 38] 0 #[.map (some mb), uv k]).run Tryz.prog W = .ok (.tuple #[]) W' ∧ W'.cell? ⟨lb, 7, none⟩ = some (.map (some mb)) ∧
      Sep w0 W' (boxA b (sev X.r X.u s0) 109 :: lobA lb (del X k) :: l) := by
  obtain ⟨⟨v, mb, P⟩, h⟩ := h.opn
  have hP : P.map (fun p => p.2) = X.S := h.fact k0m
  have c7 : W.cell? ⟨lb, 7, none⟩ = some (.map (some mb)) := (h.boxGet k1m).cellv 7 _ rfl
  have hl := (h.mapGet k3m).look k hk
  have hkeys : Tb.keys (P.map fun p => (p.2.num, p.1)) = X.S.map Se.num := by
    rw [← hP]; simp [Tb.keys, Function.comp_def]
  have hndM : (Tb.keys (P.map fun p => (p.2.num, p.1))).Nodup := by rw [hkeys]; exact ok.nd
  cases hq : Tb.look (P.map fun p => (p.2.num, p.1)) k with
  | none =>
    have hn := Tb.look_none.1 hq
    rw [hkeys] at hn
    have hm := List.mem_of_find?_eq_some hf
    have hs := List.find?_some hf
    simp only [decide_eq_true_eq] at hs
    exact absurd (hs ▸ List.mem_map_of_mem hm) hn
  | some b =>
    obtain ⟨W', hdr, hS'⟩ := (fr1 [_, _, _] h).mapDrop k hk 0 hndM b hq
    obtain ⟨A, C, hM, hA⟩ := Tb.look_split hq
    obtain ⟨P1, P2', rfl, hP1, hP2⟩ := List.map_eq_append_iff.1 hM
    obtain ⟨p, P2, rfl, hp, hP2⟩ := List.map_eq_cons_iff.1 hP2
    obtain ⟨pb, s⟩ := p
    simp only [Prod.mk.injEq] at hp
    obtain ⟨hs, rfl⟩ := hp
    have hS : X.S = P1.map (fun p => p.2) ++ s :: P2.map (fun p => p.2) := by rw [← hP]; simp
    have hnd := ok.nd
    rw [hS, List.map_append, List.map_cons] at hnd
    obtain ⟨n1, n2, n3⟩ := List.nodup_append.1 hnd
    obtain ⟨n4, n5⟩ := List.nodup_cons.1 n2
    have hk1 : k ∉ (P1.map (fun p => p.2)).map Se.num := fun q => n3 k q k (by rw [hs]; exact List.mem_cons_self ..) rfl
    have hk2 : k ∉ (P2.map (fun p => p.2)).map Se.num := by rw [← hs]; exact n4
    have e0 : s0 = s := by
      unfold fds at hf
      rw [hS, List.find?_append, List.find?_cons] at hf
      have e1 : (P1.map (fun p => p.2)).find? (fun s => decide (s.num = k)) = none := by
        rw [List.find?_eq_none]
        intro z hz
        simp only [decide_eq_true_eq]
        exact fun e => hk1 (e ▸ List.mem_map_of_mem hz)
      rw [e1, hs] at hf
      simpa using hf.symm
    subst e0
    have hrm : Tb.rm ((P1 ++ (pb, s0) :: P2).map fun p => (p.2.num, p.1)) k = (P1 ++ P2).map fun p => (p.2.num, p.1) := by
      rw [List.map_append, List.map_cons, List.map_append]
      simp only [hs]
      refine Tb.rm_mid ?_ ?_
      · simpa [Tb.keys, Function.comp_def] using hk1
      · simpa [Tb.keys, Function.comp_def] using hk2
    simp only at hl
    rw [hq] at hl
    refine ⟨mb, pb, W', c7, hl, hdr, ?_⟩
    rw [hrm] at hS'
    have hU : (P1 ++ P2).map (fun p => p.2) = (del X k).S := by
      simp only [del, hS, List.filter_append, List.filter_cons]
      rw [filter_same hk1, filter_same hk2]
      simp [hs]
    have h2 : Sep w0 W' (([mapA mb ((P1 ++ P2).map fun p => (p.2.num, p.1)), boxA lb [iv (X.most : Nat), uv X.idle, iv X.r, iv X.u, iv (16 * X.u), v, uv X.next, .map (some mb)] 70, rowV 104 33 v X.A.length (acs X.A)] ++ (P1.map fun p => boxA p.1 (sev X.r X.u p.2) 109)) ++ boxA pb (sev X.r X.u s0) 109 :: ((P2.map fun p => boxA p.1 (sev X.r X.u p.2) 109) ++ l)) := by
      have h1 := (fr1 [_] hS').tail
      refine h1.perm (List.Perm.of_eq ?_)
      simp
    have h3 := fr1 _ h2
    have h5 : Sep w0 W' (boxA pb (sev X.r X.u s0) 109 :: ((mapA mb ((P1 ++ P2).map fun p => (p.2.num, p.1)) :: boxA lb [iv (X.most : Nat), uv X.idle, iv X.r, iv X.u, iv (16 * X.u), v, uv X.next, .map (some mb)] 70 :: rowV 104 33 v X.A.length (acs X.A) :: ((P1 ++ P2).map fun p => boxA p.1 (sev X.r X.u p.2) 109)) ++ l)) := by
      refine h3.perm (List.Perm.of_eq ?_)
      simp
    have h6 := bk1 _ h5
    have h7 := h6.perm ((List.perm_append_comm (l₁ := [mapA mb ((P1 ++ P2).map fun p => (p.2.num, p.1))]) (l₂ := [boxA lb [iv (X.most : Nat), uv X.idle, iv X.r, iv X.u, iv (16 * X.u), v, uv X.next, .map (some mb)] 70, rowV 104 33 v X.A.length (acs X.A)])).append_right _)
    exact ⟨(h7.boxGet k0m).cellv 7 _ rfl, Sep.swap (Sep.cls (lobL lb (del X k)) (v, mb, P1 ++ P2) (h7.know hU))⟩
set_option maxRecDepth 100000 in
set_option maxHeartbeats 16000000 in
theorem expire_c (w0 W : World) (l : List As) (lb : Nat) (X : Lb) (tick : Nat) (h : Sep w0 W (lobA lb X :: l)) (ok : LbOk X) (up : Up X) (ht : tick < 18446744073709551616) :
    Calls Tryz.prog 20 #[pt lb, uv tick] W fun e W' => ∃ v, e = .returned v ∧ Sep w0 W' (rowV 49 7 v (expL X tick).length (lvs (expL X tick)) :: lobA lb (expX X tick) :: l) := by
  obtain ⟨du, hdu, hdr⟩ := under42
  have S1 := h.newBox #[pt lb] 27
  obtain ⟨W1, hW1⟩ : ∃ W1, W.alloc (.cells #[pt lb] 27) = W1 := ⟨_, rfl⟩
  obtain ⟨kb, hkb⟩ : ∃ kb, W.heap.size = kb := ⟨_, rfl⟩
  rw [hW1, hkb] at S1
  have S2 := S1.newBox #[uv tick] 38
  obtain ⟨W2, hW2⟩ : ∃ W2, W1.alloc (.cells #[uv tick] 38) = W2 := ⟨_, rfl⟩
  obtain ⟨tb, htb⟩ : ∃ tb, W1.heap.size = tb := ⟨_, rfl⟩
  rw [hW2, htb] at S2
  change Sep w0 W2 (boxA tb [uv tick] 38 :: boxA kb [pt lb] 27 :: lobA lb X :: l) at S2
  have c0 : W2.cell? ⟨kb, 0, none⟩ = some (pt lb) := (S2.boxGet k1m).cellv 0 _ rfl
  have hT := those_e w0 W2 (boxA tb [uv tick] 38 :: boxA kb [pt lb] 27 :: l) lb X (slt X tick) tb kb S2.third ok up (fun W' v mb P pb s hS hp hs => by
    have hbx : boxA pb (sev X.r X.u s) 109 ∈ lobL lb X (v, mb, P) ++ (boxA tb [uv tick] 38 :: boxA kb [pt lb] 27 :: l) := List.mem_append_left _ (by
      unfold lobL
      simp only [List.mem_cons]
      exact .inr (.inr (.inr (.inr (List.mem_map.2 ⟨_, hp, rfl⟩)))))
    exact slt_c W' pb tb kb lb X s tick _ (hS.boxGet hbx) (hS.boxGet (List.mem_append_right _ k0m)) (hS.boxGet (List.mem_append_right _ k1m)) (hS.boxGet k1m) rfl ht (ok.s s hs).2.2.2.2.2.1)
  change Calls Tryz.prog 45 _ _ (fun e W' => ∃ v, e = .returned v ∧ Sep w0 W' (rowV 49 7 v (expL X tick).length (lvs (expL X tick)) :: lobA lb X :: boxA tb [uv tick] 38 :: boxA kb [pt lb] 27 :: l)) at hT
  have HOK := Keep.mk ok
  have HND := Keep.mk (cut_end (tick := tick) ok)
  have HAT : Keep (∀ i s, (expL X tick)[i]? = some s → fds (cut X (expL X tick) i) s.num = some s ∧ LbOk (cut X (expL X tick) i) ∧ s.num < 18446744073709551616 ∧ del (cut X (expL X tick) i) s.num = cut X (expL X tick) (i + 1)) := ⟨fun i s hs => ⟨cut_at ok hs, ok.filter _, by
    have h1 := (ok.s s (List.mem_filter.1 (List.mem_of_getElem? hs)).1).2.1
    have h2 := ok.n2
    omega, cut_step X hs⟩⟩
  have HLE : Keep ((expL X tick).length ≤ 32) := ⟨by
    have h1 := ok.le
    have h2 := ok.m2
    have h3 : (expL X tick).length ≤ X.S.length := List.length_filter_le ..
    omega⟩
  generalize expL X tick = E at hT HND HAT HLE ⊢
  have HZ := cut_zero X E
  rw [← HZ] at hT
  clear h S1 S2 ok up ht HOK HZ
  obtain ⟨n, hn⟩ : ∃ n, E.length = n := ⟨_, rfl⟩
  rw [hn] at hT HND HLE ⊢
  rw [← HND.out]
  clear HND
  go_enter Tryz.func20, Tryz.ntmps20
  go_wp2_with fail
  refine hT.mono ?_
  rintro e w3 ⟨v, rfl, S3⟩
  obtain ⟨a, cap, rfl, _⟩ := lv_at (L := E) (by rw [hn]; exact S3.rowGet k0m)
  rw [hn] at S3 ⊢
  have HN : Keep (E.length = n ∧ n ≤ 32) := ⟨hn, HLE.out⟩
  have HS3 := Keep.mk S3
  clear hT S3 c0 hW1 hkb hW2 htb hn HLE
  go_wp2_with fail
  go_loopw [7, 13] (fun _ u wr => ∃ i : Nat, i ≤ n ∧ u = .int .i64 i ∧ Keep (Sep w0 wr (rowV 49 7 (.slice a n cap) n (lvs E) :: lobA lb (cut X E i) :: boxA tb [uv tick] 38 :: boxA kb [pt lb] 27 :: l))) (fun _ u _ => (n - intOf u).toNat)
  case atStart => exact ⟨0, by omega, rfl, HS3⟩
  case round =>
    clear HS3
    obtain ⟨i, hi, rfl, hS⟩ := hrel
    by_cases hlt : i < n
    · obtain ⟨x, hx⟩ : ∃ x, E[i]? = some x := ⟨_, List.getElem?_eq_getElem (by rw [HN.out.1]; exact hlt)⟩
      obtain ⟨a', cap', e, hq⟩ := lv_at (L := E) (by rw [HN.out.1]; exact hS.out.rowGet k0m)
      injection e with e1 e2 e3
      obtain ⟨g, hg, hq⟩ := hq (by rw [HN.out.1]; omega)
      rw [← e1] at hg
      subst hg
      have HRG := Keep.mk (hq i x hx)
      have HXS : Keep ((lvc x).length = 7) := ⟨rfl⟩
      have HXA := Keep.mk (HAT.out i x hx)
      have hi0 : (0 : Int) ≤ (i : Int) := by omega
      have hi1 : (i : Int) < (n : Nat) := by omega
      have hti : ((i : Nat) : Int).toNat = i := by omega
      have hwi : IntKind.i64.wrap ((i : Int) + 1) = ((i + 1 : Nat) : Int) := by have := HN.out.2; rw [wi _ (by omega) (by omega)]; omega
      have HI : Keep (i < n) := ⟨hlt⟩
      have HL1 := Keep.mk (lvc_one x)
      clear hq e1 e2 e3 hx hlt hi
      obtain ⟨cs, hcs⟩ : ∃ cs, lvc x = cs := ⟨_, rfl⟩
      rw [hcs] at HRG HXS HL1
      have HCS := Keep.mk hcs
      clear hcs
      go_wp2_with (first
        | (show wpList _ _ _ ({ dst := _, op := Op.load 49 _, type := _, pos := _, after := _, guard := _ } :: _) _ _
           refine wpList_load_mid rfl 49 _ rfl _ _ rfl _ _ HRG.out hdu hdr (by rw [HXS.out]; exact info42) ?_)
        | (show wpList _ _ _ ({ dst := _, op := Op.store 49 _ _, type := _, pos := _, after := _, guard := _ } :: _) _ _
           refine store_new _ cs 49 rfl rfl rfl rfl (by rw [HXS.out]; rfl) (by rw [HXS.out]; exact info42) HL1.out ?_))
      intro w6 hS6 g6
      have S6 := hS6 w0 _ hS.out
      obtain ⟨bb, hbb⟩ : ∃ bb, wr.heap.size = bb := ⟨_, rfl⟩
      rw [hbb] at S6 ⊢
      have SD := S6.grown (gr_drew w6 none)
      obtain ⟨mb, b, W9, c7, _, hdl, d7, S9⟩ := lob_dl SD.third HXA.out.2.1 x.num HXA.out.2.2.1 HXA.out.1
      rw [HXA.out.2.2.2] at S9
      have HK8 : Keep (w6.drew.cell? ⟨kb, 0, none⟩ = some (pt lb) ∧ w6.drew.cell? ⟨lb, 7, none⟩ = some (.map (some mb)) ∧ w6.drew.cell? ⟨bb, 0, none⟩ = some (uv x.num)) := ⟨(SD.boxGet k4m).cellv 0 _ rfl, c7, (SD.boxGet k0m).cellv 0 _ (by rw [← HCS.out]; rfl)⟩
      have HK9 : Keep (W9.cell? ⟨kb, 0, none⟩ = some (pt lb) ∧ W9.cell? ⟨lb, 7, none⟩ = some (.map (some mb)) ∧ W9.cell? ⟨bb, 0, none⟩ = some (uv x.num)) := ⟨(S9.boxGet k5m).cellv 0 _ rfl, d7, (S9.boxGet k2m).cellv 0 _ (by rw [← HCS.out]; rfl)⟩
      have HS9 : Keep (Sep w0 W9 (rowV 49 7 (.slice (some ⟨g, 0, none⟩) n cap) n (lvs E) :: lobA lb (cut X E (i + 1)) :: boxA tb [uv tick] 38 :: boxA kb [pt lb] 27 :: l)) := ⟨by
        have q1 := S9.tail
        have q2 := q1.swap.tail
        exact q2.swap⟩
      clear hS hS6 g6 S6 SD c7 d7 S9 hbb HRG HXA
      go_wp2_with fail
      refine wp_region_held_drew (S := fun W' => W'.cell? ⟨kb, 0, none⟩ = some (pt lb) ∧ W'.cell? ⟨lb, 7, none⟩ = some (.map (some mb)) ∧ W'.cell? ⟨bb, 0, none⟩ = some (uv x.num)) (by kernel_rfl) HK8.out (fun hHeld => ?_)
      refine wpAnyH_take (i := 0) (oi := _) (v := ?_) rfl (by kernel_rfl) (by kernel_rfl) (by kernel_rfl) (fun _ _ _ h => h) (Or.inl ⟨by rfl, ?_⟩) (by assumption) ?_
      rotate_left
      · (intro w hSw; obtain ⟨y1, y2, y3⟩ := hSw; go_simp; first | done | (with_reducible rfl))
      simp only [Act.put, List.getElem_toArray, List.getElem_cons_zero, List.setIfInBounds_toArray, List.set_cons_zero, List.set_cons_succ]
      refine wpAnyH_take (i := 1) (oi := _) (v := ?_) rfl (by kernel_rfl) (by kernel_rfl) (by kernel_rfl) (fun _ _ _ h => h) (Or.inl ⟨by rfl, ?_⟩) (by assumption) ?_
      rotate_left
      · (intro w hSw; obtain ⟨y1, y2, y3⟩ := hSw; go_simp; first | done | (with_reducible rfl))
      simp only [Act.put, List.getElem_toArray, List.getElem_cons_succ, List.getElem_cons_zero, List.setIfInBounds_toArray, List.set_cons_zero, List.set_cons_succ]
      refine wpAnyH_take (i := 2) (oi := _) (v := ?_) rfl (by kernel_rfl) (by kernel_rfl) (by kernel_rfl) (fun _ _ _ h => h) (Or.inl ⟨by rfl, ?_⟩) (by assumption) ?_
      rotate_left
      · (intro w hSw; obtain ⟨y1, y2, y3⟩ := hSw; go_simp; first | done | (with_reducible rfl))
      simp only [Act.put, List.getElem_toArray, List.getElem_cons_succ, List.getElem_cons_zero, List.setIfInBounds_toArray, List.set_cons_zero, List.set_cons_succ]
      refine wpAnyH_take (i := 3) (oi := _) (v := ?_) rfl (by kernel_rfl) (by kernel_rfl) (by kernel_rfl) (fun _ _ _ h => h) (Or.inl ⟨by rfl, ?_⟩) (by assumption) ?_
      rotate_left
      · (intro w hSw; obtain ⟨y1, y2, y3⟩ := hSw; go_simp; first | done | (with_reducible rfl))
      simp only [Act.put, List.getElem_toArray, List.getElem_cons_succ, List.getElem_cons_zero, List.setIfInBounds_toArray, List.set_cons_zero, List.set_cons_succ]
      refine wpAnyH_take (i := 4) (oi := _) (v := ?_) rfl (by kernel_rfl) (by kernel_rfl) (by kernel_rfl) (fun _ _ _ h => h) (Or.inl ⟨by rfl, ?_⟩) (by assumption) ?_
      rotate_left
      · (intro w hSw; obtain ⟨y1, y2, y3⟩ := hSw; go_simp; first | done | (with_reducible rfl))
      simp only [Act.put, List.getElem_toArray, List.getElem_cons_succ, List.getElem_cons_zero, List.setIfInBounds_toArray, List.set_cons_zero, List.set_cons_succ]
      refine wpAnyH_take (i := 5) (oi := _) (v := ?_) rfl (by kernel_rfl) (by kernel_rfl) (by kernel_rfl) (fun _ _ _ h => h) (Or.inl ⟨by rfl, ?_⟩) (by assumption) ?_
      rotate_left
      · (intro w hSw; obtain ⟨y1, y2, y3⟩ := hSw; go_simp; first | done | (with_reducible rfl))
      simp only [Act.put, List.getElem_toArray, List.getElem_cons_succ, List.getElem_cons_zero, List.setIfInBounds_toArray, List.set_cons_zero, List.set_cons_succ]
      refine wpAnyH_ready (rs := [6]) (by kernel_rfl) (by simp) ?_
      refine AllReadyH.cons rfl (fun K hK => ?_) AllReadyH.nil
      go_simp
      refine hK.out _ _ HK9.out (fun hHeld => ?_)
      clear hK K
      refine wpAnyH_done (by kernel_rfl) ?_ _
      go_wp2_with fail
      exact ⟨⟨i + 1, by have := HI.out; omega, by simp, HS9⟩, by simp only [intOf]; have := HI.out; omega⟩
    · obtain rfl : i = n := by omega
      have HF : Keep (Sep w0 wr (rowV 49 7 (.slice a i cap) i (lvs E) :: lobA lb (cut X E i) :: l)) := ⟨by
        have q := hS.out.swap
        have q3 : Sep w0 wr ([lobA lb (cut X E i), rowV 49 7 (.slice a i cap) i (lvs E)] ++ ([boxA tb [uv tick] 38, boxA kb [pt lb] 27] ++ l)) := q
        exact (Sep.dropM _ _ q3).swap⟩
      have hge : ¬ ((i : Int) < (i : Nat)) := by omega
      clear hS hlt hi
      go_wp2_with fail
      go_ret
      exact ⟨_, rfl, HF.out⟩
end Go.Proofs.YtplcicbpkbamnabGreatDoor.Lo

