import Derived.Test.YtplcicbpkbamnabGreatDoorX33
import Derived.Test.YtplcicbpkbamnabGreatDoorX27
/- LobbyPlays: the reference's Mark and Accept -/
namespace Go.Proofs.YtplcicbpkbamnabGreatDoor.Lo
open Go Go.RowKit Go.Maps

set_option maxRecDepth 100000 in
theorem info38b : ∃ i, Tryz.prog.info? 38 = some i ∧ i.size = 1 ∧ i.bytes = 8 ∧ i.zero = some (.int .u64 0) := by
  have h : (Tryz.prog.info? 38).map (fun i => (i.size, i.bytes, i.zero)) = some (1, 8, some (.int .u64 0)) := by kernel_rfl
  cases hq : Tryz.prog.info? 38 with
  | none => simp [hq] at h
  | some i =>
    simp only [hq, Option.map_some, Option.some.injEq, Prod.mk.injEq] at h
    exact ⟨i, rfl, h.1, h.2.1, h.2.2⟩
set_option maxRecDepth 100000 in
theorem under133 : Tryz.prog.underlying 133 = some (.slice 38) := by kernel_rfl
set_option maxRecDepth 100000 in
theorem Inv.snoc {h B : Nat} {L : List Nat} (v : Wi.Inv h B L) {s : Nat} (hc : Wi.chk h B s = 0) : Wi.Inv (Wi.mkH h B s) (Wi.mkB h B s) (L ++ [s]) := by
  have q := v.yes hc
  exact ⟨fun i => by rw [q.bit]; simp [or_comm], fun m hm => q.le m (by simpa [or_comm] using hm), fun hh => by simpa [or_comm] using q.top hh⟩
set_option maxRecDepth 100000 in
set_option maxHeartbeats 8000000 in
theorem rmark_s (w0 W : World) (l : List As) (wb h B s : Nat) (sv : Value) (L : List Nat) (hS : Sep w0 W (boxA wb [sv, uv h] 135 :: rowV 38 1 sv L.length (L.map uv) :: l)) (v : Wi.Inv h B L) (hh : h < 18446744073709551616) (hn : L.length ≤ 900) (hlt : ∀ x ∈ L, x < 18446744073709551616) (hs : s < 18446744073709551616) (hc : Wi.chk h B s = 0) :
    Calls Tryz.prog 78 #[pt wb, uv s] W fun e W' => e = .returned (iv 0) ∧ ∃ sv', Sep w0 W' (boxA wb [sv', uv (Wi.mkH h B s)] 135 :: rowV 38 1 sv' (L ++ [s]).length ((L ++ [s]).map uv) :: l) := by
  obtain ⟨a, c, e, hrw⟩ := rw_of hS k0m k1m (by omega) hlt
  have hck := Wi.rcheck_c hrw v hh s hs
  rw [hc] at hck
  subst e
  obtain ⟨i, i1, i2, i3, i4⟩ := info38b
  obtain ⟨g, cc, W2, r1, S2⟩ := Sep.app under133 i1 i4 i2 i3 rfl (by omega) hS.swap [uv s] rfl (by intro u hu; rw [List.mem_singleton] at hu; rw [hu]; rfl) (by omega) (by omega)
  have c0 : W.cell? ⟨wb, 0, none⟩ = some (.slice a L.length c) := (hS.boxGet k0m).cellv 0 _ rfl
  have d0 : W2.cell? ⟨wb, 0, none⟩ = some (.slice a L.length c) := (S2.boxGet k1m).cellv 0 _ rfl
  have f0 : W2.frozen? ⟨wb, 0, none⟩ = false := (S2.boxGet k1m).frozen 0
  have S3 := S2.swap.boxPut 0 (.slice (some ⟨g, 0, none⟩) (L.length + 1) cc)
  obtain ⟨W3, hW3⟩ : ∃ W3, W2.setCell ⟨wb, 0, none⟩ (.slice (some ⟨g, 0, none⟩) (L.length + 1) cc) = W3 := ⟨_, rfl⟩
  rw [hW3] at S3
  have d1 : W3.cell? ⟨wb, 1, none⟩ = some (uv h) := (S3.boxGet k0m).cellv 1 _ rfl
  have f1 : W3.frozen? ⟨wb, 1, none⟩ = false := (S3.boxGet k0m).frozen 1
  have HA := Keep.mk r1
  have eH : Wi.mkH h B s = max h s := if_pos hc
  have HL : Keep ((L ++ [s]).length = L.length + 1 ∧ (L ++ [s]).map uv = L.map uv ++ [uv s]) := ⟨by simp, by simp⟩
  have S3' : Sep w0 W3 (boxA wb [.slice (some ⟨g, 0, none⟩) (L.length + 1) cc, uv h] 135 :: rowV 38 1 (.slice (some ⟨g, 0, none⟩) (L.length + 1) cc) (L.length + 1) (L.map uv ++ [uv s]) :: l) := S3
  by_cases hu : h < s
  · have S4 := S3'.boxPut 1 (uv s)
    obtain ⟨W4, hW4⟩ : ∃ W4, W3.setCell ⟨wb, 1, none⟩ (uv s) = W4 := ⟨_, rfl⟩
    rw [hW4] at S4
    have HF : Keep (∃ sv', Sep w0 W4 (boxA wb [sv', uv (Wi.mkH h B s)] 135 :: rowV 38 1 sv' (L ++ [s]).length ((L ++ [s]).map uv) :: l)) := ⟨_, by rw [eH, HL.out.1, HL.out.2, show max h s = s by omega]; exact S4⟩
    have hu1 : (h : Int) < (s : Int) := by omega
    have hu2 : decide (h < s) = true := decide_eq_true hu
    clear hS v hrw S2 S3 S3' S4 eH r1
    go_enter Tryz.func78, Tryz.ntmps78
    go_wp2_with fail
    refine hck.mono ?_
    rintro e w1 ⟨rfl, hw⟩
    subst hw
    clear hck
    go_wp2_with (at_builtin; refine wpList_append_run _ rfl (.tmp 16) (.tmp 18) 133 rfl _ _ rfl rfl HA.out ?_)
    go_ret
    exact ⟨rfl, HF.out⟩
  · have HF : Keep (∃ sv', Sep w0 W3 (boxA wb [sv', uv (Wi.mkH h B s)] 135 :: rowV 38 1 sv' (L ++ [s]).length ((L ++ [s]).map uv) :: l)) := ⟨_, by rw [eH, HL.out.1, HL.out.2, show max h s = h by omega]; exact S3'⟩
    have hu1 : ¬ (h : Int) < (s : Int) := by omega
    have hu2 : decide (h < s) = false := decide_eq_false hu
    clear hS v hrw S2 S3 S3' eH r1
    go_enter Tryz.func78, Tryz.ntmps78
    go_wp2_with fail
    refine hck.mono ?_
    rintro e w1 ⟨rfl, hw⟩
    subst hw
    clear hck
    go_wp2_with (at_builtin; refine wpList_append_run _ rfl (.tmp 16) (.tmp 18) 133 rfl _ _ rfl rfl HA.out ?_)
    go_ret
    exact ⟨rfl, HF.out⟩
set_option maxRecDepth 100000 in
set_option maxHeartbeats 16000000 in
theorem racp_c (w0 W : World) (l : List As) (kb : Nat) (X : Lb) (Y : Rl) (k q tick : Nat) (cmd : Bool) (h : Sep w0 W (rlobA kb Y :: l)) (hr : Rel X Y) (hn : Y.S.length ≤ 1000000) (ok : LbOk X) (hL : ∀ x ∈ Y.S, x.L.length < 900) (hq : q < 18446744073709551616) :
    Calls Tryz.prog 28 #[pt kb, uv k, uv q, .bool cmd, uv tick] W fun e W' => e = .returned (iv (acpS X k q cmd)) ∧ ∃ Y', Sep w0 W' (rlobA kb Y' :: l) ∧ Rel (acpX X k q cmd tick) Y' ∧ Y'.S.length = Y.S.length ∧ ∀ m, (∀ x ∈ Y.S, x.L.length ≤ m) → ∀ x ∈ Y'.S, x.L.length ≤ m + 1 := by
  obtain ⟨F, hfo, hc⟩ := rl_find k h hr hn
  rcases hc with ⟨rfl, hf⟩ | ⟨p, A, C, hole, rfl, hf, hY, hnum, hg, hS, hB⟩
  · have HR : Keep (acpS X k q cmd = 122 ∧ acpX X k q cmd tick = X) := ⟨by unfold acpS acpX; rw [hf]; exact ⟨rfl, rfl⟩⟩
    have HF : Keep (∃ Y', Sep w0 W (rlobA kb Y' :: l) ∧ Rel X Y' ∧ Y'.S.length = Y.S.length ∧ ∀ m, (∀ x ∈ Y.S, x.L.length ≤ m) → ∀ x ∈ Y'.S, x.L.length ≤ m + 1) := ⟨Y, h, hr, rfl, fun m hm x hx => Nat.le_succ_of_le (hm x hx)⟩
    clear hf h hr hn ok hL
    go_enter Tryz.func28, Tryz.ntmps28
    go_wp2_with fail
    refine hfo.mono ?_
    rintro e w1 ⟨rfl, hw⟩
    subst hw
    clear hfo
    go_wp2_with fail
    go_ret
    rw [HR.out.1, HR.out.2]
    exact ⟨rfl, HF.out⟩
  · have HR : Keep (acpS X k q cmd = accC p.x.s q cmd ∧ acpX X k q cmd tick = upd X k (accE p.x.s q cmd tick)) := ⟨by unfold acpS acpX; rw [hf]; exact ⟨rfl, rfl⟩⟩
    have hpm : p.x ∈ Y.S := by rw [hY]; simp
    have hok := hr.ok p.x hpm
    have hLp := hL p.x hpm
    have hm : p.x.s ∈ X.S := (fds_num hf).1
    obtain ⟨hwh, hy0, hy1⟩ : p.x.s.wh < 18446744073709551616 ∧ 0 ≤ p.x.s.y ∧ p.x.s.y ≤ 16000 := by
      have := ok.s p.x.s hm
      have := ok.r.2.2.2
      omega
    have c9 : W.cell? ⟨p.sb, 9, none⟩ = some (pt p.wb) := (hS.boxGet k0m).cellv 9 _ rfl
    obtain ⟨a, c, _, hrw⟩ := rw_of hS k1m k2m (by have := hok.len; omega) hok.lt
    have hck := Wi.rcheck_c hrw hok.inv hwh q hq
    have HSAME : Keep (∃ Y', Sep w0 W (rlobA kb Y' :: l) ∧ Rel X Y' ∧ Y'.S.length = Y.S.length ∧ ∀ m, (∀ x ∈ Y.S, x.L.length ≤ m) → ∀ x ∈ Y'.S, x.L.length ≤ m + 1) := ⟨Y, h, hr, rfl, fun m hm x hx => Nat.le_succ_of_le (hm x hx)⟩
    have hupd : upd X k p.x.s = X := by
      have hh := hr.upd hY hnum hg (x' := p.x) hnum hg hok
      have e : (upd X k p.x.s).S = X.S := by rw [hh.s, hr.s, hY]
      unfold upd at e ⊢
      rw [show (X.S.map fun s => if s.num = k then p.x.s else s) = X.S from e]
    by_cases hc : Wi.chk p.x.s.wh p.x.s.wb q = 0
    · rw [hc] at hck
      -- what comes of it
      have HGO : Keep (∀ (W' : World) (sv' : Value), Sep w0 W' (boxA p.sb (rsv X.r X.u p.wb ⟨acc p.x.s q cmd tick, p.x.L ++ [q], false⟩) 94 :: boxA p.wb [sv', uv (Wi.mkH p.x.s.wh p.x.s.wb q)] 135 :: rowV 38 1 sv' (p.x.L ++ [q]).length ((p.x.L ++ [q]).map uv) :: hole) → accC p.x.s q cmd = 0 → ∃ Y', Sep w0 W' (rlobA kb Y' :: l) ∧ Rel (upd X k (accE p.x.s q cmd tick)) Y' ∧ Y'.S.length = Y.S.length ∧ ∀ m, (∀ x ∈ Y.S, x.L.length ≤ m) → ∀ x ∈ Y'.S, x.L.length ≤ m + 1) := ⟨fun W' sv' hh h0 => by
        have e : accE p.x.s q cmd tick = acc p.x.s q cmd tick := by unfold accE; rw [if_pos h0]
        rw [e]
        refine ⟨_, hB W' ⟨acc p.x.s q cmd tick, p.x.L ++ [q], false⟩ sv' hh, hr.upd hY hnum hg (x' := ⟨acc p.x.s q cmd tick, p.x.L ++ [q], false⟩) hnum rfl ⟨Inv.snoc hok.inv hc, by simp; omega, fun z hz => ?_⟩, by rw [hY]; simp, fun m hm x hx => ?_⟩
        · rcases List.mem_append.1 hz with z1 | z1
          · exact hok.lt z z1
          · rw [List.mem_singleton.1 z1]; exact hq
        · rcases List.mem_append.1 hx with z1 | z1
          · exact Nat.le_succ_of_le (hm x (by rw [hY]; exact List.mem_append_left _ z1))
          · rcases List.mem_cons.1 z1 with rfl | z1
            · have := hm p.x hpm
              show (p.x.L ++ [q]).length ≤ _
              simp; exact this
            · exact Nat.le_succ_of_le (hm x (by rw [hY]; exact List.mem_append_right _ (List.mem_cons_of_mem _ z1)))⟩
      have HMK : Keep (∀ W' yy, Sep w0 W' (boxA p.sb (rsv X.r X.u p.wb ⟨{ p.x.s with y := yy }, p.x.L, p.x.g⟩) 94 :: boxA p.wb [p.sv, uv p.x.s.wh] 135 :: rowV 38 1 p.sv p.x.L.length (p.x.L.map uv) :: hole) → Calls Tryz.prog 78 #[pt p.wb, uv q] W' fun e W'' => e = .returned (iv 0) ∧ ∃ sv', Sep w0 W'' (boxA p.wb [sv', uv (Wi.mkH p.x.s.wh p.x.s.wb q)] 135 :: rowV 38 1 sv' (p.x.L ++ [q]).length ((p.x.L ++ [q]).map uv) :: boxA p.sb (rsv X.r X.u p.wb ⟨{ p.x.s with y := yy }, p.x.L, p.x.g⟩) 94 :: hole)) := ⟨fun W' yy hh => rmark_s w0 W' _ p.wb p.x.s.wh p.x.s.wb q p.sv p.x.L (hh.perm ((List.Perm.swap _ _ _).trans (List.Perm.cons _ (List.Perm.swap _ _ _)))) hok.inv hwh hok.len hok.lt hq hc⟩
      cases cmd with
      | false =>
        have h0 : accC p.x.s q false = 0 := by simp [accC, hc]
        have hmk := HMK.out W p.x.s.y hS
        have HG0 := Keep.mk (And.intro h0 hg)
        clear hf h hr hn ok hL hS hB hok hm hwh hrw hY HMK hnum hpm hupd HSAME
        go_enter Tryz.func28, Tryz.ntmps28
        go_wp2_with fail
        refine hfo.mono ?_
        rintro e w1 ⟨rfl, hw⟩
        subst hw
        clear hfo
        go_wp2_with fail
        refine hck.mono ?_
        rintro e w2 ⟨rfl, hw⟩
        subst hw
        clear hck
        go_wp2_with fail
        refine hmk.mono ?_
        rintro e w3 ⟨rfl, sv', S3⟩
        have S3' := S3.third
        obtain ⟨mh, hmh⟩ : ∃ mh, Wi.mkH p.x.s.wh p.x.s.wb q = mh := ⟨_, rfl⟩
        rw [hmh] at S3' HGO
        have y9 : w3.cell? ⟨p.sb, 9, none⟩ = some (pt p.wb) := (S3'.boxGet k0m).cellv 9 _ rfl
        have q1 : w3.cell? ⟨p.wb, 1, none⟩ = some (uv mh) := (S3'.boxGet k1m).cellv 1 _ rfl
        have y5 : w3.cell? ⟨p.sb, 5, none⟩ = some (uv p.x.s.high) := (S3'.boxGet k0m).cellv 5 _ rfl
        have z5 : w3.frozen? ⟨p.sb, 5, none⟩ = false := (S3'.boxGet k0m).frozen 5
        have S6 := S3'.boxPut 5 (uv mh)
        obtain ⟨W6, hW6⟩ : ∃ W6, w3.setCell ⟨p.sb, 5, none⟩ (uv mh) = W6 := ⟨_, rfl⟩
        rw [hW6] at S6
        have y4 : W6.cell? ⟨p.sb, 4, none⟩ = some (uv p.x.s.heard) := (S6.boxGet k0m).cellv 4 _ rfl
        have z4 : W6.frozen? ⟨p.sb, 4, none⟩ = false := (S6.boxGet k0m).frozen 4
        have S7 := S6.boxPut 4 (uv tick)
        have HFIN : Keep (∃ Y', Sep w0 (W6.setCell ⟨p.sb, 4, none⟩ (uv tick)) (rlobA kb Y' :: l) ∧ Rel (upd X k (accE p.x.s q false tick)) Y' ∧ Y'.S.length = Y.S.length ∧ ∀ m, (∀ x ∈ Y.S, x.L.length ≤ m) → ∀ x ∈ Y'.S, x.L.length ≤ m + 1) := ⟨HGO.out _ sv' (by
          have e : rsv X.r X.u p.wb ⟨acc p.x.s q false tick, p.x.L ++ [q], false⟩ = ((rsv X.r X.u p.wb ⟨{ p.x.s with y := p.x.s.y }, p.x.L, p.x.g⟩).set 5 (uv mh)).set 4 (uv tick) := by
            rw [HG0.out.2, ← hmh]; rfl
          rw [e]
          exact S7) HG0.out.1⟩
        clear hmk S3 S3' S6 S7 HGO
        go_wp2_with fail
        go_ret
        rw [HR.out.1, HR.out.2, HG0.out.1]
        exact ⟨rfl, HFIN.out⟩
      | true =>
        by_cases h16 : p.x.s.y < 16
        · have h0 : accC p.x.s q true = 80 := by simp [accC, hc, h16]
          have hE : accE p.x.s q true tick = p.x.s := by unfold accE; rw [if_neg (by rw [h0]; decide)]
          have c10 : W.cell? ⟨p.sb, 10, none⟩ = some (iv X.r) := (hS.boxGet k0m).cellv 10 _ rfl
          have c11 : W.cell? ⟨p.sb, 11, none⟩ = some (iv (16 * X.u)) := (hS.boxGet k0m).cellv 11 _ rfl
          have c12 : W.cell? ⟨p.sb, 12, none⟩ = some (iv p.x.s.y) := (hS.boxGet k0m).cellv 12 _ rfl
          have hTk := Bu.rtake_c X.r (16 * X.u) p.x.s.y W hy0 hy1
          have et : Bu.tcode p.x.s.y = 80 := if_pos h16
          rw [et] at hTk
          have HRR : Keep (acpS X k q true = 80 ∧ acpX X k q true tick = X) := ⟨by rw [HR.out.1]; exact h0, by rw [HR.out.2, hE, hupd]⟩
          have HKO : Keep (∃ Y', Sep w0 W (rlobA kb Y' :: l) ∧ Rel X Y' ∧ Y'.S.length = Y.S.length ∧ ∀ m, (∀ x ∈ Y.S, x.L.length ≤ m) → ∀ x ∈ Y'.S, x.L.length ≤ m + 1) := HSAME
          clear hf h hn ok hL hS hB hok hm hwh hrw hY HMK hnum hpm HGO hupd HR HSAME
          go_enter Tryz.func28, Tryz.ntmps28
          go_wp2_with fail
          refine hfo.mono ?_
          rintro e w1 ⟨rfl, hw⟩
          subst hw
          clear hfo
          go_wp2_with fail
          refine hck.mono ?_
          rintro e w2 ⟨rfl, hw⟩
          subst hw
          clear hck
          go_wp2_with fail
          refine hTk.mono ?_
          rintro e w3 ⟨rfl, g3⟩
          have HG4 : Keep (∀ o, w2.grownBy (w3.alloc o) none) := ⟨fun o => g3.trans (World.grownBy_alloc _ _ _)⟩
          clear hTk g3
          go_wp2_with fail
          go_ret
          rw [HRR.out.1, HRR.out.2]
          obtain ⟨Y', z1, z2, z3⟩ := HKO.out
          exact ⟨rfl, Y', z1.grown (HG4.out _), z2, z3⟩
        · have h0 : accC p.x.s q true = 0 := by simp [accC, hc, h16]
          have c10 : W.cell? ⟨p.sb, 10, none⟩ = some (iv X.r) := (hS.boxGet k0m).cellv 10 _ rfl
          have c11 : W.cell? ⟨p.sb, 11, none⟩ = some (iv (16 * X.u)) := (hS.boxGet k0m).cellv 11 _ rfl
          have c12 : W.cell? ⟨p.sb, 12, none⟩ = some (iv p.x.s.y) := (hS.boxGet k0m).cellv 12 _ rfl
          have hTk := Bu.rtake_c X.r (16 * X.u) p.x.s.y W hy0 hy1
          have et : Bu.tcode p.x.s.y = 0 := if_neg (by omega)
          have ek : Bu.took p.x.s.y = p.x.s.y - 16 := if_neg (by omega)
          rw [et, ek] at hTk
          have HG0 := Keep.mk (And.intro h0 hg)
          have HS := Keep.mk hS
          clear hf h hr hn ok hL hS hB hok hm hwh hrw hY hnum hpm hupd HSAME
          go_enter Tryz.func28, Tryz.ntmps28
          go_wp2_with fail
          refine hfo.mono ?_
          rintro e w1 ⟨rfl, hw⟩
          subst hw
          clear hfo
          go_wp2_with fail
          refine hck.mono ?_
          rintro e w2 ⟨rfl, hw⟩
          subst hw
          clear hck
          go_wp2_with fail
          refine hTk.mono ?_
          rintro e w3 ⟨rfl, g3⟩
          have S4 := (HS.out.grown g3).newBox #[iv X.r, iv (16 * X.u), iv (p.x.s.y - 16)] 92
          obtain ⟨W4, hW4⟩ : ∃ W4, w3.alloc (.cells #[iv X.r, iv (16 * X.u), iv (p.x.s.y - 16)] 92) = W4 := ⟨_, rfl⟩
          obtain ⟨tb, htb⟩ : ∃ tb, w3.heap.size = tb := ⟨_, rfl⟩
          rw [hW4, htb] at S4
          have t0 : W4.cell? ⟨tb, 0, none⟩ = some (iv X.r) := (S4.boxGet k0m).cellv 0 _ rfl
          have t1 : W4.cell? ⟨tb, 1, none⟩ = some (iv (16 * X.u)) := (S4.boxGet k0m).cellv 1 _ rfl
          have t2 : W4.cell? ⟨tb, 2, none⟩ = some (iv (p.x.s.y - 16)) := (S4.boxGet k0m).cellv 2 _ rfl
          have s10 : W4.cell? ⟨p.sb, 10, none⟩ = some (iv X.r) := (S4.boxGet k1m).cellv 10 _ rfl
          have z10 : W4.frozen? ⟨p.sb, 10, none⟩ = false := (S4.boxGet k1m).frozen 10
          have s11 : W4.cell? ⟨p.sb, 11, none⟩ = some (iv (16 * X.u)) := (S4.boxGet k1m).cellv 11 _ rfl
          have z11 : W4.frozen? ⟨p.sb, 11, none⟩ = false := (S4.boxGet k1m).frozen 11
          have s12 : W4.cell? ⟨p.sb, 12, none⟩ = some (iv p.x.s.y) := (S4.boxGet k1m).cellv 12 _ rfl
          have z12 : W4.frozen? ⟨p.sb, 12, none⟩ = false := (S4.boxGet k1m).frozen 12
          have S5 := ((S4.tail.boxPut 10 (iv X.r)).boxPut 11 (iv (16 * X.u))).boxPut 12 (iv (p.x.s.y - 16))
          obtain ⟨W5, hW5⟩ : ∃ W5, ((W4.setCell ⟨p.sb, 10, none⟩ (iv X.r)).setCell ⟨p.sb, 11, none⟩ (iv (16 * X.u))).setCell ⟨p.sb, 12, none⟩ (iv (p.x.s.y - 16)) = W5 := ⟨_, rfl⟩
          rw [hW5] at S5
          have S5' : Sep w0 W5 (boxA p.sb (rsv X.r X.u p.wb ⟨{ p.x.s with y := p.x.s.y - 16 }, p.x.L, p.x.g⟩) 94 :: boxA p.wb [p.sv, uv p.x.s.wh] 135 :: rowV 38 1 p.sv p.x.L.length (p.x.L.map uv) :: hole) := S5
          have y9 : W5.cell? ⟨p.sb, 9, none⟩ = some (pt p.wb) := (S5'.boxGet k0m).cellv 9 _ rfl
          have hmk := HMK.out W5 (p.x.s.y - 16) S5'
          clear hTk g3 S4 S5 S5' HS HMK
          go_wp2_with fail
          refine hmk.mono ?_
          rintro e w5 ⟨rfl, sv', S3⟩
          have S3' := S3.third
          obtain ⟨mh, hmh⟩ : ∃ mh, Wi.mkH p.x.s.wh p.x.s.wb q = mh := ⟨_, rfl⟩
          rw [hmh] at S3' HGO
          have y9 : w5.cell? ⟨p.sb, 9, none⟩ = some (pt p.wb) := (S3'.boxGet k0m).cellv 9 _ rfl
          have q1 : w5.cell? ⟨p.wb, 1, none⟩ = some (uv mh) := (S3'.boxGet k1m).cellv 1 _ rfl
          have y5 : w5.cell? ⟨p.sb, 5, none⟩ = some (uv p.x.s.high) := (S3'.boxGet k0m).cellv 5 _ rfl
          have z5 : w5.frozen? ⟨p.sb, 5, none⟩ = false := (S3'.boxGet k0m).frozen 5
          have S6 := S3'.boxPut 5 (uv mh)
          obtain ⟨W6, hW6⟩ : ∃ W6, w5.setCell ⟨p.sb, 5, none⟩ (uv mh) = W6 := ⟨_, rfl⟩
          rw [hW6] at S6
          have y4 : W6.cell? ⟨p.sb, 4, none⟩ = some (uv p.x.s.heard) := (S6.boxGet k0m).cellv 4 _ rfl
          have z4 : W6.frozen? ⟨p.sb, 4, none⟩ = false := (S6.boxGet k0m).frozen 4
          have S7 := S6.boxPut 4 (uv tick)
          have HFIN : Keep (∃ Y', Sep w0 (W6.setCell ⟨p.sb, 4, none⟩ (uv tick)) (rlobA kb Y' :: l) ∧ Rel (upd X k (accE p.x.s q true tick)) Y' ∧ Y'.S.length = Y.S.length ∧ ∀ m, (∀ x ∈ Y.S, x.L.length ≤ m) → ∀ x ∈ Y'.S, x.L.length ≤ m + 1) := ⟨HGO.out _ sv' (by
            have e : rsv X.r X.u p.wb ⟨acc p.x.s q true tick, p.x.L ++ [q], false⟩ = ((rsv X.r X.u p.wb ⟨{ p.x.s with y := p.x.s.y - 16 }, p.x.L, p.x.g⟩).set 5 (uv mh)).set 4 (uv tick) := by
              rw [HG0.out.2, ← hmh]; rfl
            rw [e]
            exact S7) HG0.out.1⟩
          clear hmk S3 S3' S6 S7 HGO
          go_wp2_with fail
          go_ret
          rw [HR.out.1, HR.out.2, HG0.out.1]
          exact ⟨rfl, HFIN.out⟩
    · have hz : accC p.x.s q cmd = ((Wi.chk p.x.s.wh p.x.s.wb q : Nat) : Int) := by unfold accC; rw [if_pos hc]
      have hE : accE p.x.s q cmd tick = p.x.s := by unfold accE; rw [if_neg (by rw [hz]; omega)]
      have HRR : Keep (acpS X k q cmd = ((Wi.chk p.x.s.wh p.x.s.wb q : Nat) : Int) ∧ acpX X k q cmd tick = X) := ⟨by rw [HR.out.1, hz], by rw [HR.out.2, hE, hupd]⟩
      obtain ⟨ck, hck'⟩ : ∃ ck, ((Wi.chk p.x.s.wh p.x.s.wb q : Nat) : Int) = ck := ⟨_, rfl⟩
      have n0 : ¬ ck = 0 := by omega
      have n1 : (ck == 0) = false := by simpa using n0
      have n2 : decide (ck = 0) = false := decide_eq_false n0
      rw [hck'] at hck HRR
      clear hf h hr hn ok hL hS hB hok hm hwh hrw hY hnum hpm hupd HR hz hE hck' hc
      go_enter Tryz.func28, Tryz.ntmps28
      go_wp2_with fail
      refine hfo.mono ?_
      rintro e w1 ⟨rfl, hw⟩
      subst hw
      clear hfo
      go_wp2_with fail
      refine hck.mono ?_
      rintro e w2 ⟨rfl, hw⟩
      subst hw
      clear hck
      go_wp2_with fail
      go_ret
      rw [HRR.out.1, HRR.out.2]
      exact ⟨rfl, HSAME.out⟩
end Go.Proofs.YtplcicbpkbamnabGreatDoor.Lo

/- LobbyPlays: the reference's lives and Lives -/
namespace Go.Proofs.YtplcicbpkbamnabGreatDoor.Lo
open Go Go.RowKit Go.Maps

set_option maxRecDepth 100000 in
theorem info95b : ∃ i, Tryz.prog.info? 95 = some i ∧ i.size = 1 ∧ i.bytes = 8 ∧ i.zero = some np := by
  have h : (Tryz.prog.info? 95).map (fun i => (i.size, i.bytes, i.zero)) = some (1, 8, some np) := by kernel_rfl
  cases hq : Tryz.prog.info? 95 with
  | none => simp [hq] at h
  | some i =>
    simp only [hq, Option.map_some, Option.some.injEq, Prod.mk.injEq] at h
    exact ⟨i, rfl, h.1, h.2.1, h.2.2⟩
set_option maxRecDepth 100000 in
theorem under76 : Tryz.prog.underlying 76 = some (.slice 95) := by kernel_rfl
/-- those that live, where they lie -/
def lvP (ps : List Rp) : List Rp := ps.filter fun p => !p.x.g
theorem lvP_s (ps : List Rp) : (lvP ps).map (fun p => p.x.s) = lvY (ps.map Rp.x) := by
  unfold lvP lvY
  rw [List.filter_map, List.map_map]
  rfl
theorem lvP_succ {ps : List Rp} {i : Nat} {p : Rp} (h : ps[i]? = some p) : lvP (ps.take (i + 1)) = if p.x.g then lvP (ps.take i) else lvP (ps.take i) ++ [p] := by
  unfold lvP
  rw [List.take_add_one, h, List.filter_append]
  cases hg : p.x.g <;> simp [hg]
set_option maxRecDepth 100000 in
set_option maxHeartbeats 8000000 in
theorem rlives_o (w0 W : World) (l : List As) (kb : Nat) (Y : Rl) (q : Value × Value × List Rp) (h : Sep w0 W (rlobL kb Y q ++ l)) (hn : Y.S.length ≤ 1000000) :
    Calls Tryz.prog 47 #[pt kb] W fun e W' => ∃ v, e = .returned v ∧ Sep w0 W' (rowV 95 1 v (lvP q.2.2).length ((lvP q.2.2).map fun (z : Rp) => pt z.sb) :: (rlobL kb Y q ++ l)) := by
  obtain ⟨n, hnn⟩ : ∃ n, Y.S.length = n := ⟨_, rfl⟩
  have hR := rd_of h
  obtain ⟨a, cap, hs⟩ := hR.sl
  rw [hnn] at hs hn
  have HR : Keep (∀ W', Sep w0 W' (rlobL kb Y q ++ l) → RdL W' kb Y q ∧ W'.cell? ⟨kb, 13, none⟩ = some (.slice a n cap)) := ⟨fun W' hh => ⟨rd_of hh, by have := (rd_of hh).c13; rw [hs] at this; exact this⟩⟩
  have HL : Keep (q.2.2.length = n ∧ Y.S.length = n ∧ q.2.1 = .slice a n cap) := ⟨by rw [hR.len, hnn], hnn, hs⟩
  have HS : Keep (Sep w0 W (rowV 95 1 (.slice none 0 0) (lvP (q.2.2.take 0)).length ((lvP (q.2.2.take 0)).map fun (z : Rp) => pt z.sb) :: (rlobL kb Y q ++ l))) := ⟨h.nilV 95 1⟩
  clear h hR hs hnn
  go_enter Tryz.func47, Tryz.ntmps47
  go_wp2_with fail
  go_loopw [3, 4] (fun v u wr => ∃ i : Nat, i ≤ n ∧ u = iv i ∧ (∃ a c, v = .slice a (lvP (q.2.2.take i)).length c) ∧ Keep (Sep w0 wr (rowV 95 1 v (lvP (q.2.2.take i)).length ((lvP (q.2.2.take i)).map fun (z : Rp) => pt z.sb) :: (rlobL kb Y q ++ l)))) (fun _ u _ => (n - intOf u).toNat)
  case atStart => exact ⟨0, by omega, rfl, ⟨none, 0, rfl⟩, HS⟩
  case round =>
    clear HS
    obtain ⟨i, hi, rfl, ⟨av, cv, rfl⟩, hS⟩ := hrel
    obtain ⟨hR, c13⟩ := HR.out _ hS.out.tail
    by_cases hlt : i < n
    · obtain ⟨p, hp⟩ : ∃ p, q.2.2[i]? = some p := ⟨_, List.getElem?_eq_getElem (by rw [HL.out.1]; exact hlt)⟩
      obtain ⟨g, cap', e, hc⟩ := hR.row (by rw [HL.out.2.1]; omega)
      rw [HL.out.2.2, HL.out.2.1] at e
      injection e with e1 e2 e3
      subst e1 e3
      have g0 := hc i p hp
      have hp2 := (hR.at_ p (List.mem_of_getElem? hp)).1
      have s13 : wr.cell? ⟨p.sb, 13, none⟩ = some (.bool p.x.g) := hp2.cellv 13 _ rfl
      have hi0 : (0 : Int) ≤ (i : Int) := by omega
      have hi1 : (i : Int) < (n : Nat) := by omega
      have hti : ((i : Nat) : Int).toNat = i := by omega
      have hwi : IntKind.i64.wrap ((i : Int) + 1) = ((i + 1 : Nat) : Int) := by rw [wi _ (by omega) (by omega)]; omega
      have HSU := Keep.mk (lvP_succ hp)
      have hle : (lvP (q.2.2.take i)).length ≤ i := by
        have h1 := List.length_filter_le (fun p : Rp => !p.x.g) (q.2.2.take i)
        have h2 := List.length_take_le i q.2.2
        unfold lvP; omega
      obtain ⟨pg, hpg⟩ : ∃ pg, p.x.g = pg := ⟨_, rfl⟩
      rw [hpg] at s13 HSU
      clear hc hp2 e2 hp hR hpg
      cases pg with
      | true =>
        have HSX : Keep (Sep w0 wr (rowV 95 1 (.slice av (lvP (q.2.2.take (i + 1))).length cv) (lvP (q.2.2.take (i + 1))).length ((lvP (q.2.2.take (i + 1))).map fun (z : Rp) => pt z.sb) :: (rlobL kb Y q ++ l))) := ⟨by rw [HSU.out, if_pos rfl]; exact hS.out⟩
        have HEQ : Keep ((lvP (q.2.2.take (i + 1))).length = (lvP (q.2.2.take i)).length) := ⟨by rw [HSU.out, if_pos rfl]⟩
        obtain ⟨m, hm⟩ : ∃ m, (lvP (q.2.2.take i)).length = m := ⟨_, rfl⟩
        rw [hm] at HEQ ⊢
        rw [HEQ.out] at HSX
        clear hS hle hm
        go_wp2_with fail
        go_roundw
        case rel => exact ⟨i + 1, by omega, rfl, ⟨av, cv, by rw [HEQ.out]⟩, by rw [HEQ.out]; exact HSX⟩
        case measure => simp [intOf]; omega
      | false =>
        obtain ⟨ii, j1, j2, j3, j4⟩ := info95b
        obtain ⟨g2, c2, W2, r1, S2⟩ := Sep.app under76 j1 j4 j2 j3 rfl (by omega) hS.out [pt p.sb] rfl (by intro u hu; rw [List.mem_singleton] at hu; rw [hu]; rfl) (by omega) (by omega)
        have HEQ : Keep ((lvP (q.2.2.take (i + 1))).length = (lvP (q.2.2.take i)).length + 1 ∧ ((lvP (q.2.2.take (i + 1))).map fun (z : Rp) => pt z.sb) = ((lvP (q.2.2.take i)).map fun (z : Rp) => pt z.sb) ++ [pt p.sb]) := ⟨by rw [HSU.out]; simp⟩
        obtain ⟨m, hm⟩ : ∃ m, (lvP (q.2.2.take i)).length = m := ⟨_, rfl⟩
        rw [hm] at HEQ r1 S2 ⊢
        obtain ⟨m1, hm1⟩ : ∃ m1, m + 1 = m1 := ⟨_, rfl⟩
        rw [hm1] at HEQ r1 S2
        have HSX : Keep (Sep w0 W2 (rowV 95 1 (.slice (some ⟨g2, 0, none⟩) m1 c2) (lvP (q.2.2.take (i + 1))).length ((lvP (q.2.2.take (i + 1))).map fun (z : Rp) => pt z.sb) :: (rlobL kb Y q ++ l))) := ⟨by rw [HEQ.out.1, HEQ.out.2]; exact S2⟩
        have HA := Keep.mk r1
        clear hS hle hm hm1 r1 S2
        go_wp2_with (at_builtin; refine wpList_append_run _ rfl (.tmp 25) (.tmp 33) 76 rfl _ _ rfl rfl HA.out ?_)
        go_roundw
        case rel => exact ⟨i + 1, by omega, rfl, ⟨_, _, by rw [HEQ.out.1]⟩, HSX⟩
        case measure => simp [intOf]; omega
    · have hi1 : ¬ (i : Int) < (n : Nat) := by omega
      have hall : q.2.2.take i = q.2.2 := List.take_of_length_le (by rw [HL.out.1]; omega)
      rw [hall] at hS
      have HF := hS
      have HAL := Keep.mk hall
      obtain ⟨m, hm⟩ : ∃ m, (lvP (q.2.2.take i)).length = m := ⟨_, rfl⟩
      have hm2 : (lvP q.2.2).length = m := by rw [← hm, hall]
      rw [hm]
      rw [hm2] at HF
      clear hS hall hR
      go_wp2_with fail
      go_ret
      exact ⟨_, rfl, HF.out⟩
theorem lvP_mem {ps : List Rp} {i : Nat} {p : Rp} (h : (lvP ps)[i]? = some p) : p ∈ ps ∧ p.x.g = false := by
  have := List.mem_filter.1 (List.mem_of_getElem? h)
  exact ⟨this.1, by simpa using this.2⟩
set_option maxRecDepth 100000 in
theorem bs43 (w : World) (s : Se) : (Instr.buildSlice 43 1 #[(0, .agg (lvc s).toArray)]).run Tryz.prog w = .ok (.slice (some ⟨w.heap.size, 0, none⟩) 1 1) (w.alloc (.cells (lvc s).toArray 49)) := by kernel_rfl
/-- a row of pointers that is read -/
theorem row_ptr {W : World} {v : Value} {L : List Rp} (h : W.ownsRow 0 95 1 v L.length (L.map fun (z : Rp) => pt z.sb)) {i : Nat} {p : Rp} (hp : L[i]? = some p) : ∃ g c, v = .slice (some ⟨g, 0, none⟩) L.length c ∧ W.cell? ⟨g, i, none⟩ = some (pt p.sb) := by
  obtain ⟨g, c, e, hc⟩ := own_any h (by have := (List.getElem?_eq_some_iff.1 hp).1; omega)
  exact ⟨g, c, e, (hc i _ (by rw [List.getElem?_map, hp]; rfl)).1⟩
set_option maxRecDepth 100000 in
set_option maxHeartbeats 8000000 in
theorem rLives_c (w0 W : World) (l : List As) (kb : Nat) (X : Lb) (Y : Rl) (h : Sep w0 W (rlobA kb Y :: l)) (hr : Rel X Y) (hn : Y.S.length ≤ 1000000) (ok : LbOk X) :
    Calls Tryz.prog 10 #[pt kb] W fun e W' => ∃ v, e = .returned v ∧ Sep w0 W' (rowV 49 7 v X.S.length (lvs X.S) :: rlobA kb Y :: l) := by
  obtain ⟨du, hdu, hdr⟩ := under42
  obtain ⟨q, h⟩ := h.opn
  have hfact : q.2.2.map Rp.x = Y.S := h.fact (l := rlobL kb Y q ++ l) k0m
  have hXS : (lvP q.2.2).map (fun p => p.x.s) = X.S := by rw [lvP_s, hfact, hr.s]
  obtain ⟨n, hnn⟩ : ∃ n, (lvP q.2.2).length = n := ⟨_, rfl⟩
  have hXn : X.S.length = n := by rw [← hXS, List.length_map, hnn]
  have hle : n ≤ 32 := by have := ok.le; have := ok.m2; omega
  have hlv := rlives_o w0 W l kb Y q h hn
  have HX := Keep.mk (And.intro hXS (And.intro hnn hXn))
  rw [hnn] at hlv
  clear h hr hn ok hXS hnn hXn hfact
  go_enter Tryz.func10, Tryz.ntmps10
  go_wp2_with fail
  refine hlv.mono ?_
  rintro e w1 ⟨vp, rfl, S1⟩
  obtain ⟨pa, pc', hvp⟩ := own_slice (S1.rowGet k0m)
  subst hvp
  have HS : Keep (Sep w0 w1 (rowV 49 7 (.slice none 0 0) (X.S.take 0).length (lvs (X.S.take 0)) :: rowV 95 1 (.slice pa n pc') n ((lvP q.2.2).map fun (z : Rp) => pt z.sb) :: (rlobL kb Y q ++ l))) := ⟨S1.nilV 49 7⟩
  clear hlv S1
  go_wp2_with fail
  go_loopw [3, 5] (fun v u wr => ∃ i : Nat, i ≤ n ∧ u = iv i ∧ (∃ a c, v = .slice a i c) ∧ Keep (Sep w0 wr (rowV 49 7 v (X.S.take i).length (lvs (X.S.take i)) :: rowV 95 1 (.slice pa n pc') n ((lvP q.2.2).map fun (z : Rp) => pt z.sb) :: (rlobL kb Y q ++ l)))) (fun _ u _ => (n - intOf u).toNat)
  case atStart => exact ⟨0, by omega, rfl, ⟨none, 0, rfl⟩, HS⟩
  case round =>
    clear HS
    obtain ⟨i, hi, rfl, ⟨av, cv, rfl⟩, hS⟩ := hrel
    by_cases hlt : i < n
    · obtain ⟨p, hp⟩ : ∃ p, (lvP q.2.2)[i]? = some p := ⟨_, List.getElem?_eq_getElem (by rw [HX.out.2.1]; exact hlt)⟩
      have hrow : wr.ownsRow 0 95 1 (.slice pa n pc') (lvP q.2.2).length ((lvP q.2.2).map fun (z : Rp) => pt z.sb) := by rw [HX.out.2.1]; exact hS.out.rowGet k1m
      obtain ⟨g, c, e, g0⟩ := row_ptr hrow hp
      rw [HX.out.2.1] at e
      injection e with e1 e2 e3
      subst e1 e3
      have hXi : X.S[i]? = some p.x.s := by rw [← HX.out.1, List.getElem?_map, hp]; rfl
      have hp2 := ((rd_of hS.out.tail.tail).at_ p (lvP_mem hp).1).1
      have RNG := Keep.mk (rs_lv hp2)
      have htk : (X.S.take i).length = i := by rw [List.length_take, HX.out.2.2]; omega
      obtain ⟨g2, c2, W2, r1, _, S2⟩ := hS.out.app7 p.x.s (by omega)
      rw [htk] at r1 S2
      have HEQ : Keep (X.S.take (i + 1) = X.S.take i ++ [p.x.s]) := ⟨by rw [List.take_add_one, hXi]; rfl⟩
      have HSX : Keep (Sep w0 W2 (rowV 49 7 (.slice (some ⟨g2, 0, none⟩) (i + 1) c2) (X.S.take (i + 1)).length (lvs (X.S.take (i + 1))) :: rowV 95 1 (.slice (some ⟨g, 0, none⟩) n pc') n ((lvP q.2.2).map fun (z : Rp) => pt z.sb) :: (rlobL kb Y q ++ l))) := ⟨by rw [HEQ.out]; exact S2⟩
      have HA := Keep.mk r1
      have HBS := Keep.mk (bs43 wr p.x.s)
      have hi0 : (0 : Int) ≤ (i : Int) := by omega
      have hi1 : (i : Int) < (n : Nat) := by omega
      have hti : ((i : Nat) : Int).toNat = i := by omega
      have hwi : IntKind.i64.wrap ((i : Int) + 1) = ((i + 1 : Nat) : Int) := by rw [wi _ (by omega) (by omega)]; omega
      obtain ⟨i2, hi2⟩ : ∃ i2, i + 1 = i2 := ⟨_, rfl⟩
      rw [hi2] at HA
      have HI2 := Keep.mk hi2
      obtain ⟨lv, hlv⟩ : ∃ lv, lvc p.x.s = lv := ⟨_, rfl⟩
      have HL7 : Keep (lv.length = 7) := ⟨by rw [← hlv]; rfl⟩
      rw [hlv] at RNG HA HBS
      clear hS hp hrow hXi hp2 htk r1 S2 e2 hlv hi2
      go_wp2_with (first
        | (show wpList _ _ _ ({ dst := _, op := Op.load 49 _, type := _, pos := _, after := _, guard := _ } :: _) _ _
           refine wpList_load_mid rfl 49 _ rfl _ _ rfl _ _ RNG.out hdu hdr (by rw [HL7.out]; exact info42) ?_)
        | (show wpList _ _ _ ({ dst := _, op := Op.buildSlice 43 _ _, type := _, pos := _, after := _, guard := _ } :: _) _ _
           refine wpList_bs_run rfl (.tmp 21) 43 rfl _ rfl HBS.out ?_)
        | (at_builtin; refine wpList_append_run _ rfl (.tmp 14) (.tmp 22) 43 rfl _ _ rfl rfl HA.out ?_))
      go_roundw
      case rel => exact ⟨i + 1, by omega, rfl, ⟨_, _, by rw [HI2.out]⟩, by rw [← HI2.out]; exact HSX⟩
      case measure => simp [intOf]; omega
    · have hi1 : ¬ (i : Int) < (n : Nat) := by omega
      have hall : X.S.take i = X.S := List.take_of_length_le (by rw [HX.out.2.2]; omega)
      rw [hall] at hS
      have HF : Keep (Sep w0 wr (rowV 49 7 (.slice av i cv) X.S.length (lvs X.S) :: rlobA kb Y :: l)) := ⟨by
        have q1 : Sep w0 wr (rowV 49 7 (.slice av i cv) X.S.length (lvs X.S) :: (rlobL kb Y q ++ l)) := hS.out.swap.tail
        have q2 := q1.perm (List.perm_middle (a := rowV 49 7 (.slice av i cv) X.S.length (lvs X.S)) (l₁ := rlobL kb Y q) (l₂ := l)).symm
        exact (Sep.cls (rlobL kb Y) q q2).swap⟩
      clear hS hall
      go_wp2_with fail
      go_ret
      exact ⟨_, rfl, HF.out⟩
end Go.Proofs.YtplcicbpkbamnabGreatDoor.Lo

