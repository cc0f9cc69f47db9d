import Derived.Test.YtplcicbpkbamnabGreatDoorX33
import Derived.Test.YtplcicbpkbamnabGreatDoorX11
import Derived.Test.YtplcicbpkbamnabGreatDoorX34
import Derived.Test.YtplcicbpkbamnabGreatDoorX24
import Derived.Test.YtplcicbpkbamnabGreatDoorX18
/- LobbyPlays: the reference's account and Secret -/
namespace Go.Proofs.YtplcicbpkbamnabGreatDoor.Lo
open Go Go.RowKit Go.Maps

/-- what account answers -/
def aix : Option Nat → Int
  | some i => (i : Nat)
  | none => -1
theorem fdI_at {P : List Pr} {nm : ByteArray} {i : Nat} {p : Pr} (hc : Na.chkOK nm = true) (hn : ∀ j z, j < i → P[j]? = some z → decide (Na.foldL (Na.sl nm) = Na.foldL (Na.sl z.1)) = false) (hp : P[i]? = some p) (he : decide (Na.foldL (Na.sl nm) = Na.foldL (Na.sl p.1)) = true) : fdI (P.map acOf) nm = some i := by
  unfold fdI
  rw [if_pos hc]
  have hlt := (List.getElem?_eq_some_iff.1 hp).1
  rw [List.findIdx?_eq_some_iff_getElem]
  refine ⟨by rw [List.length_map]; exact hlt, ?_, fun j hj => ?_⟩
  · rw [List.getElem_map, (List.getElem?_eq_some_iff.1 hp).2]
    exact decide_eq_true (of_decide_eq_true he).symm
  · rw [List.getElem_map]
    have := hn j _ hj (List.getElem?_eq_getElem (by omega))
    intro q
    exact of_decide_eq_false this (of_decide_eq_true q).symm
theorem fdI_no {P : List Pr} {nm : ByteArray} (hn : ∀ (j : Nat) (z : Pr), P[j]? = some z → decide (Na.foldL (Na.sl nm) = Na.foldL (Na.sl z.1)) = false) : fdI (P.map acOf) nm = none := by
  unfold fdI
  split
  · rw [List.findIdx?_eq_none_iff]
    intro a ha
    obtain ⟨z, hz, rfl⟩ := List.mem_map.1 ha
    obtain ⟨j, hj, ez⟩ := List.getElem_of_mem hz
    have := hn j z (by rw [List.getElem?_eq_getElem hj, ez])
    exact decide_eq_false fun q => of_decide_eq_false this q.symm
  · rfl
set_option maxRecDepth 100000 in
theorem pr_get {w0 W : World} {l : List As} {kb : Nat} {Y : Rl} {q : Value × Value × List Rp} (h : Sep w0 W (rlobL kb Y q ++ l)) : (∃ a c, q.1 = .slice a Y.P.length c) ∧ ∀ i p, Y.P[i]? = some p → ∃ g c, q.1 = .slice (some ⟨g, 0, none⟩) Y.P.length c ∧ W.cell? ⟨g, i * 2, none⟩ = some (.string p.1) ∧ W.cell? ⟨g, i * 2 + 1, none⟩ = some (.string p.2) := by
  have hr : W.ownsRow 0 73 2 q.1 Y.P.length (prs Y.P) := h.rowGet k2m
  refine ⟨own_slice hr, fun i p hp => ?_⟩
  obtain ⟨g, c, e, hc⟩ := own_any hr (by have := (List.getElem?_eq_some_iff.1 hp).1; omega)
  exact ⟨g, c, e, (hc _ _ (prs_get Y.P i p 0 _ hp rfl)).1, (hc _ _ (prs_get Y.P i p 1 _ hp rfl)).1⟩
set_option maxRecDepth 100000 in
set_option maxHeartbeats 8000000 in
theorem racc_o (w0 W : World) (l : List As) (kb : Nat) (Y : Rl) (q : Value × Value × List Rp) (nm : ByteArray) (h : Sep w0 W (rlobL kb Y q ++ l)) (hs : nm.size ≤ 1048576) (hP : ∀ x ∈ Y.P, x.1.size ≤ 1048576) (hl : Y.P.length ≤ 64) :
    Calls Tryz.prog 71 #[pt kb, .string nm] W fun e W' => e = .returned (iv (aix (fdI (Y.P.map acOf) nm))) ∧ Sep w0 W' (rlobL kb Y q ++ l) := by
  obtain ⟨n, hnn⟩ : ∃ n, Y.P.length = n := ⟨_, rfl⟩
  obtain ⟨⟨a, cap, hq1⟩, _⟩ := pr_get h
  rw [hnn] at hq1
  have HR : Keep (∀ W', Sep w0 W' (rlobL kb Y q ++ l) → W'.cell? ⟨kb, 12, none⟩ = some (.slice a n cap) ∧ ∀ i p, Y.P[i]? = some p → ∃ g c, q.1 = .slice (some ⟨g, 0, none⟩) Y.P.length c ∧ W'.cell? ⟨g, i * 2, none⟩ = some (.string p.1) ∧ W'.cell? ⟨g, i * 2 + 1, none⟩ = some (.string p.2)) := ⟨fun W' hh => ⟨by have := (rd_of hh).c12; rw [hq1] at this; exact this, (pr_get hh).2⟩⟩
  have HL := Keep.mk (And.intro hnn (And.intro hq1 hP))
  obtain ⟨F, hF⟩ : ∃ F, aix (fdI (Y.P.map acOf) nm) = F := ⟨_, rfl⟩
  have HF := Keep.mk hF
  have hCk := Na.rcheck_c nm W hs
  have HS := Keep.mk h
  have HZ := Keep.mk hs
  rw [hF]
  rw [hnn] at hl
  clear h hnn hq1 hF hP hs
  go_enter Tryz.func71, Tryz.ntmps71
  go_wp2_with fail
  refine hCk.mono ?_
  rintro e w1 ⟨rfl, g1⟩
  have HS1 := Keep.mk (HS.out.grown g1)
  clear hCk g1 HS
  by_cases hok : Na.chkOK nm = true
  · have e60 : Na.chk nm = 0 := if_pos hok
    have HOK := Keep.mk hok
    rw [e60]
    clear e60 hok
    go_wp2_with fail
    go_loopw [6] (fun u wr => ∃ i : Nat, i ≤ n ∧ u = iv i ∧ Keep (Sep w0 wr (rlobL kb Y q ++ l)) ∧ Keep (∀ j z, j < i → Y.P[j]? = some z → decide (Na.foldL (Na.sl nm) = Na.foldL (Na.sl z.1)) = false)) (fun u _ => (n - intOf u).toNat)
    case atStart => exact ⟨0, by omega, rfl, HS1, ⟨fun j z hj => by omega⟩⟩
    case round =>
      clear HS1
      obtain ⟨i, hi, rfl, hS, hN⟩ := hrel
      obtain ⟨c12, hc⟩ := HR.out _ hS.out
      by_cases hlt : i < n
      · obtain ⟨p, hp⟩ : ∃ p, Y.P[i]? = some p := ⟨_, List.getElem?_eq_getElem (by rw [HL.out.1]; exact hlt)⟩
        obtain ⟨g, c', e, g0, _⟩ := hc i p hp
        rw [HL.out.2.1, HL.out.1] at e
        injection e with e1 e2 e3
        subst e1 e3
        have hi0 : (0 : Int) ≤ (i : Int) := by omega
        have hi1 : (i : Int) < (n : Nat) := by omega
        have hti : ((i : Nat) : Int).toNat = i := by omega
        have hwi : IntKind.i64.wrap ((i : Int) + 1) = ((i + 1 : Nat) : Int) := by rw [wi _ (by omega) (by omega)]; omega
        have hSm := Na.rsame_c nm p.1 wr HZ.out (HL.out.2.2 p (List.mem_of_getElem? hp))
        have HP := Keep.mk hp
        obtain ⟨b, hb⟩ : ∃ b, decide (Na.foldL (Na.sl nm) = Na.foldL (Na.sl p.1)) = b := ⟨_, rfl⟩
        have HB := Keep.mk hb
        rw [hb] at hSm
        clear hc hp e2 hb
        go_wp2_with fail
        refine hSm.mono ?_
        rintro e w2 ⟨rfl, g2⟩
        have HS2 := Keep.mk (hS.out.grown g2)
        clear hSm g2 hS g0 c12
        cases b with
        | true =>
          have HFF : Keep (F = (i : Nat)) := ⟨by rw [← HF.out, fdI_at HOK.out hN.out HP.out HB.out]; rfl⟩
          go_wp2_with fail
          go_ret
          rw [HFF.out]
          exact ⟨rfl, HS2.out⟩
        | false =>
          have HQ : Keep (∀ j z, j < i + 1 → Y.P[j]? = some z → decide (Na.foldL (Na.sl nm) = Na.foldL (Na.sl z.1)) = false) := ⟨fun j z hj hz => by
            by_cases ej : j = i
            · rw [ej, HP.out] at hz
              cases hz
              exact HB.out
            · exact hN.out j z (by omega) hz⟩
          go_wp2_with fail
          go_roundw
          case rel => exact ⟨i + 1, by omega, rfl, HS2, HQ⟩
          case measure => simp [intOf]; omega
      · have hi1 : ¬ (i : Int) < (n : Nat) := by omega
        have HFF : Keep (F = -1) := ⟨by
          rw [← HF.out, fdI_no (fun j z hz => hN.out j z (by have := (List.getElem?_eq_some_iff.1 hz).1; have := HL.out.1; omega) hz)]; rfl⟩
        clear hc
        go_wp2_with fail
        go_ret
        rw [HFF.out]
        exact ⟨rfl, hS.out⟩
  · have HFF : Keep (F = -1) := ⟨by rw [← HF.out]; unfold fdI; rw [if_neg hok]; rfl⟩
    have e60 : ¬ Na.chk nm = 0 := by unfold Na.chk; rw [if_neg hok]; decide
    have e61 : (Na.chk nm == 0) = false := by simpa using e60
    clear hok
    go_wp2_with fail
    go_ret
    rw [HFF.out]
    exact ⟨rfl, HS1.out⟩
theorem sec_at {X : Lb} {Y : Rl} (hr : Rel X Y) {nm : ByteArray} {i : Nat} (h : fdI (Y.P.map acOf) nm = some i) : ∃ p, Y.P[i]? = some p ∧ secS X nm = p.2 := by
  have hi : i < Y.P.length := by
    unfold fdI at h
    split at h
    · have := (List.findIdx?_eq_some_iff_getElem.1 h).1
      rwa [List.length_map] at this
    · cases h
  refine ⟨Y.P[i], List.getElem?_eq_getElem hi, ?_⟩
  unfold secS
  rw [hr.a, h]
  simp only [List.getElem?_map, List.getElem?_eq_getElem hi, Option.map_some, Option.getD_some]
  simp [txt, Na.sl, acOf]
set_option maxRecDepth 100000 in
set_option maxHeartbeats 8000000 in
theorem rsec_c (w0 W : World) (l : List As) (kb : Nat) (X : Lb) (Y : Rl) (nm : ByteArray) (h : Sep w0 W (rlobA kb Y :: l)) (hr : Rel X Y) (hs : nm.size ≤ 1048576) (hP : ∀ x ∈ Y.P, x.1.size ≤ 1048576) (hl : Y.P.length ≤ 64) :
    Calls Tryz.prog 44 #[pt kb, .string nm] W fun e W' => e = .returned (.tuple #[.string (secS X nm), .bool (fdI X.A nm).isSome]) ∧ Sep w0 W' (rlobA kb Y :: l) := by
  obtain ⟨q, h⟩ := h.opn
  have hac := racc_o w0 W l kb Y q nm h hs hP hl
  cases hf : fdI (Y.P.map acOf) nm with
  | none =>
    have HR : Keep (secS X nm = ⟨#[]⟩ ∧ (fdI X.A nm).isSome = false) := ⟨by unfold secS; rw [hr.a, hf]; exact ⟨rfl, rfl⟩⟩
    rw [hf] at hac
    clear h hr hs hP hl hf
    go_enter Tryz.func44, Tryz.ntmps44
    go_wp2_with fail
    refine hac.mono ?_
    rintro e w1 ⟨rfl, S1⟩
    have HS := Keep.mk (Sep.cls (rlobL kb Y) q S1)
    clear hac S1
    unfold aix
    go_wp2_with fail
    go_ret2
    rw [HR.out.1, HR.out.2]
    exact ⟨rfl, HS.out⟩
  | some i =>
    obtain ⟨p, hp, hsec⟩ := sec_at hr hf
    have HR : Keep (secS X nm = p.2 ∧ (fdI X.A nm).isSome = true) := ⟨by rw [hr.a, hf]; exact ⟨hsec, rfl⟩⟩
    have HG : Keep (∀ W', Sep w0 W' (rlobL kb Y q ++ l) → ∃ g c, W'.cell? ⟨kb, 12, none⟩ = some (.slice (some ⟨g, 0, none⟩) Y.P.length c) ∧ W'.cell? ⟨g, i * 2 + 1, none⟩ = some (.string p.2)) := ⟨fun W' hh => by
      obtain ⟨g, c, e, _, q2⟩ := (pr_get hh).2 i p hp
      exact ⟨g, c, by rw [← e]; exact (rd_of hh).c12, q2⟩⟩
    have hi : i < Y.P.length := (List.getElem?_eq_some_iff.1 hp).1
    obtain ⟨n, hnn⟩ : ∃ n, Y.P.length = n := ⟨_, rfl⟩
    rw [hnn] at hi HG hl
    rw [hf] at hac
    have hac : Calls Tryz.prog 71 #[pt kb, .string nm] W fun e W' => e = .returned (iv (i : Nat)) ∧ Sep w0 W' (rlobL kb Y q ++ l) := hac
    have hi0 : (0 : Int) ≤ (i : Int) := by omega
    have hi1 : (i : Int) < (n : Nat) := by omega
    have hi2 : ¬ (i : Int) < 0 := by omega
    have hti : ((i : Nat) : Int).toNat = i := by omega
    clear h hr hs hP hf hp hsec hnn
    go_enter Tryz.func44, Tryz.ntmps44
    go_wp2_with fail
    refine hac.mono ?_
    rintro e w1 ⟨rfl, S1⟩
    obtain ⟨g, c, c12, c1⟩ := HG.out _ S1
    have HS := Keep.mk (Sep.cls (rlobL kb Y) q S1)
    clear hac S1
    go_wp2_with fail
    go_ret2
    rw [HR.out.1, HR.out.2]
    exact ⟨rfl, HS.out⟩
end Go.Proofs.YtplcicbpkbamnabGreatDoor.Lo

/- LobbyPlays: what the reference's Join wants -/
namespace Go.Proofs.YtplcicbpkbamnabGreatDoor.Lo
open Go Go.RowKit Go.Maps

/-- the places that are taken -/
def tkn (L : List Se) : List Bool := (List.range 32).map fun j => L.any fun s => decide (s.pl = j)
theorem tkn_len (L : List Se) : (tkn L).length = 32 := by simp [tkn]
theorem tkn_get (L : List Se) {j : Nat} (h : j < 32) : (tkn L)[j]? = some (L.any fun s => decide (s.pl = j)) := by
  unfold tkn
  rw [List.getElem?_map, List.getElem?_range h]; rfl
theorem tkn_snoc (L : List Se) (s : Se) (h : s.pl < 32) : tkn (L ++ [s]) = (tkn L).set s.pl true := by
  refine List.ext_getElem? fun j => ?_
  by_cases hj : j < 32
  · rw [tkn_get _ hj, List.any_append]
    by_cases e : s.pl = j
    · rw [← e, List.getElem?_set_self (by rw [tkn_len]; exact h)]
      simp
    · rw [List.getElem?_set_ne e, tkn_get _ hj]
      simp [e]
  · rw [List.getElem?_eq_none (by rw [tkn_len]; omega), List.getElem?_eq_none (by rw [List.length_set, tkn_len]; omega)]
set_option maxRecDepth 100000 in
theorem tkn_nil : (tkn []).map Value.bool = zb32 := rfl
set_option maxRecDepth 100000 in
set_option maxHeartbeats 8000000 in
theorem rnext_o (w0 W : World) (l : List As) (kb : Nat) (Y : Rl) (q : Value × Value × List Rp) (h : Sep w0 W (rlobL kb Y q ++ l)) (hn : Y.S.length ≤ 1000000) (nx : Nat) (hx : nx = Y.S.length + 1) :
    Calls Tryz.prog 12 #[pt kb] W fun e W' => e = .returned (uv nx) ∧ W' = W := by
  have hR := rd_of h
  obtain ⟨n, hnn⟩ : ∃ n, Y.S.length = n := ⟨_, rfl⟩
  obtain ⟨a, cap, hs⟩ := hR.sl
  have c13 := hR.c13
  rw [hs, hnn] at c13
  have HX : Keep (nx = n + 1) := ⟨by rw [hx, hnn]⟩
  rw [hnn] at hn
  have hw1 : IntKind.u64.wrap (n : Int) = (n : Int) := Wi.wu _ (by omega) (by omega)
  have hw2 : IntKind.u64.wrap ((n : Int) + 1) = ((n + 1 : Nat) : Int) := by rw [Wi.wu _ (by omega) (by omega)]; omega
  clear h hR hs hnn hx
  go_enter Tryz.func12, Tryz.ntmps12
  go_wp2_with fail
  go_ret
  rw [HX.out]
  exact ⟨by simp, rfl⟩
set_option maxRecDepth 100000 in
theorem b135 : Tryz.prog.built 135 [] = some #[.slice none 0 0, uv 0] := by kernel_rfl
set_option maxRecDepth 100000 in
theorem b135e (f : Nat × Operand → Nat × Value) : Tryz.prog.built 135 ((#[] : Array (Nat × Operand)).map f).toList = some #[.slice none 0 0, uv 0] := by
  rw [show ((#[] : Array (Nat × Operand)).map f).toList = [] by simp]; exact b135
/-- a session that is begun -/
def rs0 (a : Int) (wb : Nat) : List Value := [uv 0, iv 0, .string ⟨#[]⟩, .string ⟨#[]⟩, uv 0, uv 0, uv 0, iv a, .string ⟨#[]⟩, pt wb, iv 0, iv 0, iv 0, .bool false]
set_option maxRecDepth 100000 in
theorem b94 (a : Int) (wb : Nat) : Tryz.prog.built 94 [(1, iv a), (3, pt wb)] = some (rs0 a wb).toArray := by kernel_rfl
set_option maxRecDepth 100000 in
theorem b49f (n : Nat) (p : Int) (t : Nat) (nm fr : ByteArray) : Tryz.prog.built 49 [(0, uv n), (1, iv p), (2, .string nm), (3, .string fr), (4, uv t)] = some #[uv n, iv p, .string nm, .string fr, uv t, uv 0, uv 0] := by kernel_rfl
set_option maxRecDepth 100000 in
/-- one session more -/
theorem rl_push {w0 W : World} {l : List As} {kb sb wb : Nat} {Y : Rl} {v1 v2 : Value} {ps : List Rp} {x : Rs} (h : Sep w0 W (boxA sb (rsv Y.c.rate Y.c.burst wb x) 94 :: boxA wb [.slice none 0 0, uv 0] 135 :: (rlobL kb Y (v1, v2, ps) ++ l))) (hw : x.s.wh = 0) (hL : x.L = []) (hn : Y.S.length ≤ 1000000) :
    ∃ g c W2, (Builtin.append_ #[76, 76] 76 #[v2, .slice (some ⟨W.heap.size, 0, none⟩) 1 1]).run Tryz.prog (W.alloc (.cells #[pt sb] 95)) = .ok (.slice (some ⟨g, 0, none⟩) (Y.S.length + 1) c) W2 ∧ W2.frozen? ⟨kb, 13, none⟩ = false ∧ W2.cell? ⟨kb, 13, none⟩ = some v2 ∧
      (W2.setCell ⟨kb, 13, none⟩ (.slice (some ⟨g, 0, none⟩) (Y.S.length + 1) c)).rangeAt sb 0 (lvc x.s) ∧
      Sep w0 (W2.setCell ⟨kb, 13, none⟩ (.slice (some ⟨g, 0, none⟩) (Y.S.length + 1) c)) (rlobA kb { Y with S := Y.S ++ [x] } :: l) := by
  obtain ⟨ii, j1, j2, j3, j4⟩ := info95b
  have hfact : ps.map Rp.x = Y.S := h.tail.tail.fact (l := rlobL kb Y (v1, v2, ps) ++ l) k0m
  have h1 : Sep w0 W (rowV 95 1 v2 Y.S.length (ps.map fun (z : Rp) => pt z.sb) :: boxA sb (rsv Y.c.rate Y.c.burst wb x) 94 :: boxA wb [.slice none 0 0, uv 0] 135 :: pureA (ps.map Rp.x = Y.S) :: boxA kb ((cfv Y.c v1).toList ++ [v2]) 78 :: prow v1 Y.P :: (ps.flatMap (rsA Y.c.rate Y.c.burst) ++ l)) :=
    h.perm (List.perm_middle (l₁ := [boxA sb (rsv Y.c.rate Y.c.burst wb x) 94, boxA wb [.slice none 0 0, uv 0] 135, pureA (ps.map Rp.x = Y.S), boxA kb ((cfv Y.c v1).toList ++ [v2]) 78, prow v1 Y.P]))
  obtain ⟨g, c, W2, r1, S2⟩ := Sep.app under76 j1 j4 j2 j3 rfl (by omega) h1 [pt sb] rfl (by intro u hu; rw [List.mem_singleton] at hu; rw [hu]; rfl) (by omega) (by omega)
  obtain ⟨nv, hnv⟩ : ∃ nv, (.slice (some ⟨g, 0, none⟩) (Y.S.length + 1) c : Value) = nv := ⟨_, rfl⟩
  refine ⟨g, c, W2, r1, (S2.boxGet k4m).frozen 13, (S2.boxGet k4m).cellv 13 _ rfl, ?_⟩
  rw [hnv] at S2 ⊢
  have S3 : Sep w0 W2 (boxA kb ((cfv Y.c v1).toList ++ [v2]) 78 :: rowV 95 1 nv (Y.S.length + 1) ((ps.map fun (z : Rp) => pt z.sb) ++ [pt sb]) :: boxA sb (rsv Y.c.rate Y.c.burst wb x) 94 :: boxA wb [.slice none 0 0, uv 0] 135 :: pureA (ps.map Rp.x = Y.S) :: prow v1 Y.P :: (ps.flatMap (rsA Y.c.rate Y.c.burst) ++ l)) :=
    S2.perm (List.perm_middle (l₁ := [rowV 95 1 nv (Y.S.length + 1) ((ps.map fun (z : Rp) => pt z.sb) ++ [pt sb]), boxA sb (rsv Y.c.rate Y.c.burst wb x) 94, boxA wb [.slice none 0 0, uv 0] 135, pureA (ps.map Rp.x = Y.S)]))
  have S4 := S3.boxPut 13 nv
  have e13 : ((cfv Y.c v1).toList ++ [v2]).set 13 nv = (cfv Y.c v1).toList ++ [nv] := rfl
  rw [e13] at S4
  refine ⟨rs_lv (S4.boxGet k2m), ?_⟩
  have S5 := (S4.nilV 38 1).know (p := (ps ++ [(⟨sb, wb, .slice none 0 0, x⟩ : Rp)]).map Rp.x = Y.S ++ [x]) (by rw [← hfact, List.map_append]; rfl)
  refine Sep.cls (rlobL kb { Y with S := Y.S ++ [x] }) (v1, nv, ps ++ [⟨sb, wb, .slice none 0 0, x⟩]) ?_
  have e1 : (ps ++ [(⟨sb, wb, .slice none 0 0, x⟩ : Rp)]).flatMap (rsA Y.c.rate Y.c.burst) = ps.flatMap (rsA Y.c.rate Y.c.burst) ++ [boxA sb (rsv Y.c.rate Y.c.burst wb x) 94, boxA wb [.slice none 0 0, uv 0] 135, rowV 38 1 (.slice none 0 0) 0 []] := by
    rw [List.flatMap_append]
    congr 1
    show [boxA sb (rsv Y.c.rate Y.c.burst wb x) 94, boxA wb [.slice none 0 0, uv x.s.wh] 135, rowV 38 1 (.slice none 0 0) x.L.length (x.L.map uv)] ++ [] = _
    rw [hw, hL]
    rfl
  have e2 : ((ps ++ [(⟨sb, wb, .slice none 0 0, x⟩ : Rp)]).map fun (z : Rp) => pt z.sb) = (ps.map fun (z : Rp) => pt z.sb) ++ [pt sb] := by simp
  have e3 : (Y.S ++ [x]).length = Y.S.length + 1 := by simp
  show Sep w0 _ (pureA ((ps ++ [(⟨sb, wb, .slice none 0 0, x⟩ : Rp)]).map Rp.x = Y.S ++ [x]) :: boxA kb ((cfv Y.c v1).toList ++ [nv]) 78 :: prow v1 Y.P :: rowV 95 1 nv (Y.S ++ [x]).length ((ps ++ [(⟨sb, wb, .slice none 0 0, x⟩ : Rp)]).map fun (z : Rp) => pt z.sb) :: ((ps ++ [(⟨sb, wb, .slice none 0 0, x⟩ : Rp)]).flatMap (rsA Y.c.rate Y.c.burst) ++ l))
  rw [e1, e2, e3]
  have S6 : Sep w0 _ (pureA ((ps ++ [(⟨sb, wb, .slice none 0 0, x⟩ : Rp)]).map Rp.x = Y.S ++ [x]) :: rowV 38 1 (.slice none 0 0) 0 [] :: boxA kb ((cfv Y.c v1).toList ++ [nv]) 78 :: rowV 95 1 nv (Y.S.length + 1) ((ps.map fun (z : Rp) => pt z.sb) ++ [pt sb]) :: boxA sb (rsv Y.c.rate Y.c.burst wb x) 94 :: boxA wb [.slice none 0 0, uv 0] 135 :: prow v1 Y.P :: (ps.flatMap (rsA Y.c.rate Y.c.burst) ++ l)) :=
    Sep.tail (S5.perm (List.perm_middle (l₁ := [_, _, _, _, _, _]) (a := pureA (ps.map Rp.x = Y.S))))
  generalize pureA ((ps ++ [(⟨sb, wb, .slice none 0 0, x⟩ : Rp)]).map Rp.x = Y.S ++ [x]) = a0 at S6 ⊢
  generalize boxA kb ((cfv Y.c v1).toList ++ [nv]) 78 = a1 at S6 ⊢
  generalize rowV 95 1 nv (Y.S.length + 1) ((ps.map fun (z : Rp) => pt z.sb) ++ [pt sb]) = a2 at S6 ⊢
  generalize boxA sb (rsv Y.c.rate Y.c.burst wb x) 94 = a3 at S6 ⊢
  generalize boxA wb [.slice none 0 0, uv 0] 135 = a4 at S6 ⊢
  generalize rowV 38 1 (.slice none 0 0) 0 [] = a5 at S6 ⊢
  generalize prow v1 Y.P = a6 at S6 ⊢
  generalize ps.flatMap (rsA Y.c.rate Y.c.burst) = fm at S6 ⊢
  refine S6.perm ?_
  have p1 : (fm ++ [a3, a4, a5] ++ l).Perm (a3 :: a4 :: a5 :: (fm ++ l)) := by
    rw [List.append_assoc]
    exact (List.perm_append_comm_assoc fm [a3, a4, a5] l)
  have p2 : [a0, a1, a6, a2, a3, a4, a5].Perm [a0, a5, a1, a2, a3, a4, a6] := by
    refine List.Perm.cons _ ?_
    have q1 : [a1, a6, a2, a3, a4, a5].Perm (a5 :: [a1, a6, a2, a3, a4]) := List.perm_append_comm (l₁ := [a1, a6, a2, a3, a4]) (l₂ := [a5])
    refine q1.trans (List.Perm.cons _ (List.Perm.cons _ ?_))
    exact List.perm_append_comm (l₁ := [a6]) (l₂ := [a2, a3, a4])
  have p3 : (a0 :: a1 :: a6 :: a2 :: (fm ++ [a3, a4, a5] ++ l)).Perm ([a0, a1, a6, a2, a3, a4, a5] ++ (fm ++ l)) := List.Perm.append_left [a0, a1, a6, a2] p1
  exact (p3.trans (List.Perm.append_right (fm ++ l) p2)).symm
end Go.Proofs.YtplcicbpkbamnabGreatDoor.Lo

