/- Between -/
import Derived.Test.YtfhhneibdmjfgabB1
import Derived.Deep.DeepCutAuto
namespace Go.Proofs.Ytfhhneibdmjfgab
open Go Go.RowKit Go.Maps Sm
set_option maxRecDepth 100000
attribute [local go_sem] run_store_fl

/-- a place by its bits -/
structure Pt where
  x : Nat
  y : Nat
  a : Nat
def ptv (p : Pt) : List Value := [fv p.x, fv p.y, fv p.a]
def pls (L : List Pt) : List Value := L.flatMap ptv
def vP (p : Pt) : Pl := ⟨V p.x, V p.y, V p.a⟩
theorem ptv_one (p : Pt) : ∀ u ∈ ptv p, u.oneCell' = true := by
  intro u hu
  simp only [ptv, List.mem_cons, List.not_mem_nil, or_false] at hu
  rcases hu with rfl | rfl | rfl <;> rfl
theorem bsP (x y a : Nat) (W : World) : (Instr.buildSlice 35 1 #[(0, pv x y a)]).run Try.prog W = .ok (.slice (some ⟨W.heap.size, 0, none⟩) 1 1) (W.alloc (.cells #[fv x, fv y, fv a] 42)) := by kernel_rfl
theorem infoPl : ∃ i, Try.prog.info? 42 = some i ∧ i.size = 3 ∧ i.bytes = 12 ∧ i.zero = some (pv 0 0 0) := by
  have h : (Try.prog.info? 42).map (fun i => (i.size, i.bytes, i.zero)) = some (3, 12, some (pv 0 0 0)) := by kernel_rfl
  cases e : Try.prog.info? 42 with
  | none => rw [e] at h; cases h
  | some i =>
    rw [e] at h
    simp only [Option.map_some, Option.some.injEq, Prod.mk.injEq] at h
    exact ⟨i, rfl, h.1, h.2.1, h.2.2⟩
/-- one place more -/
theorem Sep.appP {w0 W : World} {l : List As} {v : Value} {L : List Pt} (h : Sep w0 W (rowV 42 3 v L.length (pls L) :: l)) (p : Pt) (hn : (L.length + 1) * 12 ≤ 140737488355328) :
    ∃ g c W', (Builtin.append_ #[35, 35] 35 #[v, .slice (some ⟨W.heap.size, 0, none⟩) 1 1]).run Try.prog (W.alloc (.cells #[fv p.x, fv p.y, fv p.a] 42)) = .ok (.slice (some ⟨g, 0, none⟩) (L.length + 1) c) W' ∧ Sep w0 W' (rowV 42 3 (.slice (some ⟨g, 0, none⟩) (L.length + 1) c) (L ++ [p]).length (pls (L ++ [p])) :: l) := by
  obtain ⟨i, i1, i2, i3, i4⟩ := infoPl
  obtain ⟨g, c, W', r, S⟩ := Sep.app (t := 35) Try.underlying35 i1 i4 i2 i3 rfl (by decide) h (ptv p) rfl (ptv_one p) hn (by decide)
  refine ⟨g, c, W', r, ?_⟩
  have e : pls (L ++ [p]) = pls L ++ ptv p := by unfold pls; simp
  rw [List.length_append, e]
  exact S
/-- a view as it lies -/
def vwL (tk : Int) (c : Cr) (v : Value) : List Value := .int .u64 tk :: crv c ++ [v]
abbrev vwA (tk : Int) (c : Cr) (v : Value) : Array Value := #[.int .u64 tk, iv c.p, .string c.n, iv c.x, iv c.y, iv c.u, iv c.v, iv c.h, iv c.he, iv c.en, iv c.am, iv c.co, iv c.wt, iv c.sp, iv c.sc, v]
def ownV (a b : Cr) (t : OF) : List Pl := if (decide (a.p = b.p) && (!decide (0 < a.wt)) && (!decide (0 < b.wt))) = true then [mixV (ofV a.x a.y a.h) (ofV b.x b.y b.h) t] else []
def oneV (B : List Sn) (t : OF) (s : Sn) : Option Pl := (fst1 B (s.k, s.i)).map fun u => mixV (ofV s.x s.y s.h) (ofV u.x u.y u.h) t
def betV (a b : Cr) (A B : List Sn) (t : OF) : List Pl := ownV a b t ++ A.filterMap (oneV B t)
theorem fm_take {B : List Sn} {t : OF} {A : List Sn} {i : Nat} {s : Sn} (h : A[i]? = some s) : (A.take (i + 1)).filterMap (oneV B t) = (A.take i).filterMap (oneV B t) ++ (oneV B t s).toList := by
  obtain ⟨hi, rfl⟩ := List.getElem?_eq_some_iff.1 h
  rw [List.take_add_one, List.getElem?_eq_getElem hi, List.filterMap_append]
  cases hf : oneV B t A[i] <;> simp [hf]
set_option maxHeartbeats 32000000 in
theorem between_c (W : World) (ta tb : Int) (a b : Cr) (va vb : Value) (A B : List Sn) (t : Nat) (hA : RdS W va A) (hB : RdS W vb B) (hO : ∀ x ∈ A, SnOk x) (hOB : ∀ x ∈ B, SnOk x) (hn : (A.length + 1) * 12 ≤ 140737488355328) (hm : B.length ≤ 281474976710656) :
    Calls Try.prog 7 #[.agg (vwA ta a va), .agg (vwA tb b vb), fv t] W fun e W' => ∃ v P, e = .returned v ∧ P.map vP = betV a b A B (V t) ∧ Sep W W' [rowV 42 3 v P.length (pls P)] := by
  obtain ⟨av, cap, hva, hq⟩ := hA.o
  obtain ⟨n, hnL⟩ : ∃ n, A.length = n := ⟨_, rfl⟩
  have HN := Keep.mk hnL
  have HRA := Keep.mk (And.intro hA (And.intro hB (And.intro hO (And.intro hOB hm))))
  rw [hnL] at hn
  clear hA hB hO hOB hm hnL hq hva
  have HS := Keep.mk (((Sep.nil W).newBox (vwA ta a va) 29).newBox (vwA tb b vb) 29)
  simp only [World.size_alloc] at HS
  go_enter Try.func7, Try.ntmps7
  go_upto_region 2 with fail
  obtain ⟨xb, hxb⟩ : ∃ xb, W.heap.size = xb := ⟨_, rfl⟩
  obtain ⟨yb, hyb⟩ : ∃ yb, xb + 1 = yb := ⟨_, rfl⟩
  have HL : Keep (W.heap.size ≤ xb ∧ W.heap.size ≤ yb) := ⟨by omega, by omega⟩
  rw [hxb, hyb] at HS
  try rw [hxb]
  try rw [hyb]
  clear hxb hyb
  have HS2 : Keep (Sep W ((W.alloc (.cells (vwA ta a va) 29)).alloc (.cells (vwA tb b vb) 29)) (rowV 42 3 (.slice none 0 0) 0 [] :: boxA xb (vwL ta a va) 29 :: boxA yb (vwL tb b vb) 29 :: [])) := ⟨HS.out.swap.nilV 42 3⟩
  clear HS
  generalize (W.alloc (.cells (vwA ta a va) 29)).alloc (.cells (vwA tb b vb) 29) = W1 at HS2 ⊢
  go_cut [31] (fun sv wx => ∃ u, u = wx ∧ sv = .bool (decide (a.p = b.p) && (!decide (0 < a.wt)) && (!decide (0 < b.wt))) ∧ Keep (Sep W u (rowV 42 3 (.slice none 0 0) 0 [] :: boxA xb (vwL ta a va) 29 :: boxA yb (vwL tb b vb) 29 :: [])))
  case first =>
    have l0 := (HS2.out.boxGet k1m).cellv 1 _ rfl
    have l1 := (HS2.out.boxGet k2m).cellv 1 _ rfl
    have HRxb := Keep.mk ((HS2.out.boxGet k1m).rangeMid 1 [.int .u64 ta] (crv a) [va] rfl rfl)
    have HRyb := Keep.mk ((HS2.out.boxGet k2m).rangeMid 1 [.int .u64 tb] (crv b) [vb] rfl rfl)
    obtain ⟨du, hdu, hdr⟩ := row26
    by_cases h1 : a.p = b.p
    · have d1 : (a.p == b.p) = true := by simp [h1]
      have HP := Keep.mk h1
      clear h1
      go_wp2_with (show wpList _ _ _ ({ dst := some 22, op := Op.load 26 (Operand.tmp 21), type := _, pos := _, after := _, guard := _ } :: _) _ _; refine load_g (by rfl) 26 (.tmp 21) rfl xb 1 rfl (crv a) du (HRxb.out) hdu hdr info26 ?_)
      refine (wreck_c a W1).mono ?_
      rintro e W2 ⟨rfl, g⟩
      have HS3 := Keep.mk (HS2.out.grown g)
      replace HRyb := Keep.mk ((HS3.out.boxGet k2m).rangeMid 1 [.int .u64 tb] (crv b) [vb] rfl rfl)
      clear g l0 l1 HRxb HS2
      by_cases h2 : 0 < a.wt
      · have d2 : decide (0 < a.wt) = true := decide_eq_true h2
        have H2 := Keep.mk d2
        clear h2
        go_wp2_with fail
        go_meet
        exact ⟨_, rfl, by rw [H2.out]; simp, HS3⟩
      · have d2 : decide (0 < a.wt) = false := decide_eq_false h2
        have H2 := Keep.mk d2
        clear h2
        go_wp2_with (show wpList _ _ _ ({ dst := some 28, op := Op.load 26 (Operand.tmp 27), type := _, pos := _, after := _, guard := _ } :: _) _ _; refine load_g (by rfl) 26 (.tmp 27) rfl yb 1 rfl (crv b) du (HRyb.out) hdu hdr info26 ?_)
        refine (wreck_c b W2).mono ?_
        rintro e W4 ⟨rfl, g⟩
        have HS4 := Keep.mk (HS3.out.grown g)
        clear g HS3
        go_wp2_with fail
        go_meet
        exact ⟨_, rfl, by rw [H2.out, decide_eq_true HP.out]; rfl, HS4⟩
    · have d1 : (a.p == b.p) = false := by simp [h1]
      have HP := Keep.mk h1
      clear h1
      go_wp2_with fail
      go_meet
      exact ⟨_, rfl, by rw [decide_eq_false HP.out]; rfl, HS2⟩
  case rest =>
  clear HS2
  obtain ⟨W1, rfl, rfl, HS⟩ := hcut
  go_upto_if 31 with fail
  have HOW : Keep (ownV a b (V t) = if (decide (a.p = b.p) && (!decide (0 < a.wt)) && (!decide (0 < b.wt))) = true then [mixV (ofV a.x a.y a.h) (ofV b.x b.y b.h) (V t)] else []) := ⟨rfl⟩
  generalize (decide (a.p = b.p) && (!decide (0 < a.wt)) && (!decide (0 < b.wt))) = cc at *
  go_cut [7] (fun sv wx => ∃ u v P, u = wx ∧ sv = v ∧ Keep (P.length ≤ 1 ∧ P.map vP = ownV a b (V t)) ∧ Keep (Sep W u (rowV 42 3 v P.length (pls P) :: boxA xb (vwL ta a va) 29 :: boxA yb (vwL tb b vb) 29 :: [])))
  case first =>
    cases cc
    · go_wp2_with fail
      go_meet
      exact ⟨_, _, [], rfl, rfl, ⟨by simp, by rw [HOW.out]; rfl⟩, HS⟩
    · go_wp2_with fail
      clear HN HRA
      replace HS : Keep (Sep W W1 (rowV 42 3 (.slice none 0 0) ([] : List Pt).length (pls []) :: boxA xb (vwL ta a va) 29 :: boxA yb (vwL tb b vb) 29 :: [])) := HS
      have HSd := Keep.mk (HS.out.grown (gr_drew W1 none))
      replace HS := HSd
      clear HSd
      refine region_Y (S := fun w => Has w xb (vwL ta a va) 29 ∧ Has w yb (vwL tb b vb) 29) [] (by kernel_rfl) ?_
      have hHeld := (⟨HS.out.boxGet k1m, HS.out.boxGet k2m⟩ : (fun w => Has w xb (vwL ta a va) 29 ∧ Has w yb (vwL tb b vb) 29) W1.drew)
      refine wpAnyY_pure (i := 0) (oi := _) (v := ?_) rfl (by kernel_rfl) (by kernel_rfl) (by kernel_rfl) (by kernel_rfl) (fun _ _ _ h => h) (Or.inl ⟨by rfl, ?_⟩) ?_
      rotate_left
      · (intro w hSw; go_simp; first | done | (with_reducible rfl))
      simp only [Act.put, List.getElem_toArray, List.getElem_cons_zero, List.setIfInBounds_toArray, List.set_cons_zero, List.set_cons_succ]
      refine wpAnyY_pure (i := 1) (oi := _) (v := ?_) rfl (by kernel_rfl) (by kernel_rfl) (by kernel_rfl) (by kernel_rfl) (fun _ _ _ h => h) (Or.inl ⟨by rfl, ?_⟩) ?_
      rotate_left
      · (intro w hSw; go_simp; first | done | (with_reducible rfl))
      simp only [Act.put, List.getElem_toArray, List.getElem_cons_succ, List.getElem_cons_zero, List.setIfInBounds_toArray, List.set_cons_zero, List.set_cons_succ]
      refine wpAnyY_pure (i := 2) (oi := _) (v := ?_) rfl (by kernel_rfl) (by kernel_rfl) (by kernel_rfl) (by kernel_rfl) (fun _ _ _ h => h) (Or.inl ⟨by rfl, ?_⟩) ?_
      rotate_left
      · (intro w hSw; go_simp; first | done | (with_reducible rfl))
      simp only [Act.put, List.getElem_toArray, List.getElem_cons_succ, List.getElem_cons_zero, List.setIfInBounds_toArray, List.set_cons_zero, List.set_cons_succ]
      refine wpAnyY_take (i := 3) (oi := _) (v := ?_) rfl (by kernel_rfl) (by kernel_rfl) (by kernel_rfl) (by kernel_rfl) (by kernel_rfl) (fun _ _ _ h => h) (Or.inl ⟨by rfl, ?_⟩) hHeld ?_
      rotate_left
      · (intro w hSw; have q0 := hSw.1.cellv 3 _ rfl; have q1 := hSw.1.cellv 4 _ rfl; go_simp; first | done | (with_reducible rfl))
      simp only [Act.put, List.getElem_toArray, List.getElem_cons_succ, List.getElem_cons_zero, List.setIfInBounds_toArray, List.set_cons_zero, List.set_cons_succ]
      refine wpAnyY_pure (i := 4) (oi := _) (v := ?_) rfl (by kernel_rfl) (by kernel_rfl) (by kernel_rfl) (by kernel_rfl) (fun _ _ _ h => h) (Or.inl ⟨by rfl, ?_⟩) ?_
      rotate_left
      · (intro w hSw; go_simp; first | done | (with_reducible rfl))
      simp only [Act.put, List.getElem_toArray, List.getElem_cons_succ, List.getElem_cons_zero, List.setIfInBounds_toArray, List.set_cons_zero, List.set_cons_succ]
      refine wpAnyY_pure (i := 5) (oi := _) (v := ?_) rfl (by kernel_rfl) (by kernel_rfl) (by kernel_rfl) (by kernel_rfl) (fun _ _ _ h => h) (Or.inl ⟨by rfl, ?_⟩) ?_
      rotate_left
      · (intro w hSw; go_simp; first | done | (with_reducible rfl))
      simp only [Act.put, List.getElem_toArray, List.getElem_cons_succ, List.getElem_cons_zero, List.setIfInBounds_toArray, List.set_cons_zero, List.set_cons_succ]
      refine wpAnyY_take (i := 6) (oi := _) (v := ?_) rfl (by kernel_rfl) (by kernel_rfl) (by kernel_rfl) (by kernel_rfl) (by kernel_rfl) (fun _ _ _ h => h) (Or.inl ⟨by rfl, ?_⟩) hHeld ?_
      rotate_left
      · (intro w hSw; have q0 := hSw.1.cellv 7 _ rfl; go_simp; first | done | (with_reducible rfl))
      simp only [Act.put, List.getElem_toArray, List.getElem_cons_succ, List.getElem_cons_zero, List.setIfInBounds_toArray, List.set_cons_zero, List.set_cons_succ]
      refine wpAnyY_pure (i := 8) (oi := _) (v := ?_) rfl (by kernel_rfl) (by kernel_rfl) (by kernel_rfl) (by kernel_rfl) (fun _ _ _ h => h) (Or.inl ⟨by rfl, ?_⟩) ?_
      rotate_left
      · (intro w hSw; go_simp; first | done | (with_reducible rfl))
      simp only [Act.put, List.getElem_toArray, List.getElem_cons_succ, List.getElem_cons_zero, List.setIfInBounds_toArray, List.set_cons_zero, List.set_cons_succ]
      refine wpAnyY_pure (i := 9) (oi := _) (v := ?_) rfl (by kernel_rfl) (by kernel_rfl) (by kernel_rfl) (by kernel_rfl) (fun _ _ _ h => h) (Or.inl ⟨by rfl, ?_⟩) ?_
      rotate_left
      · (intro w hSw; go_simp; first | done | (with_reducible rfl))
      simp only [Act.put, List.getElem_toArray, List.getElem_cons_succ, List.getElem_cons_zero, List.setIfInBounds_toArray, List.set_cons_zero, List.set_cons_succ]
      refine wpAnyY_take (i := 10) (oi := _) (v := ?_) rfl (by kernel_rfl) (by kernel_rfl) (by kernel_rfl) (by kernel_rfl) (by kernel_rfl) (fun _ _ _ h => h) (Or.inl ⟨by rfl, ?_⟩) hHeld ?_
      rotate_left
      · (intro w hSw; have q0 := hSw.2.cellv 3 _ rfl; have q1 := hSw.2.cellv 4 _ rfl; go_simp; first | done | (with_reducible rfl))
      simp only [Act.put, List.getElem_toArray, List.getElem_cons_succ, List.getElem_cons_zero, List.setIfInBounds_toArray, List.set_cons_zero, List.set_cons_succ]
      refine wpAnyY_pure (i := 11) (oi := _) (v := ?_) rfl (by kernel_rfl) (by kernel_rfl) (by kernel_rfl) (by kernel_rfl) (fun _ _ _ h => h) (Or.inl ⟨by rfl, ?_⟩) ?_
      rotate_left
      · (intro w hSw; go_simp; first | done | (with_reducible rfl))
      simp only [Act.put, List.getElem_toArray, List.getElem_cons_succ, List.getElem_cons_zero, List.setIfInBounds_toArray, List.set_cons_zero, List.set_cons_succ]
      refine wpAnyY_pure (i := 12) (oi := _) (v := ?_) rfl (by kernel_rfl) (by kernel_rfl) (by kernel_rfl) (by kernel_rfl) (fun _ _ _ h => h) (Or.inl ⟨by rfl, ?_⟩) ?_
      rotate_left
      · (intro w hSw; go_simp; first | done | (with_reducible rfl))
      simp only [Act.put, List.getElem_toArray, List.getElem_cons_succ, List.getElem_cons_zero, List.setIfInBounds_toArray, List.set_cons_zero, List.set_cons_succ]
      refine wpAnyY_take (i := 13) (oi := _) (v := ?_) rfl (by kernel_rfl) (by kernel_rfl) (by kernel_rfl) (by kernel_rfl) (by kernel_rfl) (fun _ _ _ h => h) (Or.inl ⟨by rfl, ?_⟩) hHeld ?_
      rotate_left
      · (intro w hSw; have q0 := hSw.2.cellv 7 _ rfl; go_simp; first | done | (with_reducible rfl))
      simp only [Act.put, List.getElem_toArray, List.getElem_cons_succ, List.getElem_cons_zero, List.setIfInBounds_toArray, List.set_cons_zero, List.set_cons_succ]
      refine wpAnyY_pure (i := 15) (oi := _) (v := ?_) rfl (by kernel_rfl) (by kernel_rfl) (by kernel_rfl) (by kernel_rfl) (fun _ _ _ h => h) (Or.inl ⟨by rfl, ?_⟩) ?_
      rotate_left
      · (intro w hSw; go_simp; first | done | (with_reducible rfl))
      simp only [Act.put, List.getElem_toArray, List.getElem_cons_succ, List.getElem_cons_zero, List.setIfInBounds_toArray, List.set_cons_zero, List.set_cons_succ]
      refine wpAnyY_one (i := 7) (by kernel_rfl) rfl (fun K hK => ?_)
      go_simp
      refine (of_c a.x a.y a.h _).mono ?_
      rintro e w1 ⟨v, rfl, ⟨p1, p2, p3, rfl, e1, e2, e3⟩, g1⟩
      have HO1 := Keep.mk (And.intro e1 (And.intro e2 e3))
      have HT1 := Keep.mk (HS.out.grown g1)
      clear e1 e2 e3
      refine hK.out _ _ (fun h => ⟨h.1.kept g1 (by simp), h.2.kept g1 (by simp)⟩) ?_
      clear hK K g1
      refine wpAnyY_one (i := 14) (by kernel_rfl) rfl (fun K hK => ?_)
      go_simp
      refine (of_c b.x b.y b.h _).mono ?_
      rintro e w2 ⟨v, rfl, ⟨q1, q2, q3, rfl, e1, e2, e3⟩, g2⟩
      have HO2 := Keep.mk (And.intro e1 (And.intro e2 e3))
      have HT2 := Keep.mk (HT1.out.grown g2)
      clear e1 e2 e3
      refine hK.out _ _ (fun h => ⟨h.1.kept g2 (by simp), h.2.kept g2 (by simp)⟩) ?_
      clear hK K g2 HT1
      refine wpAnyY_one (i := 16) (by kernel_rfl) rfl (fun K hK => ?_)
      go_simp
      refine (mix_c p1 p2 p3 q1 q2 q3 t _).mono ?_
      rintro e w3 ⟨v, rfl, ⟨r1, r2, r3, rfl, e1, e2, e3⟩, g3⟩
      have HO3 : Keep (vP ⟨r1, r2, r3⟩ = mixV (ofV a.x a.y a.h) (ofV b.x b.y b.h) (V t)) := ⟨by
        have hA : (⟨V p1, V p2, V p3⟩ : Pl) = ofV a.x a.y a.h := by
          obtain ⟨x1, x2, x3⟩ := HO1.out
          rw [x1, x2, x3]
        have hB : (⟨V q1, V q2, V q3⟩ : Pl) = ofV b.x b.y b.h := by
          obtain ⟨x1, x2, x3⟩ := HO2.out
          rw [x1, x2, x3]
        rw [hA, hB] at e1 e2 e3
        unfold vP
        simp only
        rw [e1, e2, e3]⟩
      have HT3 := Keep.mk (HT2.out.grown g3)
      clear e1 e2 e3
      refine hK.out _ _ (fun h => ⟨h.1.kept g3 (by simp), h.2.kept g3 (by simp)⟩) ?_
      clear hK K g3 HT2 HO1 HO2
      refine wpAnyY_one (i := 17) (by kernel_rfl) rfl (fun K hK => ?_)
      have bs := bsP r1 r2 r3 w3
      have g6 := gr_alloc w3 (.cells #[fv r1, fv r2, fv r3] 42) none
      obtain ⟨g9, c9, w9, ap, S9⟩ := Sep.appP HT3.out ⟨r1, r2, r3⟩ (by show (0 + 1) * 12 ≤ _; omega)
      have AP := Keep.mk ap
      have HS9 := Keep.mk S9
      clear ap S9 HT3
      obtain ⟨w6, hw6⟩ : ∃ w, w3.alloc (.cells #[fv r1, fv r2, fv r3] 42) = w := ⟨_, rfl⟩
      obtain ⟨b6, hb6⟩ : ∃ b, w3.heap.size = b := ⟨_, rfl⟩
      rw [hw6, hb6] at bs
      simp only [] at AP
      rw [hw6, hb6] at AP
      rw [hw6] at g6
      go_simp
      refine hK.out _ _ (fun h => ⟨h.1.kept g6 (by simp), h.2.kept g6 (by simp)⟩) ?_
      clear hK K bs hw6 hb6 g6
      refine wpAnyY_one (i := 18) (by kernel_rfl) rfl (fun K hK => ?_)
      rw [if_pos (show Region.wanted _ _ = true from rfl)]
      refine wp_append_run (.tmp 32) (.tmp 49) 35 rfl _ _ rfl rfl AP.out ?_
      refine hK.out _ _ (fun _ => ⟨HS9.out.boxGet k1m, HS9.out.boxGet k2m⟩) ?_
      clear hK K
      simp only [Act.put, List.getElem_toArray, List.getElem_cons_succ, List.getElem_cons_zero, List.setIfInBounds_toArray, List.set_cons_zero, List.set_cons_succ]
      refine wpAnyY_one (i := 19) (by kernel_rfl) rfl (fun K hK => ?_)
      go_simp
      refine hK.out _ _ (fun h => h) ?_
      clear hK K
      refine wpAnyY_done (by kernel_rfl) ?_ _
      go_wp2_with fail
      go_meet
      exact ⟨_, _, [⟨r1, r2, r3⟩], rfl, rfl, ⟨by simp, by rw [HOW.out, ← HO3.out]; simp⟩, HS9⟩
  case rest =>
  clear HS HOW
  obtain ⟨W1, _, P0, rfl, rfl, HP0, HS⟩ := hcut
  have lA := (HS.out.boxGet k1m).cellv 15 _ rfl
  have lB := (HS.out.boxGet k2m).cellv 15 _ rfl
  go_wp2_with fail
  clear lA lB
  refine (first_c W W1 _ vb B HS.out (HRA.out.2.1.kept HS.out.1) HRA.out.2.2.2.1 HRA.out.2.2.2.2).mono ?_
  rintro e W2 ⟨mb, m, rfl, S2⟩
  have HS2 : Keep (Sep W W2 (rowV 42 3 u7 P0.length (pls P0) :: mapA thM mb m (fst1 B) :: boxA xb (vwL ta a va) 29 :: boxA yb (vwL tb b vb) 29 :: [])) := ⟨S2.swap⟩
  clear S2 HS
  obtain ⟨aa, ca, hva, hqa⟩ := HRA.out.1.o
  rw [HN.out] at hva
  have lA := (HS2.out.boxGet k2m).cellv 15 _ rfl
  rw [hva] at lA
  go_wp2_with fail
  clear lA
  have HA : Keep (0 < n → ∃ g o, aa = some ⟨g, o, none⟩ ∧ ∀ j x, A[j]? = some x → W.rangeAt g (o + j * 5) (snv x)) := ⟨by rw [← HN.out]; exact hqa⟩
  clear hqa hva
  go_loopw [7, 57] (fun v u wr => ∃ (i : Nat) (P : List Pt), i ≤ n ∧ P.length ≤ i + 1 ∧ u = iv i ∧ Keep (P.map vP = ownV a b (V t) ++ (A.take i).filterMap (oneV B (V t))) ∧ Keep (Sep W wr (rowV 42 3 v P.length (pls P) :: mapA thM mb m (fst1 B) :: boxA xb (vwL ta a va) 29 :: boxA yb (vwL tb b vb) 29 :: []))) (fun _ u _ => (n - intOf u).toNat)
  case atStart => exact ⟨0, P0, by omega, by have := HP0.out.1; omega, rfl, ⟨by rw [HP0.out.2]; simp⟩, HS2⟩
  case round =>
    clear HS2 HP0
    obtain ⟨i, P, hi, hPl, rfl, HP, HS⟩ := hrel
    by_cases hlt : i < n
    · obtain ⟨s, hs⟩ : ∃ s, A[i]? = some s := ⟨_, List.getElem?_eq_getElem (by rw [HN.out]; exact hlt)⟩
      have hok : I64p (s.k, s.i) := by
        have := HRA.out.2.2.1 s (List.mem_of_getElem? hs)
        exact ⟨this.1, this.2.1⟩
      obtain ⟨g, o, rfl, hc⟩ := HA.out (by omega)
      have HX := Keep.mk (sn_cells (range_kept (hc i s hs) HS.out.1))
      have hi0 : (0 : Int) ≤ (i : Int) := by omega
      have hi1 : (i : Int) < (n : Nat) := by omega
      have hti : ((i : Nat) : Int).toNat = i := by omega
      have hwi : IntKind.i64.wrap ((i : Int) + 1) = ((i + 1 : Nat) : Int) := by rw [wi _ (by omega) (by omega)]; omega
      obtain ⟨y0, y1, y2, y3, y4⟩ := HX.out
      have HK := Keep.mk (And.intro hs hok)
      have HS1 := Keep.mk (HS.out.newBox #[iv s.k, iv s.i, iv s.x, iv s.y, iv s.h] 39)
      obtain ⟨sb, hsb⟩ : ∃ b, wr.heap.size = b := ⟨_, rfl⟩
      rw [hsb] at HS1
      clear hc hs hok HX HS
      go_wp2_with fail
      clear y0 y1 y2 y3 y4
      try rw [hsb]
      clear hsb
      generalize wr.alloc (.cells #[iv s.k, iv s.i, iv s.x, iv s.y, iv s.h] 39) = W3 at HS1 ⊢
      refine (thing_c s W3).mono ?_
      rintro e W4 ⟨rfl, g3⟩
      have HS3 := Keep.mk (HS1.out.grown g3)
      clear HS1 g3
      have hlk := (HS3.out.mapGet k2m).look2 (s.k, s.i) HK.out.2
      have HFM := Keep.mk (fm_take (B := B) (t := V t) HK.out.1)
      cases hf : fst1 B (s.k, s.i) with
      | none =>
        rw [hf] at hlk
        have HF := Keep.mk hf
        obtain ⟨zz, hzz⟩ : ∃ z, zN = z := ⟨_, rfl⟩
        change (Instr.lookup 48 (.map (some mb)) (ce (s.k, s.i)) true).run Try.prog W4 = .ok (.tuple #[snA zN, .bool false]) W4 at hlk
        rw [hzz] at hlk
        clear hf hzz
        have HS4 := Keep.mk ((HS3.out.grown (gr_alloc W4 (.cells #[iv zz.k, iv zz.i, iv zz.x, iv zz.y, iv zz.h] 39) none)).tail)
        have HP2 : Keep (P.map vP = ownV a b (V t) ++ (A.take (i + 1)).filterMap (oneV B (V t))) := ⟨by
          rw [HFM.out, HP.out]
          unfold oneV
          rw [HF.out]
          simp⟩
        clear HFM
        go_wp2_with fail
        go_roundw
        case rel => exact ⟨i + 1, P, by omega, by omega, rfl, HP2, HS4⟩
        case measure => simp [intOf]; omega
      | some u =>
        rw [hf] at hlk
        have HF := Keep.mk hf
        change (Instr.lookup 48 (.map (some mb)) (ce (s.k, s.i)) true).run Try.prog W4 = .ok (.tuple #[snA u, .bool true]) W4 at hlk
        clear hf
        have HS4 := Keep.mk (HS3.out.newBox #[iv u.k, iv u.i, iv u.x, iv u.y, iv u.h] 39)
        obtain ⟨ub, hub⟩ : ∃ b, W4.heap.size = b := ⟨_, rfl⟩
        rw [hub] at HS4
        go_wp2_with fail
        clear hlk HS3
        try rw [hub]
        clear hub
        generalize W4.alloc (.cells #[iv u.k, iv u.i, iv u.x, iv u.y, iv u.h] 39) = W5 at HS4 ⊢
        have HS : Keep (Sep W W5.drew (rowV 42 3 u7 P.length (pls P) :: boxA ub (snv u) 39 :: boxA sb (snv s) 39 :: mapA thM mb m (fst1 B) :: boxA xb (vwL ta a va) 29 :: boxA yb (vwL tb b vb) 29 :: [])) := ⟨(fr1 [_, _] HS4.out).grown (gr_drew W5 none)⟩
        clear HS4
        refine region_Y (S := fun w => Has w sb (snv s) 39 ∧ Has w ub (snv u) 39) [] (by kernel_rfl) ?_
        have hHeld := (⟨HS.out.boxGet k2m, HS.out.boxGet k1m⟩ : (fun w => Has w sb (snv s) 39 ∧ Has w ub (snv u) 39) W5.drew)
        refine wpAnyY_pure (i := 0) (oi := _) (v := ?_) rfl (by kernel_rfl) (by kernel_rfl) (by kernel_rfl) (by kernel_rfl) (fun _ _ _ h => h) (Or.inl ⟨by rfl, ?_⟩) ?_
        rotate_left
        · (intro w hSw; go_simp; first | done | (with_reducible rfl))
        simp only [Act.put, List.getElem_toArray, List.getElem_cons_zero, List.setIfInBounds_toArray, List.set_cons_zero, List.set_cons_succ]
        refine wpAnyY_pure (i := 1) (oi := _) (v := ?_) rfl (by kernel_rfl) (by kernel_rfl) (by kernel_rfl) (by kernel_rfl) (fun _ _ _ h => h) (Or.inl ⟨by rfl, ?_⟩) ?_
        rotate_left
        · (intro w hSw; go_simp; first | done | (with_reducible rfl))
        simp only [Act.put, List.getElem_toArray, List.getElem_cons_succ, List.getElem_cons_zero, List.setIfInBounds_toArray, List.set_cons_zero, List.set_cons_succ]
        refine wpAnyY_take (i := 2) (oi := _) (v := ?_) rfl (by kernel_rfl) (by kernel_rfl) (by kernel_rfl) (by kernel_rfl) (by kernel_rfl) (fun _ _ _ h => h) (Or.inl ⟨by rfl, ?_⟩) hHeld ?_
        rotate_left
        · (intro w hSw; have q0 := hSw.1.cellv 2 _ rfl; have q1 := hSw.1.cellv 3 _ rfl; go_simp; first | done | (with_reducible rfl))
        simp only [Act.put, List.getElem_toArray, List.getElem_cons_succ, List.getElem_cons_zero, List.setIfInBounds_toArray, List.set_cons_zero, List.set_cons_succ]
        refine wpAnyY_pure (i := 3) (oi := _) (v := ?_) rfl (by kernel_rfl) (by kernel_rfl) (by kernel_rfl) (by kernel_rfl) (fun _ _ _ h => h) (Or.inl ⟨by rfl, ?_⟩) ?_
        rotate_left
        · (intro w hSw; go_simp; first | done | (with_reducible rfl))
        simp only [Act.put, List.getElem_toArray, List.getElem_cons_succ, List.getElem_cons_zero, List.setIfInBounds_toArray, List.set_cons_zero, List.set_cons_succ]
        refine wpAnyY_take (i := 4) (oi := _) (v := ?_) rfl (by kernel_rfl) (by kernel_rfl) (by kernel_rfl) (by kernel_rfl) (by kernel_rfl) (fun _ _ _ h => h) (Or.inl ⟨by rfl, ?_⟩) hHeld ?_
        rotate_left
        · (intro w hSw; have q0 := hSw.1.cellv 4 _ rfl; go_simp; first | done | (with_reducible rfl))
        simp only [Act.put, List.getElem_toArray, List.getElem_cons_succ, List.getElem_cons_zero, List.setIfInBounds_toArray, List.set_cons_zero, List.set_cons_succ]
        refine wpAnyY_pure (i := 6) (oi := _) (v := ?_) rfl (by kernel_rfl) (by kernel_rfl) (by kernel_rfl) (by kernel_rfl) (fun _ _ _ h => h) (Or.inl ⟨by rfl, ?_⟩) ?_
        rotate_left
        · (intro w hSw; go_simp; first | done | (with_reducible rfl))
        simp only [Act.put, List.getElem_toArray, List.getElem_cons_succ, List.getElem_cons_zero, List.setIfInBounds_toArray, List.set_cons_zero, List.set_cons_succ]
        refine wpAnyY_take (i := 7) (oi := _) (v := ?_) rfl (by kernel_rfl) (by kernel_rfl) (by kernel_rfl) (by kernel_rfl) (by kernel_rfl) (fun _ _ _ h => h) (Or.inl ⟨by rfl, ?_⟩) hHeld ?_
        rotate_left
        · (intro w hSw; have q0 := hSw.2.cellv 2 _ rfl; have q1 := hSw.2.cellv 3 _ rfl; go_simp; first | done | (with_reducible rfl))
        simp only [Act.put, List.getElem_toArray, List.getElem_cons_succ, List.getElem_cons_zero, List.setIfInBounds_toArray, List.set_cons_zero, List.set_cons_succ]
        refine wpAnyY_pure (i := 8) (oi := _) (v := ?_) rfl (by kernel_rfl) (by kernel_rfl) (by kernel_rfl) (by kernel_rfl) (fun _ _ _ h => h) (Or.inl ⟨by rfl, ?_⟩) ?_
        rotate_left
        · (intro w hSw; go_simp; first | done | (with_reducible rfl))
        simp only [Act.put, List.getElem_toArray, List.getElem_cons_succ, List.getElem_cons_zero, List.setIfInBounds_toArray, List.set_cons_zero, List.set_cons_succ]
        refine wpAnyY_take (i := 9) (oi := _) (v := ?_) rfl (by kernel_rfl) (by kernel_rfl) (by kernel_rfl) (by kernel_rfl) (by kernel_rfl) (fun _ _ _ h => h) (Or.inl ⟨by rfl, ?_⟩) hHeld ?_
        rotate_left
        · (intro w hSw; have q0 := hSw.2.cellv 4 _ rfl; go_simp; first | done | (with_reducible rfl))
        simp only [Act.put, List.getElem_toArray, List.getElem_cons_succ, List.getElem_cons_zero, List.setIfInBounds_toArray, List.set_cons_zero, List.set_cons_succ]
        refine wpAnyY_pure (i := 11) (oi := _) (v := ?_) rfl (by kernel_rfl) (by kernel_rfl) (by kernel_rfl) (by kernel_rfl) (fun _ _ _ h => h) (Or.inl ⟨by rfl, ?_⟩) ?_
        rotate_left
        · (intro w hSw; go_simp; first | done | (with_reducible rfl))
        simp only [Act.put, List.getElem_toArray, List.getElem_cons_succ, List.getElem_cons_zero, List.setIfInBounds_toArray, List.set_cons_zero, List.set_cons_succ]
        refine wpAnyY_one (i := 5) (by kernel_rfl) rfl (fun K hK => ?_)
        go_simp
        refine (of_c s.x s.y s.h _).mono ?_
        rintro e w1 ⟨v, rfl, ⟨p1, p2, p3, rfl, e1, e2, e3⟩, g1⟩
        have HO1 := Keep.mk (And.intro e1 (And.intro e2 e3))
        have HT1 := Keep.mk (HS.out.grown g1)
        clear e1 e2 e3
        refine hK.out _ _ (fun h => ⟨h.1.kept g1 (by simp), h.2.kept g1 (by simp)⟩) ?_
        clear hK K g1
        refine wpAnyY_one (i := 10) (by kernel_rfl) rfl (fun K hK => ?_)
        go_simp
        refine (of_c u.x u.y u.h _).mono ?_
        rintro e w2 ⟨v, rfl, ⟨q1, q2, q3, rfl, e1, e2, e3⟩, g2⟩
        have HO2 := Keep.mk (And.intro e1 (And.intro e2 e3))
        have HT2 := Keep.mk (HT1.out.grown g2)
        clear e1 e2 e3
        refine hK.out _ _ (fun h => ⟨h.1.kept g2 (by simp), h.2.kept g2 (by simp)⟩) ?_
        clear hK K g2 HT1
        refine wpAnyY_one (i := 12) (by kernel_rfl) rfl (fun K hK => ?_)
        go_simp
        refine (mix_c p1 p2 p3 q1 q2 q3 t _).mono ?_
        rintro e w3 ⟨v, rfl, ⟨r1, r2, r3, rfl, e1, e2, e3⟩, g3⟩
        have HO3 : Keep (vP ⟨r1, r2, r3⟩ = mixV (ofV s.x s.y s.h) (ofV u.x u.y u.h) (V t)) := ⟨by
          have hA : (⟨V p1, V p2, V p3⟩ : Pl) = ofV s.x s.y s.h := by
            obtain ⟨x1, x2, x3⟩ := HO1.out
            rw [x1, x2, x3]
          have hB : (⟨V q1, V q2, V q3⟩ : Pl) = ofV u.x u.y u.h := by
            obtain ⟨x1, x2, x3⟩ := HO2.out
            rw [x1, x2, x3]
          rw [hA, hB] at e1 e2 e3
          unfold vP
          simp only
          rw [e1, e2, e3]⟩
        have HT3 := Keep.mk (HT2.out.grown g3)
        clear e1 e2 e3
        refine hK.out _ _ (fun h => ⟨h.1.kept g3 (by simp), h.2.kept g3 (by simp)⟩) ?_
        clear hK K g3 HT2 HO1 HO2
        refine wpAnyY_one (i := 13) (by kernel_rfl) rfl (fun K hK => ?_)
        have bs := bsP r1 r2 r3 w3
        have g6 := gr_alloc w3 (.cells #[fv r1, fv r2, fv r3] 42) none
        obtain ⟨g9, c9, w9, ap, S9⟩ := Sep.appP HT3.out ⟨r1, r2, r3⟩ (by omega)
        have AP := Keep.mk ap
        have HS9 := Keep.mk S9
        clear ap S9 HT3
        obtain ⟨w6, hw6⟩ : ∃ w, w3.alloc (.cells #[fv r1, fv r2, fv r3] 42) = w := ⟨_, rfl⟩
        obtain ⟨b6, hb6⟩ : ∃ b, w3.heap.size = b := ⟨_, rfl⟩
        rw [hw6, hb6] at bs
        simp only [] at AP
        rw [hw6, hb6] at AP
        rw [hw6] at g6
        go_simp
        refine hK.out _ _ (fun h => ⟨h.1.kept g6 (by simp), h.2.kept g6 (by simp)⟩) ?_
        clear hK K bs hw6 hb6 g6
        refine wpAnyY_one (i := 14) (by kernel_rfl) rfl (fun K hK => ?_)
        rw [if_pos (show Region.wanted _ _ = true from rfl)]
        refine wp_append_run (.tmp 69) (.tmp 82) 35 rfl _ _ rfl rfl AP.out ?_
        refine hK.out _ _ (fun _ => ⟨HS9.out.boxGet k2m, HS9.out.boxGet k1m⟩) ?_
        clear hK K
        simp only [Act.put, List.getElem_toArray, List.getElem_cons_succ, List.getElem_cons_zero, List.setIfInBounds_toArray, List.set_cons_zero, List.set_cons_succ]
        refine wpAnyY_one (i := 15) (by kernel_rfl) rfl (fun K hK => ?_)
        go_simp
        refine hK.out _ _ (fun h => h) ?_
        clear hK K
        refine wpAnyY_done (by kernel_rfl) ?_ _
        have HP2 : Keep ((P ++ [(⟨r1, r2, r3⟩ : Pt)]).map vP = ownV a b (V t) ++ (A.take (i + 1)).filterMap (oneV B (V t))) := ⟨by
          rw [HFM.out, List.map_append, HP.out]
          unfold oneV
          rw [HF.out]
          simp [HO3.out]⟩
        have HS10 := Keep.mk (HS9.out.dropM [_] [_, _])
        clear HFM HS9 AP HO3 HP
        have hPl2 : (P ++ [(⟨r1, r2, r3⟩ : Pt)]).length ≤ i + 1 + 1 := by simp; omega
        go_wp2_with fail
        go_roundw
        case rel => exact ⟨i + 1, P ++ [(⟨r1, r2, r3⟩ : Pt)], by omega, hPl2, rfl, HP2, HS10⟩
        case measure => simp [intOf]; omega
    · have hi1 : ¬ (i : Int) < (n : Nat) := by omega
      have hin : i = n := by omega
      rw [hin, ← HN.out, List.take_length] at HP
      clear hin
      go_wp2_with fail
      go_ret
      exact ⟨_, rfl, P, HP.out, HS.out.dropM [_] [_, _, _]⟩
end Go.Proofs.Ytfhhneibdmjfgab
