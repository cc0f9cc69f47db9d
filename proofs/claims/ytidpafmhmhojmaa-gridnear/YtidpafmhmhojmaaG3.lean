/- grid: enter. -/
import Derived.Test.YtidpafmhmhojmaaG2
namespace Go.Proofs.Ytidpafmhmhojmaa
open Go Go.RowKit

def tgv (t : Tg) : List Value := [iv t.id, iv t.x, iv t.y, iv t.s, iv t.p]
def tgA (t : Tg) : As := boxA t.b [iv t.id, iv t.x, iv t.y, iv t.s, iv t.p] 60
def clA (c : Cl) : As := rowV 57 1 (sl c.g c.L.length c.c) c.L.length (c.L.map pt)
def clS (c : Cl) : Sl := (c.g + 1, c.L.length, c.c)
def clf (C : List Cl) : Int × Int → Option Sl := fun k => (C.find? (fun c => decide (c.k = k))).map clS
def idf (A : List Tg) : Int → Option Nat := fun k => (A.find? (fun t => decide (t.id = k))).map (fun t => t.b + 1)
theorem clf_cons (c : Cl) (D : List Cl) (k : Int × Int) : clf (c :: D) k = if c.k = k then some (clS c) else clf D k := by
  unfold clf
  rw [List.find?_cons]
  by_cases h : c.k = k
  · simp [h]
  · simp [h]
theorem clf_none {C : List Cl} {k : Int × Int} (h : ∀ c ∈ C, c.k ≠ k) : clf C k = none := by
  induction C with
  | nil => rfl
  | cons c D ih =>
    rw [clf_cons, if_neg (h c (List.mem_cons_self ..)), ih (fun d hd => h d (List.mem_cons_of_mem _ hd))]
theorem clf_mem {C : List Cl} (hk : C.Pairwise (fun a b => a.k ≠ b.k)) {c : Cl} (hc : c ∈ C) : clf C c.k = some (clS c) := by
  induction C with
  | nil => cases hc
  | cons d D ih =>
    obtain ⟨h1, h2⟩ := List.pairwise_cons.1 hk
    rw [clf_cons]
    rcases List.mem_cons.1 hc with rfl | hc
    · simp
    · rw [if_neg (h1 c hc), ih h2 hc]
theorem clf_perm {C C' : List Cl} (hk : C.Pairwise (fun a b => a.k ≠ b.k)) (hp : C.Perm C') : clf C = clf C' := by
  funext k
  by_cases h : ∃ c ∈ C, c.k = k
  · obtain ⟨c, hc, rfl⟩ := h
    rw [clf_mem hk hc, clf_mem ((hp.pairwise_iff (fun {_ _} q => Ne.symm q)).1 hk) (hp.mem_iff.1 hc)]
  · rw [clf_none (fun c hc e => h ⟨c, hc, e⟩), clf_none (fun c hc e => h ⟨c, hp.mem_iff.2 hc, e⟩)]
theorem clf_upd {c c' : Cl} {D : List Cl} (h : c'.k = c.k) : upd (clf (c :: D)) c.k (some (clS c')) = clf (c' :: D) := by
  funext k
  rw [clf_cons]
  by_cases e : c'.k = k
  · rw [if_pos e, ← e, h, upd_same]
  · rw [if_neg e, upd_other _ _ (fun q => e (by rw [h, q])), clf_cons, if_neg (by rw [← h]; exact e)]
theorem clf_del {c : Cl} {D : List Cl} (h : ∀ d ∈ D, d.k ≠ c.k) : upd (clf (c :: D)) c.k none = clf D := by
  funext k
  by_cases e : k = c.k
  · subst e
    rw [upd_same, clf_none h]
  · rw [upd_other _ _ e, clf_cons, if_neg (Ne.symm e)]
theorem clf_new {c' : Cl} {D : List Cl} : upd (clf D) c'.k (some (clS c')) = clf (c' :: D) := by
  funext k
  rw [clf_cons]
  by_cases e : c'.k = k
  · rw [if_pos e, ← e, upd_same]
  · rw [if_neg e, upd_other _ _ (Ne.symm e)]
theorem Sep.left {w0 W : World} (A : List As) {B : List As} (h : Sep w0 W (A ++ B)) : Sep w0 W A := Sep.dropL (B := B) (h.perm List.perm_append_comm)
theorem Sep.front {w0 W : World} (A : List As) {B l : List As} (h : Sep w0 W (A ++ (B ++ l))) : Sep w0 W (B ++ (A ++ l)) := by
  refine h.perm ?_
  rw [← List.append_assoc, ← List.append_assoc]
  exact List.perm_append_comm.append_right l

set_option maxRecDepth 100000 in
set_option maxHeartbeats 8000000 in
theorem enter_w (w0 W : World) (l : List As) (gb mc m tb n : Nat) (sd x y : Int) (va mi v a0 a3 a4 : Value) (xs : List Value) (f : Int × Int → Option Sl) (hs : 1 ≤ sd ∧ sd ≤ 1099511627776) (hx : I64 x) (hy : I64 y) (hv : cellsM.ev ((f (x / sd, y / sd)).getD cellsM.z) = v) (hn : (n + 1) * 8 ≤ 140737488355328) (hm : m < 9223372036854775807) (m2 : Nat) (hm2 : (if (f (x / sd, y / sd)).isSome then m else m + 1) = m2)
    (h : Sep w0 W (boxA gb [iv sd, va, mi, .map (some mc)] 56 :: mapA cellsM mc m f :: rowV 57 1 v n xs :: boxA tb [a0, iv x, iv y, a3, a4] 60 :: l)) :
    Calls Try.prog 29 #[pt gb, pt tb] W fun e W' => ∃ g c, e = .returned (.tuple #[]) ∧ Sep w0 W' (boxA gb [iv sd, va, mi, .map (some mc)] 56 :: mapA cellsM mc m2 (upd f (x / sd, y / sd) (some (g + 1, n + 1, c))) :: rowV 57 1 (sl g (n + 1) c) (n + 1) (xs ++ [pt tb]) :: boxA tb [a0, iv x, iv y, a3, iv n] 60 :: l) := by
  have HC := Keep.mk (cellOf_c W gb sd x y _ hs hx hy (h.boxGet k0m))
  have HK : Keep (I64p (x / sd, y / sd)) := ⟨div_I64 sd x hs.1 hx, div_I64 sd y hs.1 hy⟩
  have HV := Keep.mk hv
  have HN := Keep.mk hn
  have HM := Keep.mk hm
  have HB := Keep.mk h
  have HM2 := Keep.mk hm2
  have q1 := (h.boxGet k3m).cellv 1 _ rfl
  have q2 := (h.boxGet k3m).cellv 2 _ rfl
  clear h hn hm hs hx hy hv hm2
  generalize x / sd = kx at *
  generalize y / sd = ky at *
  go_enter Try.func29, Try.ntmps29
  go_wp2_with fail
  refine HC.out.mono ?_
  rintro e w1 ⟨rfl, g1⟩
  have S1 := (HB.out.grown g1).newBox #[iv kx, iv ky] 77
  obtain ⟨W2, hW2⟩ : ∃ W2, w1.alloc (.cells #[iv kx, iv ky] 77) = W2 := ⟨_, rfl⟩
  obtain ⟨kb, hkb⟩ : ∃ b, w1.heap.size = b := ⟨_, rfl⟩
  rw [hW2, hkb] at S1
  have HB : Keep (Sep w0 W2 (boxA kb [iv kx, iv ky] 77 :: boxA gb [iv sd, va, mi, .map (some mc)] 56 :: mapA cellsM mc m f :: rowV 57 1 v n xs :: boxA tb [a0, iv x, iv y, a3, a4] 60 :: l)) := ⟨S1⟩
  clear S1 g1 HC q1 q2
  go_wp2_with fail
  clear hW2 hkb
  replace HB := Keep.mk (HB.out.grown (gr_drew _ none))
  refine region_X (S := fun w' => Sep w0 w' [boxA kb [iv kx, iv ky] 77, boxA gb [iv sd, va, mi, .map (some mc)] 56, mapA cellsM mc m f]) [13] (by kernel_rfl) (HB.out.left [_, _, _]) (fun hHeld => ?_)
  obtain ⟨W0, hW0⟩ : ∃ W_, W2.drew = W_ := ⟨_, rfl⟩
  rw [hW0] at HB hHeld ⊢
  clear hW0
  refine wpAnyX_take (i := 0) (oi := _) (v := ?_) rfl (by kernel_rfl) (by kernel_rfl) (by kernel_rfl) (by kernel_rfl) (by kernel_rfl) (fun _ _ _ h => h) (Or.inl ⟨by rfl, ?_⟩) (by assumption) ?_
  rotate_left
  · (intro w hSw; go_simp; first | done | (with_reducible rfl))
  simp only [Act.put, List.getElem_toArray, List.getElem_cons_zero, List.setIfInBounds_toArray, List.set_cons_zero, List.set_cons_succ]
  refine wpAnyX_take (i := 1) (oi := _) (v := ?_) rfl (by kernel_rfl) (by kernel_rfl) (by kernel_rfl) (by kernel_rfl) (by kernel_rfl) (fun _ _ _ h => h) (Or.inl ⟨by rfl, ?_⟩) (by assumption) ?_
  rotate_left
  · (intro w hSw; go_simp; first | done | (with_reducible rfl))
  simp only [Act.put, List.getElem_toArray, List.getElem_cons_succ, List.getElem_cons_zero, List.setIfInBounds_toArray, List.set_cons_zero, List.set_cons_succ]
  refine wpAnyX_take (i := 2) (oi := _) (v := ?_) rfl (by kernel_rfl) (by kernel_rfl) (by kernel_rfl) (by kernel_rfl) (by kernel_rfl) (fun _ _ _ h => h) (Or.inl ⟨by rfl, ?_⟩) (by assumption) ?_
  rotate_left
  · (intro w hSw; go_simp; first | done | (with_reducible rfl))
  simp only [Act.put, List.getElem_toArray, List.getElem_cons_succ, List.getElem_cons_zero, List.setIfInBounds_toArray, List.set_cons_zero, List.set_cons_succ]
  refine wpAnyX_take (i := 3) (oi := _) (v := ?_) rfl (by kernel_rfl) (by kernel_rfl) (by kernel_rfl) (by kernel_rfl) (by kernel_rfl) (fun _ _ _ h => h) (Or.inl ⟨by rfl, ?_⟩) (by assumption) ?_
  rotate_left
  · (intro w hSw; have q3 := (hSw.boxGet k1m).cellv 3 _ rfl; go_simp; first | done | (with_reducible rfl))
  simp only [Act.put, List.getElem_toArray, List.getElem_cons_succ, List.getElem_cons_zero, List.setIfInBounds_toArray, List.set_cons_zero, List.set_cons_succ]
  refine wpAnyX_take (i := 4) (oi := _) (v := .agg #[iv kx, iv ky]) rfl (by kernel_rfl) (by kernel_rfl) (by kernel_rfl) (by kernel_rfl) (by kernel_rfl) (fun _ _ _ h => h) (Or.inl ⟨by rfl, ?_⟩) (by assumption) ?_
  · (intro w hSw; have q0 := (hSw.boxGet k0m).cellv 0 _ rfl; have q1 := (hSw.boxGet k0m).cellv 1 _ rfl; go_simp; first | done | rfl | (simp; done) | trace_state)
  simp only [Act.put, List.getElem_toArray, List.getElem_cons_succ, List.getElem_cons_zero, List.setIfInBounds_toArray, List.set_cons_zero, List.set_cons_succ]
  refine wpAnyX_take (i := 5) (oi := _) (v := ?_) rfl (by kernel_rfl) (by kernel_rfl) (by kernel_rfl) (by kernel_rfl) (by kernel_rfl) (fun _ _ _ h => h) (Or.inl ⟨by rfl, ?_⟩) (by assumption) ?_
  rotate_left
  · (intro w hSw; go_simp; first | done | (with_reducible rfl))
  simp only [Act.put, List.getElem_toArray, List.getElem_cons_succ, List.getElem_cons_zero, List.setIfInBounds_toArray, List.set_cons_zero, List.set_cons_succ]
  refine wpAnyX_take (i := 6) (oi := _) (v := ?_) rfl (by kernel_rfl) (by kernel_rfl) (by kernel_rfl) (by kernel_rfl) (by kernel_rfl) (fun _ _ _ h => h) (Or.inl ⟨by rfl, ?_⟩) (by assumption) ?_
  rotate_left
  · (intro w hSw; go_simp; first | done | (with_reducible rfl))
  simp only [Act.put, List.getElem_toArray, List.getElem_cons_succ, List.getElem_cons_zero, List.setIfInBounds_toArray, List.set_cons_zero, List.set_cons_succ]
  refine wpAnyX_take (i := 7) (oi := _) (v := ?_) rfl (by kernel_rfl) (by kernel_rfl) (by kernel_rfl) (by kernel_rfl) (by kernel_rfl) (fun _ _ _ h => h) (Or.inl ⟨by rfl, ?_⟩) (by assumption) ?_
  rotate_left
  · (intro w hSw; go_simp; first | done | (with_reducible rfl))
  simp only [Act.put, List.getElem_toArray, List.getElem_cons_succ, List.getElem_cons_zero, List.setIfInBounds_toArray, List.set_cons_zero, List.set_cons_succ]
  refine wpAnyX_take (i := 8) (oi := _) (v := ?_) rfl (by kernel_rfl) (by kernel_rfl) (by kernel_rfl) (by kernel_rfl) (by kernel_rfl) (fun _ _ _ h => h) (Or.inl ⟨by rfl, ?_⟩) (by assumption) ?_
  rotate_left
  · (intro w hSw; have q3 := (hSw.boxGet k1m).cellv 3 _ rfl; go_simp; first | done | (with_reducible rfl))
  simp only [Act.put, List.getElem_toArray, List.getElem_cons_succ, List.getElem_cons_zero, List.setIfInBounds_toArray, List.set_cons_zero, List.set_cons_succ]
  refine wpAnyX_take (i := 9) (oi := _) (v := .agg #[iv kx, iv ky]) rfl (by kernel_rfl) (by kernel_rfl) (by kernel_rfl) (by kernel_rfl) (by kernel_rfl) (fun _ _ _ h => h) (Or.inl ⟨by rfl, ?_⟩) (by assumption) ?_
  · (intro w hSw; have q0 := (hSw.boxGet k0m).cellv 0 _ rfl; have q1 := (hSw.boxGet k0m).cellv 1 _ rfl; go_simp; first | done | rfl | (simp; done) | trace_state)
  simp only [Act.put, List.getElem_toArray, List.getElem_cons_succ, List.getElem_cons_zero, List.setIfInBounds_toArray, List.set_cons_zero, List.set_cons_succ]
  refine wpAnyX_take (i := 10) (oi := _) (v := v) rfl (by kernel_rfl) (by kernel_rfl) (by kernel_rfl) (by kernel_rfl) (by kernel_rfl) (fun _ _ _ h => h) (Or.inl ⟨by rfl, ?_⟩) (by assumption) ?_
  · (intro w hSw; have ql : (Instr.lookup 53 (.map (some mc)) (.agg #[iv kx, iv ky]) false).run Try.prog w = .ok v w := (by have q := (hSw.mapGet k2m).look (kx, ky) HK.out; rw [HV.out] at q; exact q); go_simp; first | done | rfl | (simp; done) | trace_state)
  simp only [Act.put, List.getElem_toArray, List.getElem_cons_succ, List.getElem_cons_zero, List.setIfInBounds_toArray, List.set_cons_zero, List.set_cons_succ]
  refine wpAnyX_take (i := 11) (oi := _) (v := ?_) rfl (by kernel_rfl) (by kernel_rfl) (by kernel_rfl) (by kernel_rfl) (by kernel_rfl) (fun _ _ _ h => h) (Or.inl ⟨by rfl, ?_⟩) (by assumption) ?_
  rotate_left
  · (intro w hSw; go_simp; first | done | (with_reducible rfl))
  simp only [Act.put, List.getElem_toArray, List.getElem_cons_succ, List.getElem_cons_zero, List.setIfInBounds_toArray, List.set_cons_zero, List.set_cons_succ]
  refine wpAnyX_one (i := 12) (by kernel_rfl) rfl (fun K hK => ?_)
  go_simp
  refine (lay1_c w0 _ (boxA kb [iv kx, iv ky] 77 :: boxA gb [iv sd, va, mi, .map (some mc)] 56 :: mapA cellsM mc m f :: l) v n xs tb a0 (iv x) (iv y) a3 a4 HN.out (by exact Sep.front [_, _, _] (B := [_, _]) HB.out)).mono ?_
  rintro e wg ⟨g9, c9, rfl, S9⟩
  have S9 : Sep w0 wg ([boxA kb [iv kx, iv ky] 77, boxA gb [iv sd, va, mi, .map (some mc)] 56, mapA cellsM mc m f] ++ (rowV 57 1 (sl g9 (n + 1) c9) (n + 1) (xs ++ [pt tb]) :: boxA tb [a0, iv x, iv y, a3, iv n] 60 :: l)) := Sep.front [_, _] (B := [_, _, _]) S9
  refine hK.out _ _ S9.left (fun hHeld => ?_)
  have HS := Keep.mk S9
  clear hK K S9 HB
  refine wpAnyX_late (i := 13) (by kernel_rfl) rfl (by kernel_rfl) (fun K hK => ?_)
  obtain ⟨W9, r9, m9, G9, _⟩ := (HS.out.mapGet k2m).put (kx, ky) HK.out (g9 + 1, n + 1, c9) HM.out
  have r9 : (Instr.mapUpdate 53 (.map (some mc)) (.agg #[iv kx, iv ky]) (sl g9 (n + 1) c9)).run Try.prog wg = .ok () W9 := r9
  rw [HM2.out] at m9
  have S9 := ((fr1 [_, _] HS.out).mapTo m9 G9)
  have HF := Keep.mk S9
  clear S9 m9 G9 HS
  obtain ⟨n1, hn1⟩ : ∃ n1, n + 1 = n1 := ⟨_, rfl⟩
  rw [hn1] at r9 HF ⊢
  go_simp
  refine hK.out _ _ ?_
  clear hK K r9 hHeld
  refine wpAnyX_done (by kernel_rfl) ?_ _
  go_wp2_with fail
  go_end0
  exact ⟨g9, c9, rfl, by rw [hn1]; have := (fr1 [_] HF.out).tail; exact bk1 [_] this⟩
end Go.Proofs.Ytidpafmhmhojmaa
