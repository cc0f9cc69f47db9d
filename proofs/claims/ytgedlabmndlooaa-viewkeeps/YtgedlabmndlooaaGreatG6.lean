/- grid: a grid as one thing; New, At, Len. -/
import Derived.Test.YtgedlabmndlooaaGreatG5
namespace Go.Proofs.YtgedlabmndlooaaGreat
open Go Go.RowKit

set_option maxRecDepth 100000 in
theorem idf_cons (t : Tg) (R : List Tg) (k : Int) : idf (t :: R) k = if t.id = k then some (t.b + 1) else idf R k := by
  unfold idf
  rw [List.find?_cons]
  by_cases h : t.id = k
  · simp [h]
  · simp [h]
set_option maxRecDepth 100000 in
theorem idf_none {A : List Tg} {k : Int} (h : ∀ t ∈ A, t.id ≠ k) : idf A k = none := by
  induction A with
  | nil => rfl
  | cons c D ih =>
    rw [idf_cons, if_neg (h c (List.mem_cons_self ..)), ih (fun d hd => h d (List.mem_cons_of_mem _ hd))]
set_option maxRecDepth 100000 in
theorem idf_mem {A : List Tg} (hk : A.Pairwise (fun a b => a.id ≠ b.id)) {t : Tg} (ht : t ∈ A) : idf A t.id = some (t.b + 1) := by
  induction A with
  | nil => cases ht
  | cons d D ih =>
    obtain ⟨h1, h2⟩ := List.pairwise_cons.1 hk
    rw [idf_cons]
    rcases List.mem_cons.1 ht with rfl | ht
    · simp
    · rw [if_neg (h1 t ht), ih h2 ht]
set_option maxRecDepth 100000 in
theorem idf_perm {A A' : List Tg} (hk : A.Pairwise (fun a b => a.id ≠ b.id)) (hp : A.Perm A') : idf A = idf A' := by
  funext k
  by_cases h : ∃ c ∈ A, c.id = k
  · obtain ⟨c, hc, rfl⟩ := h
    rw [idf_mem hk hc, idf_mem ((hp.pairwise_iff (fun {_ _} q => Ne.symm q)).1 hk) (hp.mem_iff.1 hc)]
  · rw [idf_none (fun c hc e => h ⟨c, hc, e⟩), idf_none (fun c hc e => h ⟨c, hp.mem_iff.2 hc, e⟩)]
set_option maxRecDepth 100000 in
theorem idf_core {A A' : List Tg} (h : A'.map core = A.map core) : idf A' = idf A := by
  have e : ∀ B : List Tg, idf (B.map core) = idf B := by
    intro B
    induction B with
    | nil => rfl
    | cons t R ih =>
      funext k
      rw [List.map_cons, idf_cons, idf_cons, ih]; rfl
  rw [← e A', h, e A]
set_option maxRecDepth 100000 in
theorem idf_del {t : Tg} {R : List Tg} (h : ∀ u ∈ R, u.id ≠ t.id) : upd (idf (t :: R)) t.id none = idf R := by
  funext k
  by_cases e : k = t.id
  · subst e
    rw [upd_same, idf_none h]
  · rw [upd_other _ _ e, idf_cons, if_neg (Ne.symm e)]
set_option maxRecDepth 100000 in
theorem idf_new {t : Tg} {R : List Tg} : upd (idf R) t.id (some (t.b + 1)) = idf (t :: R) := by
  funext k
  rw [idf_cons]
  by_cases e : t.id = k
  · rw [if_pos e, ← e, upd_same]
  · rw [if_neg e, upd_other _ _ (Ne.symm e)]
/-- a grid that holds M, and how it lies -/
structure Gok (sd : Int) (A : List Tg) (C : List Cl) (M : List Pl) : Prop where
  hs : 1 ≤ sd ∧ sd ≤ 1099511627776
  j : Jok sd A C none
  st : ∀ (i : Nat) (t : Tg), A[i]? = some t → t.s = i
  rg : ∀ t ∈ A, I64 t.id ∧ I64 t.x ∧ I64 t.y
  con : (A.map plOf).Perm M
  srt : Srt M
set_option maxRecDepth 100000 in
theorem Gok.idd {sd : Int} {A : List Tg} {C : List Cl} {M : List Pl} (h : Gok sd A C M) : A.Pairwise (fun a b => a.id ≠ b.id) := by
  have h1 := (h.con.pairwise_iff (R := fun a b : Pl => a.id ≠ b.id) (fun {_ _} q => Ne.symm q)).2 h.srt.ne
  exact (List.pairwise_map.1 h1).imp (fun q => q)
set_option maxRecDepth 100000 in
theorem Gok.len {sd : Int} {A : List Tg} {C : List Cl} {M : List Pl} (h : Gok sd A C M) : A.length = M.length := by
  rw [← h.con.length_eq, List.length_map]
set_option maxRecDepth 100000 in
theorem Gok.look {sd : Int} {A : List Tg} {C : List Cl} {M : List Pl} (h : Gok sd A C M) (k : Int) : (look M k = none ∧ idf A k = none ∧ ∀ t ∈ A, t.id ≠ k) ∨ ∃ t ∈ A, t.id = k ∧ look M k = some (plOf t) ∧ idf A k = some (t.b + 1) := by
  by_cases hx : ∃ t ∈ A, t.id = k
  · obtain ⟨t, ht, rfl⟩ := hx
    refine .inr ⟨t, ht, rfl, look_of (x := plOf t) h.srt.ne (h.con.mem_iff.1 (List.mem_map_of_mem ht)), idf_mem h.idd ht⟩
  · have hn : ∀ t ∈ A, t.id ≠ k := fun t ht e => hx ⟨t, ht, e⟩
    refine .inl ⟨look_none.2 fun x hxm => ?_, idf_none hn, hn⟩
    obtain ⟨t, ht, rfl⟩ := List.mem_map.1 (h.con.mem_iff.2 hxm)
    exact hn t ht
abbrev gOpen (gb : Nat) (sd : Int) (va : Value) (mi mc : Nat) (A : List Tg) (C : List Cl) (l : List As) : List As :=
  gbx gb sd va (.map (some mi)) mc :: mapA cellsM mc C.length (clf C) :: (A.map tgA ++ (C.map clA ++ (mapA idsM mi A.length (idf A) :: rowV 119 1 va A.length (A.map (fun t => pt t.b)) :: l)))
def gridA (gb : Nat) (sd : Int) (M : List Pl) : As := exA (fun x : Value × Nat × Nat × List Tg × List Cl => pureA (Gok sd x.2.2.2.1 x.2.2.2.2 M) :: gOpen gb sd x.1 x.2.1 x.2.2.1 x.2.2.2.1 x.2.2.2.2 [])
set_option maxRecDepth 100000 in
theorem gOpen_app (gb : Nat) (sd : Int) (va : Value) (mi mc : Nat) (A : List Tg) (C : List Cl) (l : List As) : gOpen gb sd va mi mc A C [] ++ l = gOpen gb sd va mi mc A C l := by
  simp only [gOpen, List.cons_append, List.append_assoc, List.nil_append]
set_option maxRecDepth 100000 in
theorem grid_open {w0 W : World} {l : List As} {gb : Nat} {sd : Int} {M : List Pl} (h : Sep w0 W (gridA gb sd M :: l)) : ∃ va mi mc A C, Gok sd A C M ∧ Sep w0 W (gOpen gb sd va mi mc A C l) := by
  obtain ⟨⟨va, mi, mc, A, C⟩, h1⟩ := h.opn
  refine ⟨va, mi, mc, A, C, h1.fact k0m, ?_⟩
  have h2 := h1.tail
  rw [← gOpen_app]
  exact h2
set_option maxRecDepth 100000 in
theorem grid_shut {w0 W : World} {l : List As} {gb : Nat} {sd : Int} {M : List Pl} {va : Value} {mi mc : Nat} {A : List Tg} {C : List Cl} (g : Gok sd A C M) (h : Sep w0 W (gOpen gb sd va mi mc A C l)) : Sep w0 W (gridA gb sd M :: l) := by
  refine Sep.cls (fun x : Value × Nat × Nat × List Tg × List Cl => pureA (Gok sd x.2.2.2.1 x.2.2.2.2 M) :: gOpen gb sd x.1 x.2.1 x.2.2.1 x.2.2.2.1 x.2.2.2.2 []) (va, mi, mc, A, C) ?_
  rw [← gOpen_app] at h
  exact h.know g
section
variable {gb : Nat} {sd : Int} {va : Value} {mi mc : Nat} {A : List Tg} {C : List Cl} {l : List As}
set_option maxRecDepth 100000 in
theorem m_ids : mapA idsM mi A.length (idf A) ∈ gOpen gb sd va mi mc A C l := List.mem_cons_of_mem _ (List.mem_cons_of_mem _ (List.mem_append_right _ (List.mem_append_right _ (List.mem_cons_self ..))))
set_option maxRecDepth 100000 in
theorem m_all : rowV 119 1 va A.length (A.map (fun t => pt t.b)) ∈ gOpen gb sd va mi mc A C l := List.mem_cons_of_mem _ (List.mem_cons_of_mem _ (List.mem_append_right _ (List.mem_append_right _ (List.mem_cons_of_mem _ (List.mem_cons_self ..)))))
set_option maxRecDepth 100000 in
theorem m_tg {t : Tg} (h : t ∈ A) : tgA t ∈ gOpen gb sd va mi mc A C l := List.mem_cons_of_mem _ (List.mem_cons_of_mem _ (List.mem_append_left _ (List.mem_map_of_mem h)))
set_option maxRecDepth 100000 in
theorem m_cl {c : Cl} (h : c ∈ C) : clA c ∈ gOpen gb sd va mi mc A C l := List.mem_cons_of_mem _ (List.mem_cons_of_mem _ (List.mem_append_right _ (List.mem_append_left _ (List.mem_map_of_mem h))))
end
set_option maxRecDepth 100000 in
theorem Gok.nil (sd : Int) (hs : 1 ≤ sd ∧ sd ≤ 1099511627776) : Gok sd [] [] [] := ⟨hs, Jok.nil sd, (fun i t h => by simp at h), (fun t h => by cases h), List.Perm.refl _, List.Pairwise.nil⟩

set_option maxRecDepth 100000 in
theorem results_ct {fn : Func} {p q : Tmp} {ty : TypeId} (h : fn.results = #[.cell p ty, .tmp q]) (tmps : Array Value) (P : Program) (w : World) :
    (results fn tmps).run P w = ((asAddr (tmps.getD p undef)).run P w).andThen fun a w₁ => ((loadVar ty a).run P w₁).andThen fun v w₂ => .ok (.tuple #[v, tmps.getD q undef]) w₂ := by
  simp only [results, h]
  simp [Sem.run_bind, Result.andThen]
set_option maxRecDepth 100000 in
theorem ret_ct {P : Program} {fn : Func} {R : Ending → World → Prop} {a : Act} {w : World} {p q : Tmp} {ty t : TypeId} {b : Nat} {cs : List Value} {d : TypeDesc}
    (hr : fn.results = #[.cell p ty, .tmp q]) (hp : a.tmps.getD p undef = .pointer (some ⟨b, 0, none⟩)) (hh : Has w b cs t) (hu : P.underlying ty = some d) (hd : d.isRow = true)
    (hi : (P.info? ty).map (·.size) = some cs.length) (hdf : a.defers = []) (h : R (.returned (.tuple #[.agg cs.toArray, a.tmps.getD q undef])) w) : bodyPost P fn R .ret a w := by
  refine bodyPost_ret (v := .tuple #[.agg cs.toArray, a.tmps.getD q undef]) ?_ hdf h
  rw [results_ct hr, hp]
  simp [asAddr, Result.andThen, run_loadVar_mid w b 0 ty cs d hh.range hu hd hi]
/-- what At answers -/
def atX (M : List Pl) (k : Int) : Int := match look M k with | some p => p.x | none => 0
def atY (M : List Pl) (k : Int) : Int := match look M k with | some p => p.y | none => 0
def atB (M : List Pl) (k : Int) : Bool := (look M k).isSome
set_option maxHeartbeats 2000000 in
theorem new_no (W : World) (sd : Int) (hs : sd < 1 ∨ 1099511627776 < sd) :
    Calls Tryz.prog 45 #[iv sd] W fun e W' => e = .returned (.tuple #[.pointer none, iv 110]) ∧ W' = W := by
  by_cases h1 : sd < 1
  · clear hs
    go_enter Tryz.func45, Tryz.ntmps45
    go_wp2_with fail
    go_ret2
    exact ⟨rfl, rfl⟩
  · have h2 : 1099511627776 < sd := by omega
    clear hs
    go_enter Tryz.func45, Tryz.ntmps45
    go_wp2_with fail
    go_ret2
    exact ⟨rfl, rfl⟩
set_option maxHeartbeats 2000000 in
theorem new_c (w0 W : World) (l : List As) (sd : Int) (hs : 1 ≤ sd ∧ sd ≤ 1099511627776) (h : Sep w0 W l) :
    Calls Tryz.prog 45 #[iv sd] W fun e W' => ∃ gb, e = .returned (.tuple #[pt gb, iv 0]) ∧ Sep w0 W' (gridA gb sd [] :: l) := by
  have S1 := h.mapNew idsM
  obtain ⟨W1, hW1⟩ : ∃ W1, W.alloc (.map #[] 0) = W1 := ⟨_, rfl⟩
  obtain ⟨mi, hmi⟩ : ∃ b, W.heap.size = b := ⟨_, rfl⟩
  rw [hW1, hmi] at S1
  have S2 := S1.mapNew cellsM
  obtain ⟨W2, hW2⟩ : ∃ W2, W1.alloc (.map #[] 0) = W2 := ⟨_, rfl⟩
  obtain ⟨mc, hmc⟩ : ∃ b, W1.heap.size = b := ⟨_, rfl⟩
  rw [hW2, hmc] at S2
  have S3 := S2.newBox #[iv sd, .slice none 0 0, .map (some mi), .map (some mc)] 103
  obtain ⟨W3, hW3⟩ : ∃ W3, W2.alloc (.cells #[iv sd, .slice none 0 0, .map (some mi), .map (some mc)] 103) = W3 := ⟨_, rfl⟩
  obtain ⟨gb, hgb⟩ : ∃ b, W2.heap.size = b := ⟨_, rfl⟩
  rw [hW3, hgb] at S3
  have S4 : Sep w0 W3 (gOpen gb sd (.slice none 0 0) mi mc [] [] l) := bk1 [_, _, _] (S3.nilV 119 1)
  have HS := Keep.mk (grid_shut (Gok.nil sd hs) S4)
  obtain ⟨h1, h2⟩ := hs
  have n1 : ¬ sd < 1 := by omega
  have n2 : ¬ 1099511627776 < sd := by omega
  clear S1 S2 S3 S4 h h1 h2
  have hmm := @run_makeMap Tryz.prog
  go_enter Tryz.func45, Tryz.ntmps45
  go_wp2_with fail
  go_ret2
  exact ⟨gb, rfl, HS.out⟩
end Go.Proofs.YtgedlabmndlooaaGreat
