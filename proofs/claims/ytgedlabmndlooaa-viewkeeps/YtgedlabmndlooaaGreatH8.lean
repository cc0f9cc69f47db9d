/- grid: Near. -/
import Derived.Test.YtgedlabmndlooaaGreatH7
namespace Go.Proofs.YtgedlabmndlooaaGreat
open Go Go.RowKit Go.Shelf Go.Lib Go.Sort

set_option maxRecDepth 100000 in
theorem Has.same {W W' : World} {b g : Nat} {cs : List Value} {t : TypeId} (h : Has W b cs t) (hne : b ≠ g) (hW : ∀ b, b < W.heap.size → b ≠ g → W'.heap[b]? = W.heap[b]?) : Has W' b cs t := by
  have := hW b h.lt hne
  unfold Has at h ⊢
  rw [this, h]
def cfN (t u : Tg) : Int := Lib.compareInt t.id u.id
set_option maxRecDepth 100000 in
theorem ltN (t u : Tg) : ltOf cfN t u = decide (t.id < u.id) := by
  unfold ltOf cfN Lib.compareInt
  by_cases h1 : t.id < u.id
  · simp [h1]
  · by_cases h2 : u.id < t.id <;> simp [h1, h2]
set_option maxRecDepth 100000 in
theorem swoN : SWO (ltOf cfN) where
  irrefl x := by rw [ltN]; simp
  trans x y z h1 h2 := by rw [ltN] at *; simp at *; omega
  ntrans x y z h1 h2 := by rw [ltN] at *; simp at *; omega
def cfD (x y : Int) (t u : Tg) : Int := cf2 (d2 x y t.x t.y) (d2 x y u.x u.y) t.id u.id
set_option maxRecDepth 100000 in
theorem cf2_lt (a b i j : Int) : cf2 a b i j < 0 ↔ (a < b ∨ (a = b ∧ i < j)) := by
  unfold cf2 Lib.compareInt
  by_cases h1 : a < b
  · simp [h1]
  · by_cases h2 : b < a
    · have e : ¬ a = b := by omega
      simp [h1, h2, e]
    · have e : a = b := by omega
      subst e
      by_cases h3 : i < j
      · simp [h3]
      · by_cases h4 : j < i <;> simp [h3, h4]
set_option maxRecDepth 100000 in
theorem ltD (x y : Int) (t u : Tg) : ltOf (cfD x y) t u = decide (ahd x y (plOf t) (plOf u)) := by
  unfold ltOf
  exact decide_eq_decide.2 (cf2_lt _ _ _ _)
set_option maxRecDepth 100000 in
theorem swoD (x y : Int) : SWO (ltOf (cfD x y)) where
  irrefl t := by rw [ltD]; unfold ahd; simp
  trans t u v h1 h2 := by
    rw [ltD] at *
    exact decide_eq_true (ahd_trans _ _ _ _ _ (of_decide_eq_true h1) (of_decide_eq_true h2))
  ntrans t u v h1 h2 := by
    rw [ltD] at *
    have := of_decide_eq_false h1
    have := of_decide_eq_false h2
    refine decide_eq_false ?_
    unfold ahd at *
    omega
set_option maxRecDepth 100000 in
theorem nrT_pl {sd : Int} {A : List Tg} {C : List Cl} {M : List Pl} (g : Gok sd A C M) (x y r : Int) {N : List Tg} (h : N.Perm (nrT A x y r)) : (N.map plOf).Perm (nr M x y r) := by
  refine (h.map plOf).trans ?_
  have e : (nrT A x y r).map plOf = nr (A.map plOf) x y r := by
    unfold nrT nr
    rw [List.filter_map]
    rfl
  rw [e]
  unfold nr
  exact g.con.filter _
set_option maxRecDepth 100000 in
theorem near_is {sd : Int} {A : List Tg} {C : List Cl} {M : List Pl} (g : Gok sd A C M) {x y r : Int} {N N' : List Tg} (h : N.Perm (nrT A x y r)) (hp : N'.Perm N) (hs : N'.Pairwise (fun a b => ltOf cfN b a = false)) : N'.map plOf = nr M x y r := by
  have h1 := nrT_pl g x y r (hp.trans h)
  have h2 := nr_srt g.srt x y r
  have h3 : (N'.map plOf).Pairwise (fun a b : Pl => a.id ≠ b.id) := (h1.pairwise_iff (fun {_ _} q => Ne.symm q)).2 h2.ne
  refine strict_ext _ _ ?_ h2 (fun s => h1.mem_iff)
  have h4 : N'.Pairwise (fun a b => a.id ≤ b.id) := hs.imp (fun {a b} q => by rw [ltN] at q; have := of_decide_eq_false q; omega)
  rw [Srt, List.pairwise_map]
  rw [List.pairwise_map] at h3
  exact h4.imp₂ (fun a b q1 q2 => by have : a.id ≠ b.id := q2; show a.id < b.id; omega) h3
set_option maxRecDepth 100000 in
theorem nst_is {sd : Int} {A : List Tg} {C : List Cl} {M : List Pl} (g : Gok sd A C M) {x y r : Int} {N N' : List Tg} (h : N.Perm (nrT A x y r)) (hp : N'.Perm N) (hs : N'.Pairwise (fun a b => ltOf (cfD x y) b a = false)) : N'.map plOf = srtD x y (nr M x y r) := by
  have h1 := nrT_pl g x y r (hp.trans h)
  have h2 := (nr_srt g.srt x y r).ne
  have h3 : (N'.map plOf).Pairwise (fun a b : Pl => a.id ≠ b.id) := (h1.pairwise_iff (fun {_ _} q => Ne.symm q)).2 h2
  refine srtD_is h2 h1 ?_
  rw [List.pairwise_map]
  rw [List.pairwise_map] at h3
  refine List.Pairwise.imp₂ (fun a b q1 q2 => ?_) hs h3
  rw [ltD] at q1
  exact (ahd_tot x y _ _ q2).resolve_right (of_decide_eq_false q1)
set_option maxRecDepth 100000 in
theorem pl_ids (N : List Tg) : N.map (fun t => iv t.id) = ((N.map plOf).map (·.id)).map iv := by
  rw [List.map_map, List.map_map]; rfl
set_option maxRecDepth 100000 in
theorem nr_sub {A : List Tg} {x y r : Int} {N : List Tg} (h : N.Perm (nrT A x y r)) : ∀ t ∈ N, t ∈ A := fun _ ht => (List.mem_filter.1 (h.mem_iff.1 ht)).1
set_option maxRecDepth 100000 in
theorem nr_lenT {A : List Tg} {x y r : Int} {N : List Tg} (h : N.Perm (nrT A x y r)) : N.length ≤ A.length := by
  rw [h.length_eq]; exact List.length_filter_le _ _
/-- numbers of the call's own -/
abbrev nums (v : Value) (L : List Int) : As := rowV 3 1 v L.length (L.map iv)
end Go.Proofs.YtgedlabmndlooaaGreat
