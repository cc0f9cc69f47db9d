/- grid: Near. -/
import Derived.Test.YtidpafmhmhojmaaH7
namespace Go.Proofs.Ytidpafmhmhojmaa
open Go Go.RowKit Go.Shelf Go.Lib Go.Sort

theorem Has.same {W W' : World} {b g : Nat} {cs : List Value} {t : TypeId} (h : Has W b cs t) (hne : b ≠ g) (hW : ∀ b, b < W.heap.size → b ≠ g → W'.heap[b]? = W.heap[b]?) : Has W' b cs t := by
  have := hW b h.lt hne
  unfold Has at h ⊢
  rw [this, h]
def cfN (t u : Tg) : Int := Lib.compareInt t.id u.id
theorem ltN (t u : Tg) : ltOf cfN t u = decide (t.id < u.id) := by
  unfold ltOf cfN Lib.compareInt
  by_cases h1 : t.id < u.id
  · simp [h1]
  · by_cases h2 : u.id < t.id <;> simp [h1, h2]
theorem swoN : SWO (ltOf cfN) where
  irrefl x := by rw [ltN]; simp
  trans x y z h1 h2 := by rw [ltN] at *; simp at *; omega
  ntrans x y z h1 h2 := by rw [ltN] at *; simp at *; omega
def cfD (x y : Int) (t u : Tg) : Int := cf2 (d2 x y t.x t.y) (d2 x y u.x u.y) t.id u.id
theorem cf2_lt (a b i j : Int) : cf2 a b i j < 0 ↔ (a < b ∨ (a = b ∧ i < j)) := by
  unfold cf2 Lib.compareInt
  by_cases h1 : a < b
  · simp [h1]
  · by_cases h2 : b < a
    · have e : ¬ a = b := by omega
      simp [h1, h2, e]
    · have e : a = b := by omega
      subst e
      by_cases h3 : i < j
      · simp [h3]
      · by_cases h4 : j < i <;> simp [h3, h4]
theorem ltD (x y : Int) (t u : Tg) : ltOf (cfD x y) t u = decide (ahd x y (plOf t) (plOf u)) := by
  unfold ltOf
  exact decide_eq_decide.2 (cf2_lt _ _ _ _)
theorem swoD (x y : Int) : SWO (ltOf (cfD x y)) where
  irrefl t := by rw [ltD]; unfold ahd; simp
  trans t u v h1 h2 := by
    rw [ltD] at *
    exact decide_eq_true (ahd_trans _ _ _ _ _ (of_decide_eq_true h1) (of_decide_eq_true h2))
  ntrans t u v h1 h2 := by
    rw [ltD] at *
    have := of_decide_eq_false h1
    have := of_decide_eq_false h2
    refine decide_eq_false ?_
    unfold ahd at *
    omega
theorem nrT_pl {sd : Int} {A : List Tg} {C : List Cl} {M : List Pl} (g : Gok sd A C M) (x y r : Int) {N : List Tg} (h : N.Perm (nrT A x y r)) : (N.map plOf).Perm (nr M x y r) := by
  refine (h.map plOf).trans ?_
  have e : (nrT A x y r).map plOf = nr (A.map plOf) x y r := by
    unfold nrT nr
    rw [List.filter_map]
    rfl
  rw [e]
  unfold nr
  exact g.con.filter _
theorem near_is {sd : Int} {A : List Tg} {C : List Cl} {M : List Pl} (g : Gok sd A C M) {x y r : Int} {N N' : List Tg} (h : N.Perm (nrT A x y r)) (hp : N'.Perm N) (hs : N'.Pairwise (fun a b => ltOf cfN b a = false)) : N'.map plOf = nr M x y r := by
  have h1 := nrT_pl g x y r (hp.trans h)
  have h2 := nr_srt g.srt x y r
  have h3 : (N'.map plOf).Pairwise (fun a b : Pl => a.id ≠ b.id) := (h1.pairwise_iff (fun {_ _} q => Ne.symm q)).2 h2.ne
  refine strict_ext _ _ ?_ h2 (fun s => h1.mem_iff)
  have h4 : N'.Pairwise (fun a b => a.id ≤ b.id) := hs.imp (fun {a b} q => by rw [ltN] at q; have := of_decide_eq_false q; omega)
  rw [Srt, List.pairwise_map]
  rw [List.pairwise_map] at h3
  exact h4.imp₂ (fun a b q1 q2 => by have : a.id ≠ b.id := q2; show a.id < b.id; omega) h3
theorem nst_is {sd : Int} {A : List Tg} {C : List Cl} {M : List Pl} (g : Gok sd A C M) {x y r : Int} {N N' : List Tg} (h : N.Perm (nrT A x y r)) (hp : N'.Perm N) (hs : N'.Pairwise (fun a b => ltOf (cfD x y) b a = false)) : N'.map plOf = srtD x y (nr M x y r) := by
  have h1 := nrT_pl g x y r (hp.trans h)
  have h2 := (nr_srt g.srt x y r).ne
  have h3 : (N'.map plOf).Pairwise (fun a b : Pl => a.id ≠ b.id) := (h1.pairwise_iff (fun {_ _} q => Ne.symm q)).2 h2
  refine srtD_is h2 h1 ?_
  rw [List.pairwise_map]
  rw [List.pairwise_map] at h3
  refine List.Pairwise.imp₂ (fun a b q1 q2 => ?_) hs h3
  rw [ltD] at q1
  exact (ahd_tot x y _ _ q2).resolve_right (of_decide_eq_false q1)
theorem pl_ids (N : List Tg) : N.map (fun t => iv t.id) = ((N.map plOf).map (·.id)).map iv := by
  rw [List.map_map, List.map_map]; rfl
theorem nr_sub {A : List Tg} {x y r : Int} {N : List Tg} (h : N.Perm (nrT A x y r)) : ∀ t ∈ N, t ∈ A := fun _ ht => (List.mem_filter.1 (h.mem_iff.1 ht)).1
theorem nr_lenT {A : List Tg} {x y r : Int} {N : List Tg} (h : N.Perm (nrT A x y r)) : N.length ≤ A.length := by
  rw [h.length_eq]; exact List.length_filter_le _ _
/-- numbers of the call's own -/
abbrev nums (v : Value) (L : List Int) : As := rowV 3 1 v L.length (L.map iv)
set_option maxRecDepth 100000 in
set_option maxHeartbeats 8000000 in
theorem near_c (w0 W : World) (l : List As) (gb : Nat) (sd : Int) (M : List Pl) (x y r : Int) (hx : I64 x) (hy : I64 y) (hn : M.length * 24 + 24 ≤ 140737488355328) (h : Sep w0 W (gridA gb sd M :: l)) :
    Calls Try.prog 11 #[pt gb, vv x y, iv r] W fun e W' => ∃ v, e = .returned v ∧ Sep w0 W' (nums v (nrL M x y r) :: gridA gb sd M :: l) := by
  obtain ⟨va, mi, mc, A, C, g, h1⟩ := grid_open h
  have S1 := h1.newBox #[iv x, iv y] 32
  obtain ⟨W1, hW1⟩ : ∃ W1, W.alloc (.cells #[iv x, iv y] 32) = W1 := ⟨_, rfl⟩
  obtain ⟨ab, hab⟩ : ∃ b, W.heap.size = b := ⟨_, rfl⟩
  rw [hW1, hab] at S1
  have x0 := (S1.boxGet k0m).cellv 0 _ rfl
  have x1 := (S1.boxGet k0m).cellv 1 _ rfl
  have HW := Keep.mk (gwithin_c w0 W1 (boxA ab [iv x, iv y] 32 :: l) gb sd M va mi mc A C g x y r hx hy hn (g_in S1))
  have HG := Keep.mk g
  have HLN := Keep.mk g.len
  have HN := Keep.mk hn
  clear h h1 S1 g hx hy hn
  go_enter Try.func11, Try.ntmps11
  go_wp2_with fail
  refine HW.out.mono ?_
  rintro e W2 ⟨v, rfl, ⟨N, hN, S2⟩⟩
  have S3 := S2.newBox #[.func (.func 32) #[] #[]] 65
  obtain ⟨W3, hW3⟩ : ∃ W3, W2.alloc (.cells #[.func (.func 32) #[] #[]] 65) = W3 := ⟨_, rfl⟩
  obtain ⟨fg, hfg⟩ : ∃ b, W2.heap.size = b := ⟨_, rfl⟩
  rw [hW3, hfg] at S3
  have S4 : Sep w0 W3 (rowV 57 1 v N.length (N.map (fun t => pt t.b)) :: boxA fg [.func (.func 32) #[] #[]] 65 :: gOpen gb sd va mi mc A C (boxA ab [iv x, iv y] 32 :: l)) := S3.swap
  have HS := Keep.mk (sortBy_c w0 W3 _ v N fg 1 1 cfN swoN (by have := nr_lenT hN; have := HN.out; have := HLN.out; omega) (fun kb W5 g c S5 W' hsame t ht u hu => by
    have hk := (S5.boxGet k1m).same (S5.rowBox k0m) hsame
    have hf := (S5.boxGet k2m).same (S5.rowBox k1m) hsame
    have hmt : ∀ z ∈ N, boxA z.b [iv z.id, iv z.x, iv z.y, iv z.s, iv z.p] 60 ∈ boxA kb [sl fg 1 1] 81 :: boxA fg [.func (.func 32) #[] #[]] 65 :: gOpen gb sd va mi mc A C (boxA ab [iv x, iv y] 32 :: l) := fun z hz => List.mem_cons_of_mem _ (List.mem_cons_of_mem _ (m_tg (nr_sub hN z hz)))
    have h1 := (S5.boxGet (List.mem_cons_of_mem _ (hmt t ht))).same (S5.rowBox (hmt t ht)) hsame
    have h2 := (S5.boxGet (List.mem_cons_of_mem _ (hmt u hu))).same (S5.rowBox (hmt u hu)) hsame
    exact cmp_near W' kb fg 1 t.b u.b t.id u.id (hk.cellv 0 _ rfl) (hf.cellv 0 _ rfl) (h1.cellv 0 _ rfl) (h2.cellv 0 _ rfl)) S4)
  have HNN := Keep.mk hN
  clear S2 S3 S4 hN HW x0 x1
  go_wp2_with fail
  refine HS.out.mono ?_
  rintro e W4 ⟨rfl, ⟨N', p1, p2, S5⟩⟩
  have hlen : N'.length = N.length := p1.length_eq
  have HC := Keep.mk (numbers_c w0 W4 _ v N' (by have := nr_lenT HNN.out; have := HN.out; have := HLN.out; omega) (fun t ht => List.mem_cons_of_mem _ (m_tg (nr_sub HNN.out t (p1.mem_iff.1 ht)))) S5)
  have HI := Keep.mk (near_is HG.out HNN.out p1 p2)
  clear S5 p1 p2 HS hlen
  go_wp2_with fail
  refine HC.out.mono ?_
  rintro e W6 ⟨u, rfl, S6⟩
  have HE : Keep (Sep w0 W6 (nums u (nrL M x y r) :: gridA gb sd M :: l)) := ⟨by
    have e1 : N'.map (fun t => iv t.id) = (nrL M x y r).map iv := by rw [pl_ids, HI.out]; rfl
    have e2 : N'.length = (nrL M x y r).length := by
      unfold nrL
      rw [← HI.out, List.length_map, List.length_map]
    rw [e1, e2] at S6
    have q := (grid_shut HG.out (g_in S6.swap.tail.swap.tail)).swap
    exact (fr1 [_, _] q).tail⟩
  clear S6 HC
  go_wp2_with fail
  go_ret
  exact ⟨_, rfl, HE.out⟩
end Go.Proofs.Ytidpafmhmhojmaa
