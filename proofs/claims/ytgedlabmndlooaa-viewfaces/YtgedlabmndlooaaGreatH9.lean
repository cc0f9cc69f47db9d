/- H8, H9 -/
import Derived.Test.YtgedlabmndlooaaGreatH7
namespace Go.Proofs.YtgedlabmndlooaaGreat
open Go Go.RowKit Go.Shelf Go.Lib Go.Sort

set_option maxRecDepth 100000 in
theorem Has.same {W W' : World} {b g : Nat} {cs : List Value} {t : TypeId} (h : Has W b cs t) (hne : b ≠ g) (hW : ∀ b, b < W.heap.size → b ≠ g → W'.heap[b]? = W.heap[b]?) : Has W' b cs t := by
  have := hW b h.lt hne
  unfold Has at h ⊢
  rw [this, h]
def cfN (t u : Tg) : Int := Lib.compareInt t.id u.id
set_option maxRecDepth 100000 in
theorem ltN (t u : Tg) : ltOf cfN t u = decide (t.id < u.id) := by
  unfold ltOf cfN Lib.compareInt
  by_cases h1 : t.id < u.id
  · simp [h1]
  · by_cases h2 : u.id < t.id <;> simp [h1, h2]
set_option maxRecDepth 100000 in
theorem swoN : SWO (ltOf cfN) where
  irrefl x := by rw [ltN]; simp
  trans x y z h1 h2 := by rw [ltN] at *; simp at *; omega
  ntrans x y z h1 h2 := by rw [ltN] at *; simp at *; omega
def cfD (x y : Int) (t u : Tg) : Int := cf2 (d2 x y t.x t.y) (d2 x y u.x u.y) t.id u.id
set_option maxRecDepth 100000 in
theorem cf2_lt (a b i j : Int) : cf2 a b i j < 0 ↔ (a < b ∨ (a = b ∧ i < j)) := by
  unfold cf2 Lib.compareInt
  by_cases h1 : a < b
  · simp [h1]
  · by_cases h2 : b < a
    · have e : ¬ a = b := by omega
      simp [h1, h2, e]
    · have e : a = b := by omega
      subst e
      by_cases h3 : i < j
      · simp [h3]
      · by_cases h4 : j < i <;> simp [h3, h4]
set_option maxRecDepth 100000 in
theorem ltD (x y : Int) (t u : Tg) : ltOf (cfD x y) t u = decide (ahd x y (plOf t) (plOf u)) := by
  unfold ltOf
  exact decide_eq_decide.2 (cf2_lt _ _ _ _)
set_option maxRecDepth 100000 in
theorem swoD (x y : Int) : SWO (ltOf (cfD x y)) where
  irrefl t := by rw [ltD]; unfold ahd; simp
  trans t u v h1 h2 := by
    rw [ltD] at *
    exact decide_eq_true (ahd_trans _ _ _ _ _ (of_decide_eq_true h1) (of_decide_eq_true h2))
  ntrans t u v h1 h2 := by
    rw [ltD] at *
    have := of_decide_eq_false h1
    have := of_decide_eq_false h2
    refine decide_eq_false ?_
    unfold ahd at *
    omega
set_option maxRecDepth 100000 in
theorem nrT_pl {sd : Int} {A : List Tg} {C : List Cl} {M : List Pl} (g : Gok sd A C M) (x y r : Int) {N : List Tg} (h : N.Perm (nrT A x y r)) : (N.map plOf).Perm (nr M x y r) := by
  refine (h.map plOf).trans ?_
  have e : (nrT A x y r).map plOf = nr (A.map plOf) x y r := by
    unfold nrT nr
    rw [List.filter_map]
    rfl
  rw [e]
  unfold nr
  exact g.con.filter _
set_option maxRecDepth 100000 in
theorem near_is {sd : Int} {A : List Tg} {C : List Cl} {M : List Pl} (g : Gok sd A C M) {x y r : Int} {N N' : List Tg} (h : N.Perm (nrT A x y r)) (hp : N'.Perm N) (hs : N'.Pairwise (fun a b => ltOf cfN b a = false)) : N'.map plOf = nr M x y r := by
  have h1 := nrT_pl g x y r (hp.trans h)
  have h2 := nr_srt g.srt x y r
  have h3 : (N'.map plOf).Pairwise (fun a b : Pl => a.id ≠ b.id) := (h1.pairwise_iff (fun {_ _} q => Ne.symm q)).2 h2.ne
  refine strict_ext _ _ ?_ h2 (fun s => h1.mem_iff)
  have h4 : N'.Pairwise (fun a b => a.id ≤ b.id) := hs.imp (fun {a b} q => by rw [ltN] at q; have := of_decide_eq_false q; omega)
  rw [Srt, List.pairwise_map]
  rw [List.pairwise_map] at h3
  exact h4.imp₂ (fun a b q1 q2 => by have : a.id ≠ b.id := q2; show a.id < b.id; omega) h3
set_option maxRecDepth 100000 in
theorem nst_is {sd : Int} {A : List Tg} {C : List Cl} {M : List Pl} (g : Gok sd A C M) {x y r : Int} {N N' : List Tg} (h : N.Perm (nrT A x y r)) (hp : N'.Perm N) (hs : N'.Pairwise (fun a b => ltOf (cfD x y) b a = false)) : N'.map plOf = srtD x y (nr M x y r) := by
  have h1 := nrT_pl g x y r (hp.trans h)
  have h2 := (nr_srt g.srt x y r).ne
  have h3 : (N'.map plOf).Pairwise (fun a b : Pl => a.id ≠ b.id) := (h1.pairwise_iff (fun {_ _} q => Ne.symm q)).2 h2
  refine srtD_is h2 h1 ?_
  rw [List.pairwise_map]
  rw [List.pairwise_map] at h3
  refine List.Pairwise.imp₂ (fun a b q1 q2 => ?_) hs h3
  rw [ltD] at q1
  exact (ahd_tot x y _ _ q2).resolve_right (of_decide_eq_false q1)
set_option maxRecDepth 100000 in
theorem pl_ids (N : List Tg) : N.map (fun t => iv t.id) = ((N.map plOf).map (·.id)).map iv := by
  rw [List.map_map, List.map_map]; rfl
set_option maxRecDepth 100000 in
theorem nr_sub {A : List Tg} {x y r : Int} {N : List Tg} (h : N.Perm (nrT A x y r)) : ∀ t ∈ N, t ∈ A := fun _ ht => (List.mem_filter.1 (h.mem_iff.1 ht)).1
set_option maxRecDepth 100000 in
theorem nr_lenT {A : List Tg} {x y r : Int} {N : List Tg} (h : N.Perm (nrT A x y r)) : N.length ≤ A.length := by
  rw [h.length_eq]; exact List.length_filter_le _ _
/-- numbers of the call's own -/
abbrev nums (v : Value) (L : List Int) : As := rowV 3 1 v L.length (L.map iv)
end Go.Proofs.YtgedlabmndlooaaGreat

namespace Go.Proofs.YtgedlabmndlooaaGreat
open Go Go.RowKit Go.Shelf Go.Lib Go.Sort

set_option maxRecDepth 100000 in
set_option maxHeartbeats 8000000 in
theorem nearest_c (w0 W : World) (l : List As) (gb : Nat) (sd : Int) (M : List Pl) (x y r n0 : Int) (hx : I64 x) (hy : I64 y) (hn : M.length * 24 + 24 ≤ 140737488355328) (h : Sep w0 W (gridA gb sd M :: l)) :
    Calls Tryz.prog 79 #[pt gb, vv x y, iv r, iv n0] W fun e W' => ∃ v, e = .returned v ∧ Sep w0 W' (nums v (nstL M x y r n0) :: gridA gb sd M :: l) := by
  obtain ⟨va, mi, mc, A, C, g, h1⟩ := grid_open h
  have S1 := h1.newBox #[iv x, iv y] 24
  obtain ⟨W1, hW1⟩ : ∃ W1, W.alloc (.cells #[iv x, iv y] 24) = W1 := ⟨_, rfl⟩
  obtain ⟨ab, hab⟩ : ∃ b, W.heap.size = b := ⟨_, rfl⟩
  rw [hW1, hab] at S1
  have x0 := (S1.boxGet k0m).cellv 0 _ rfl
  have x1 := (S1.boxGet k0m).cellv 1 _ rfl
  have HW := Keep.mk (gwithin_c w0 W1 (boxA ab [iv x, iv y] 24 :: l) gb sd M va mi mc A C g x y r hx hy hn (g_in S1))
  have HG := Keep.mk g
  have HI := Keep.mk (And.intro hx hy)
  have HLN := Keep.mk g.len
  have HN := Keep.mk hn
  clear h h1 S1 g hx hy hn
  go_enter Tryz.func79, Tryz.ntmps79
  go_wp2_with fail
  refine HW.out.mono ?_
  rintro e W2 ⟨v, rfl, ⟨N, hN, S2⟩⟩
  have S3 := S2.newBox #[.func (.func 90) #[] #[pt ab], .func (.func 92) #[] #[]] 143
  obtain ⟨W3, hW3⟩ : ∃ W3, W2.alloc (.cells #[.func (.func 90) #[] #[pt ab], .func (.func 92) #[] #[]] 143) = W3 := ⟨_, rfl⟩
  obtain ⟨fg, hfg⟩ : ∃ b, W2.heap.size = b := ⟨_, rfl⟩
  rw [hW3, hfg] at S3
  have S4 : Sep w0 W3 (rowV 119 1 v N.length (N.map (fun t => pt t.b)) :: boxA fg [.func (.func 90) #[] #[pt ab], .func (.func 92) #[] #[]] 143 :: gOpen gb sd va mi mc A C (boxA ab [iv x, iv y] 24 :: l)) := S3.swap
  have HS := Keep.mk (sortBy_c w0 W3 _ v N fg 2 2 (cfD x y) (swoD x y) (by have := nr_lenT hN; have := HN.out; have := HLN.out; omega) (fun kb W5 g c S5 W' hsame t ht u hu => by
    have hk := (S5.boxGet k1m).same (S5.rowBox k0m) hsame
    have hf := (S5.boxGet k2m).same (S5.rowBox k1m) hsame
    have hma : boxA ab [iv x, iv y] 24 ∈ boxA kb [sl fg 2 2] 161 :: boxA fg [.func (.func 90) #[] #[pt ab], .func (.func 92) #[] #[]] 143 :: gOpen gb sd va mi mc A C (boxA ab [iv x, iv y] 24 :: l) := by simp
    have ha := (S5.boxGet (List.mem_cons_of_mem _ hma)).same (S5.rowBox hma) hsame
    have hmt : ∀ z ∈ N, boxA z.b [iv z.id, iv z.x, iv z.y, iv z.s, iv z.p] 122 ∈ boxA kb [sl fg 2 2] 161 :: boxA fg [.func (.func 90) #[] #[pt ab], .func (.func 92) #[] #[]] 143 :: gOpen gb sd va mi mc A C (boxA ab [iv x, iv y] 24 :: l) := fun z hz => List.mem_cons_of_mem _ (List.mem_cons_of_mem _ (m_tg (nr_sub hN z hz)))
    have h1 := (S5.boxGet (List.mem_cons_of_mem _ (hmt t ht))).same (S5.rowBox (hmt t ht)) hsame
    have h2 := (S5.boxGet (List.mem_cons_of_mem _ (hmt u hu))).same (S5.rowBox (hmt u hu)) hsame
    have rt := HG.out.rg t (nr_sub hN t ht)
    have ru := HG.out.rg u (nr_sub hN u hu)
    exact cmp_nst W' kb fg 2 t.b u.b ab x y t.id t.x t.y u.id u.x u.y HI.out.1 HI.out.2 rt.2.1 rt.2.2 ru.2.1 ru.2.2 (hk.cellv 0 _ rfl) (hf.cellv 0 _ rfl) (hf.cellv 1 _ rfl) (ha.cellv 0 _ rfl) (ha.cellv 1 _ rfl) (h1.cellv 0 _ rfl) (h1.cellv 1 _ rfl) (h1.cellv 2 _ rfl) (h2.cellv 0 _ rfl) (h2.cellv 1 _ rfl) (h2.cellv 2 _ rfl)) S4)
  have HNN := Keep.mk hN
  clear S2 S3 S4 hN HW x0 x1
  go_wp2_with fail
  refine HS.out.mono ?_
  rintro e W4 ⟨rfl, ⟨N', p1, p2, S5⟩⟩
  have hlen : N'.length = N.length := p1.length_eq
  have hbig : N'.length * 8 + 8 ≤ 140737488355328 := by have := nr_lenT HNN.out; have := HN.out; have := HLN.out; omega
  have HSUB : Keep (∀ t ∈ N', tgA t ∈ boxA fg [.func (.func 90) #[] #[pt ab], .func (.func 92) #[] #[]] 143 :: gOpen gb sd va mi mc A C (boxA ab [iv x, iv y] 24 :: l)) := ⟨fun t ht => List.mem_cons_of_mem _ (m_tg (nr_sub HNN.out t (p1.mem_iff.1 ht)))⟩
  have HII := Keep.mk (nst_is HG.out HNN.out p1 p2)
  obtain ⟨n, hnn⟩ : ∃ n, N'.length = n := ⟨_, rfl⟩
  -- how many are told
  obtain ⟨k, hk⟩ : ∃ k : Nat, k = min n0.toNat n := ⟨_, rfl⟩
  obtain ⟨z, hz⟩ : ∃ z : Int, min n0 (n : Int) = z := ⟨_, rfl⟩
  have hzk : max 0 z = (k : Int) := by omega
  have m1 : ∀ (ts : Array TypeId) (t : TypeId) (W : World), (Builtin.min_ ts t #[.int .i64 n0, .int .i64 (n : Int)]).run Tryz.prog W = .ok (.int .i64 z) W := fun ts t W => by
    rw [run_min_int2]
    rw [← hz]
    congr 2
    omega
  have m2 : ∀ (ts : Array TypeId) (t : TypeId) (W : World), (Builtin.max_ ts t #[.int .i64 0, .int .i64 z]).run Tryz.prog W = .ok (.int .i64 (k : Int)) W := fun ts t W => by
    rw [run_max_int2]
    rw [← hzk]
    congr 2
    omega
  have hkn : k ≤ n := by omega
  have HCUT : Keep ((N'.take k).length = k ∧ (N'.take k).map plOf = nst M x y r n0) := ⟨by
    refine ⟨by rw [List.length_take]; omega, ?_⟩
    unfold nst
    rw [List.map_take, HII.out, hk]
    have hl : (srtD x y (nr M x y r)).length = n := by rw [← HII.out, List.length_map, hnn]
    by_cases c : n0.toNat ≤ n
    · rw [Nat.min_eq_left c]
    · rw [Nat.min_eq_right (by omega), List.take_of_length_le (by omega), List.take_of_length_le (by omega)]⟩
  have fin : ∀ (w : Value) (W6 : World) (u : Value) (l2 : As), Sep w0 W6 (rowV 3 1 u (N'.take k).length ((N'.take k).map (fun t => iv t.id)) :: l2 :: boxA fg [.func (.func 90) #[] #[pt ab], .func (.func 92) #[] #[]] 143 :: gOpen gb sd va mi mc A C (boxA ab [iv x, iv y] 24 :: l)) → Sep w0 W6 (nums u (nstL M x y r n0) :: gridA gb sd M :: l) := by
    intro w W6 u l2 S6
    have e1 : (N'.take k).map (fun t => iv t.id) = (nstL M x y r n0).map iv := by rw [pl_ids, HCUT.out.2]; rfl
    have e2 : (N'.take k).length = (nstL M x y r n0).length := by
      unfold nstL
      rw [← HCUT.out.2, List.length_map, List.length_map]
    rw [e1, e2] at S6
    have q := (grid_shut HG.out (g_in S6.swap.tail.swap.tail)).swap
    exact (fr1 [_, _] q).tail
  have HFIN := Keep.mk fin
  clear fin p1 p2 HS hlen hz hzk hk
  rcases row_parts S5 with ⟨q1, rfl⟩ | ⟨g1, c1, rfl, hcap⟩
  · have hn0 : n = 0 := by omega
    have hk0 : k = 0 := by omega
    have HC := Keep.mk (numbers_c w0 W4 _ (.slice none 0 0) (N'.take k) (by rw [HCUT.out.1]; omega) (fun t ht => HSUB.out t (List.mem_of_mem_take ht)) (by
      have e : N'.take k = N' := by rw [List.take_of_length_le (by omega)]
      rw [e]; exact S5))
    subst hn0
    have HK0 := Keep.mk hk0
    have m3 : ∀ (ts : Array TypeId) (t : TypeId) (W : World), (Builtin.min_ ts t #[.int .i64 n0, .int .i64 0]).run Tryz.prog W = .ok (.int .i64 z) W := m1
    have m4 : ∀ (ts : Array TypeId) (t : TypeId) (W : World), (Builtin.max_ ts t #[.int .i64 0, .int .i64 z]).run Tryz.prog W = .ok (.int .i64 0) W := by rw [hk0] at m2; exact m2
    clear S5 hnn hkn q1 hbig hk0 m1 m2
    go_wp2_with fail
    refine HC.out.mono ?_
    rintro e W6 ⟨u, rfl, S6⟩
    have HE := Keep.mk (HFIN.out u W6 u _ S6)
    clear S6 HC
    go_wp2_with fail
    go_ret
    exact ⟨_, rfl, HE.out⟩
  · have S6 := S5.cut (m := k) (by omega)
    have HC := Keep.mk (numbers_c w0 W4 _ (sl g1 k c1) (N'.take k) (by rw [HCUT.out.1]; omega) (fun t ht => HSUB.out t (List.mem_of_mem_take ht)) (by
      rw [HCUT.out.1, List.map_take]; exact S6))
    have le1 : (k : Int) ≤ (c1 : Int) := by omega
    have le2 : k ≤ c1 := by omega
    rw [hnn]
    clear S5 S6 hnn hkn hbig hcap
    go_wp2_with fail
    refine HC.out.mono ?_
    rintro e W6 ⟨u, rfl, S6⟩
    have HE := Keep.mk (HFIN.out u W6 u _ S6)
    clear S6 HC
    go_wp2_with fail
    go_ret
    exact ⟨_, rfl, HE.out⟩
end Go.Proofs.YtgedlabmndlooaaGreat
