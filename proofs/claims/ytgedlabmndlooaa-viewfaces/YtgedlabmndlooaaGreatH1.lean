/- grid: row, few. -/
import Derived.Test.YtgedlabmndlooaaGreatG9
namespace Go.Proofs.YtgedlabmndlooaaGreat
open Go Go.RowKit

set_option maxRecDepth 100000 in
theorem under86 : ∃ d, Tryz.prog.underlying 172 = some d ∧ d.isRow = true := ⟨_, Tryz.underlying172, rfl⟩
set_option maxRecDepth 100000 in
theorem info86 : (Tryz.prog.info? 172).map (·.size) = some 2 := by kernel_rfl

set_option maxRecDepth 100000 in
set_option maxHeartbeats 4000000 in
theorem row_w (W : World) (gb : Nat) (sd p r : Int) (q : List Value) (hs : 1 ≤ sd ∧ sd ≤ 1099511627776) (hp : I64 p) (hr : 0 ≤ r ∧ r < 2147483647) (hh : Has W gb (iv sd :: q) 103) (b1 b2 : Bool) (h1 : b1 = decide (p > -9223372036854775808 + r)) (h2 : b2 = decide (p < 9223372036854775807 - r)) :
    Calls Tryz.prog 118 #[pt gb, iv p, iv r] W fun e W' => e = .returned (.agg #[iv (rF sd p r), iv (rC sd p r)]) ∧ W.grownBy W' none := by
  obtain ⟨k1, k2, k3, k4, k5⟩ := row_rng sd p r hs.1 hp hr
  obtain ⟨l1, l2, l3, l4⟩ := lohi p r hp hr
  have HN := Keep.mk (And.intro (fun w h => number_c w gb sd (lo p r) q hs l1 h) (fun w h => number_c w gb sd (hi p r) q hs l2 h))
  have hlo : lo p r = if b1 = true then p - r else -9223372036854775808 := by
    subst h1
    unfold lo
    by_cases c : p > -9223372036854775808 + r
    · simp [c]
    · simp [c]
  have hhi : hi p r = if b2 = true then p + r else 9223372036854775807 := by
    subst h2
    unfold hi
    by_cases c : p < 9223372036854775807 - r
    · simp [c]
    · simp [c]
  have hF : rF sd p r = lo p r / sd := rfl
  obtain ⟨z, hz⟩ : ∃ z, hi p r / sd - lo p r / sd = z := ⟨_, rfl⟩
  have hC : IntKind.i64.wrap (hi p r / sd - lo p r / sd) = z ∧ IntKind.i64.wrap (z + 1) = rC sd p r := by
    have e0 : rC sd p r = hi p r / sd - lo p r / sd + 1 := rfl
    rw [IntKind.wrap_i64, IntKind.wrap_i64]
    rw [e0, hz] at k3 k4 ⊢
    omega
  obtain ⟨m1, hm1⟩ : ∃ m1, -9223372036854775808 + r = m1 := ⟨_, rfl⟩
  obtain ⟨m2, hm2⟩ : ∃ m2, 9223372036854775807 - r = m2 := ⟨_, rfl⟩
  have e1 : IntKind.i64.wrap (-9223372036854775808 + r) = m1 := by rw [IntKind.wrap_i64]; omega
  have e2 : IntKind.i64.wrap (9223372036854775807 - r) = m2 := by rw [IntKind.wrap_i64]; omega
  have S1 := (Sep.nil W).newBox #[iv 0, iv 0] 172
  obtain ⟨W1, hW1⟩ : ∃ W1, W.alloc (.cells #[iv 0, iv 0] 172) = W1 := ⟨_, rfl⟩
  obtain ⟨rb, hrb⟩ : ∃ b, W.heap.size = b := ⟨_, rfl⟩
  rw [hW1, hrb] at S1
  have HB : Keep (Sep W W1 [boxA rb [iv 0, iv 0] 172]) := ⟨S1⟩
  have hh1 : Keep (Has W1 gb (iv sd :: q) 103) := ⟨hh.kept S1.g nofun⟩
  have x0 := (S1.boxGet k0m).cellv 0 _ rfl
  have x1 := (S1.boxGet k0m).cellv 1 _ rfl
  have y0 := (S1.boxGet k0m).frozen 0
  have y1 := (S1.boxGet k0m).frozen 1
  have HF := Keep.mk ((S1.boxPut 0 (iv (rF sd p r))).boxPut 1 (iv (rC sd p r)))
  have elo : b1 = true → IntKind.i64.wrap (p - r) = lo p r := by
    intro hb
    rw [if_pos hb] at hlo
    unfold I64 at l1
    rw [hlo] at l1 ⊢
    rw [IntKind.wrap_i64]; omega
  have ehi : b2 = true → IntKind.i64.wrap (p + r) = hi p r := by
    intro hb
    rw [if_pos hb] at hhi
    unfold I64 at l2
    rw [hhi] at l2 ⊢
    rw [IntKind.wrap_i64]; omega
  have HLO := Keep.mk elo
  have HHI := Keep.mk ehi
  have HLO2 : Keep (b1 = false → lo p r = -9223372036854775808) := ⟨fun hb => by rw [hlo, hb]; rfl⟩
  have HHI2 : Keep (b2 = false → hi p r = 9223372036854775807) := ⟨fun hb => by rw [hhi, hb]; rfl⟩
  clear elo ehi hlo hhi k1 k2 k3 k4 k5 l1 l2 l3 l4 hs hp hr hh S1
  rw [hm1] at h1
  rw [hm2] at h2
  rw [hF] at HF ⊢
  obtain ⟨du, hdu, hdr⟩ := under86
  obtain ⟨lv, hlv⟩ : ∃ lv, lo p r = lv := ⟨_, rfl⟩
  obtain ⟨hv, hhv⟩ : ∃ hv, hi p r = hv := ⟨_, rfl⟩
  rw [hlv] at HN hC HLO HLO2 HF ⊢
  rw [hhv] at HN hC HHI HHI2
  obtain ⟨rc, hrc⟩ : ∃ rc, rC sd p r = rc := ⟨_, rfl⟩
  rw [hrc] at hC HF ⊢
  obtain ⟨u, hu⟩ : ∃ u, lv / sd = u := ⟨_, rfl⟩
  obtain ⟨v, hv2⟩ : ∃ v, hv / sd = v := ⟨_, rfl⟩
  rw [hu] at HN hC HF ⊢
  rw [hv2] at HN hC
  obtain ⟨hC1, hC2⟩ := hC
  clear hlv hhv hrc hu hv2 hF hm1 hm2 hz
  cases b1 <;> cases b2
  · have d1 : ¬ m1 < p := of_decide_eq_false h1.symm
    have E3 := Keep.mk (HLO2.out rfl).symm
    have d2' : ¬ p < m2 := of_decide_eq_false h2.symm
    have E4 := Keep.mk (HHI2.out rfl).symm
    clear h1 h2 HLO HLO2 HHI HHI2
    go_enter Tryz.func118, Tryz.ntmps118
    go_wp2_with fail
    rw [E3.out]
    rw [E4.out]
    refine (HN.out.1 _ hh1.out).mono ?_
    rintro e w2 ⟨rfl, hw⟩
    rw [hw]
    clear hw
    go_wp2_with fail
    refine (HN.out.2 _ hh1.out).mono ?_
    rintro e w3 ⟨rfl, hw⟩
    rw [hw]
    clear hw
    go_wp2_with fail
    exact ret_c rfl rfl (HF.out.boxGet k0m) hdu hdr info86 rfl ⟨rfl, HF.out.g⟩
  · have d1 : ¬ m1 < p := of_decide_eq_false h1.symm
    have E3 := Keep.mk (HLO2.out rfl).symm
    have d2' : p < m2 := of_decide_eq_true h2.symm
    have e4 := HHI.out rfl
    clear h1 h2 HLO HLO2 HHI HHI2
    go_enter Tryz.func118, Tryz.ntmps118
    go_wp2_with fail
    rw [E3.out]
    refine (HN.out.1 _ hh1.out).mono ?_
    rintro e w2 ⟨rfl, hw⟩
    rw [hw]
    clear hw
    go_wp2_with fail
    refine (HN.out.2 _ hh1.out).mono ?_
    rintro e w3 ⟨rfl, hw⟩
    rw [hw]
    clear hw
    go_wp2_with fail
    exact ret_c rfl rfl (HF.out.boxGet k0m) hdu hdr info86 rfl ⟨rfl, HF.out.g⟩
  · have d1 : m1 < p := of_decide_eq_true h1.symm
    have e3 := HLO.out rfl
    have d2' : ¬ p < m2 := of_decide_eq_false h2.symm
    have E4 := Keep.mk (HHI2.out rfl).symm
    clear h1 h2 HLO HLO2 HHI HHI2
    go_enter Tryz.func118, Tryz.ntmps118
    go_wp2_with fail
    rw [E4.out]
    refine (HN.out.1 _ hh1.out).mono ?_
    rintro e w2 ⟨rfl, hw⟩
    rw [hw]
    clear hw
    go_wp2_with fail
    refine (HN.out.2 _ hh1.out).mono ?_
    rintro e w3 ⟨rfl, hw⟩
    rw [hw]
    clear hw
    go_wp2_with fail
    exact ret_c rfl rfl (HF.out.boxGet k0m) hdu hdr info86 rfl ⟨rfl, HF.out.g⟩
  · have d1 : m1 < p := of_decide_eq_true h1.symm
    have e3 := HLO.out rfl
    have d2' : p < m2 := of_decide_eq_true h2.symm
    have e4 := HHI.out rfl
    clear h1 h2 HLO HLO2 HHI HHI2
    go_enter Tryz.func118, Tryz.ntmps118
    go_wp2_with fail
    refine (HN.out.1 _ hh1.out).mono ?_
    rintro e w2 ⟨rfl, hw⟩
    rw [hw]
    clear hw
    go_wp2_with fail
    refine (HN.out.2 _ hh1.out).mono ?_
    rintro e w3 ⟨rfl, hw⟩
    rw [hw]
    clear hw
    go_wp2_with fail
    exact ret_c rfl rfl (HF.out.boxGet k0m) hdu hdr info86 rfl ⟨rfl, HF.out.g⟩

set_option maxRecDepth 100000 in
theorem row_c (W : World) (gb : Nat) (sd p r : Int) (q : List Value) (hs : 1 ≤ sd ∧ sd ≤ 1099511627776) (hp : I64 p) (hr : 0 ≤ r ∧ r < 2147483647) (hh : Has W gb (iv sd :: q) 103) :
    Calls Tryz.prog 118 #[pt gb, iv p, iv r] W fun e W' => e = .returned (.agg #[iv (rF sd p r), iv (rC sd p r)]) ∧ W.grownBy W' none :=
  row_w W gb sd p r q hs hp hr hh _ _ rfl rfl

set_option maxRecDepth 100000 in
set_option maxHeartbeats 4000000 in
theorem few_c (W : World) (gb n : Nat) (sd fx cx fy cy : Int) (a : Option Addr) (c : Nat) (q : List Value) (hn : n < 17592186044416) (hcx : 1 ≤ cx ∧ cx ≤ 4294967296) (hh : Has W gb (iv sd :: .slice a n c :: q) 103) :
    Calls Tryz.prog 119 #[pt gb, .agg #[iv fx, iv cx], .agg #[iv fy, iv cy]] W fun e W' => ∃ b : Bool, e = .returned (.bool b) ∧ (b = true → cy ≤ (n : Int)) ∧ W.grownBy W' none := by
  have S1 := ((Sep.nil W).newBox #[iv fx, iv cx] 172).newBox #[iv fy, iv cy] 172
  obtain ⟨W1, hW1⟩ : ∃ W1, (W.alloc (.cells #[iv fx, iv cx] 172)).alloc (.cells #[iv fy, iv cy] 172) = W1 := ⟨_, rfl⟩
  obtain ⟨xb, hxb⟩ : ∃ b, W.heap.size = b := ⟨_, rfl⟩
  obtain ⟨yb, hyb⟩ : ∃ b, (W.alloc (.cells #[iv fx, iv cx] 172)).heap.size = b := ⟨_, rfl⟩
  rw [hW1, hxb, hyb] at S1
  have HB : Keep (Sep W W1 [boxA yb [iv fy, iv cy] 172, boxA xb [iv fx, iv cx] 172]) := ⟨S1⟩
  rw [heap1, hxb] at hyb
  have c1 := (hh.kept S1.g nofun).cellv 1 _ rfl
  obtain ⟨m, hm⟩ : ∃ m : Int, (n : Int).tdiv 16 = m := ⟨_, rfl⟩
  have hm2 : m = (n : Int) / 16 := by rw [← hm]; exact Int.tdiv_eq_ediv_of_nonneg (by omega)
  obtain ⟨k, hk⟩ : ∃ k : Int, m.tdiv cx = k := ⟨_, rfl⟩
  have hk2 : k = m / cx := by rw [← hk]; exact Int.tdiv_eq_ediv_of_nonneg (by omega)
  have hk3 : 0 ≤ k ∧ k ≤ (n : Int) := by
    rw [hk2]
    have h0 : 0 ≤ m := by omega
    refine ⟨Int.ediv_nonneg h0 (by omega), ?_⟩
    have := Int.ediv_le_self (a := m) cx h0
    omega
  have e1 : IntKind.i64.wrap m = m := by rw [IntKind.wrap_i64]; omega
  have e2 : IntKind.i64.wrap k = k := by rw [IntKind.wrap_i64]; omega
  have hc0 : cx ≠ 0 := by omega
  have hc1 : cx ≠ -1 := by omega
  obtain ⟨b, hb⟩ : ∃ b : Bool, decide (cy ≤ k) = b := ⟨_, rfl⟩
  have HX : Keep (b = true → cy ≤ (n : Int)) := ⟨fun h => by rw [h] at hb; have := of_decide_eq_true hb; omega⟩
  clear hm2 hk2 hk3 hcx hn S1 hh
  go_enter Tryz.func119, Tryz.ntmps119
  go_wp2_with fail
  clear hW1 c1
  first | rw [hyb] | skip
  clear hxb hyb
  refine region_X (S := fun w' => Sep W w' [boxA yb [iv fy, iv cy] 172, boxA xb [iv fx, iv cx] 172]) [] (by kernel_rfl) (HB.out.grown (gr_drew _ _)) (fun hHeld => ?_)
  replace HB := Keep.mk hHeld
  refine wpAnyX_take (i := 0) (oi := _) (v := ?_) rfl (by kernel_rfl) (by kernel_rfl) (by kernel_rfl) (by kernel_rfl) (by kernel_rfl) (fun _ _ _ h => h) (Or.inl ⟨by rfl, ?_⟩) (by assumption) ?_
  rotate_left
  · (intro w hSw; go_simp; first | done | (with_reducible rfl))
  simp only [Act.put, A1, A3, A4, A5, A6]
  refine wpAnyX_take (i := 1) (oi := _) (v := ?_) rfl (by kernel_rfl) (by kernel_rfl) (by kernel_rfl) (by kernel_rfl) (by kernel_rfl) (fun _ _ _ h => h) (Or.inl ⟨by rfl, ?_⟩) (by assumption) ?_
  rotate_left
  · (intro w hSw; have q1 := (hSw.boxGet k0m).cellv 1 _ rfl; go_simp; first | done | (with_reducible rfl))
  simp only [Act.put, A1, A2, A3, A4, A5, A6]
  refine wpAnyX_take (i := 2) (oi := _) (v := ?_) rfl (by kernel_rfl) (by kernel_rfl) (by kernel_rfl) (by kernel_rfl) (by kernel_rfl) (fun _ _ _ h => h) (Or.inl ⟨by rfl, ?_⟩) (by assumption) ?_
  rotate_left
  · (intro w hSw; go_simp; first | done | (with_reducible rfl))
  simp only [Act.put, A1, A2, A3, A4, A5, A6]
  refine wpAnyX_take (i := 3) (oi := _) (v := ?_) rfl (by kernel_rfl) (by kernel_rfl) (by kernel_rfl) (by kernel_rfl) (by kernel_rfl) (fun _ _ _ h => h) (Or.inl ⟨by rfl, ?_⟩) (by assumption) ?_
  rotate_left
  · (intro w hSw; go_simp; first | done | (with_reducible rfl))
  simp only [Act.put, A1, A2, A3, A4, A5, A6]
  refine wpAnyX_take (i := 4) (oi := _) (v := ?_) rfl (by kernel_rfl) (by kernel_rfl) (by kernel_rfl) (by kernel_rfl) (by kernel_rfl) (fun _ _ _ h => h) (Or.inl ⟨by rfl, ?_⟩) (by assumption) ?_
  rotate_left
  · (intro w hSw; have q1 := (hSw.boxGet k1m).cellv 1 _ rfl; go_simp; first | done | (with_reducible rfl))
  simp only [Act.put, A1, A2, A3, A4, A5, A6]
  refine wpAnyX_take (i := 5) (oi := _) (v := ?_) rfl (by kernel_rfl) (by kernel_rfl) (by kernel_rfl) (by kernel_rfl) (by kernel_rfl) (fun _ _ _ h => h) (Or.inl ⟨by rfl, ?_⟩) (by assumption) ?_
  rotate_left
  · (intro w hSw; go_simp; first | done | (with_reducible rfl))
  simp only [Act.put, A1, A2, A3, A4, A5, A6]
  refine wpAnyX_take (i := 6) (oi := _) (v := .bool b) rfl (by kernel_rfl) (by kernel_rfl) (by kernel_rfl) (by kernel_rfl) (by kernel_rfl) (fun _ _ _ h => h) (Or.inl ⟨by rfl, ?_⟩) (by assumption) ?_
  · (intro w hSw; go_simp; first | done | rfl | (simp; done) | trace_state)
  simp only [Act.put, A1, A2, A3, A4, A5, A6]
  refine wpAnyX_one (i := 7) (by kernel_rfl) rfl (fun K hK => ?_)
  go_simp
  refine hK.out _ _ HB.out (fun hHeld => ?_)
  clear hK K
  refine wpAnyX_done (by kernel_rfl) ?_ _
  go_wp2_with fail
  go_ret
  exact ⟨b, rfl, HX.out, HB.out.g⟩
end Go.Proofs.YtgedlabmndlooaaGreat
