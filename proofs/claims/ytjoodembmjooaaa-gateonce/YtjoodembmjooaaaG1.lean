/- gate: kept, Legal; the reference's. -/
import Derived.Test.YtjoodembmjooaaaGM
import Derived.Test.YtjoodembmjooaaaR3
namespace Go.Proofs.Ytjoodembmjooaaa
open Go Go.RowKit

structure Cmd where
  th : Int
  tu : Int
  fi : Bool
  bo : Bool
def cmv (c : Cmd) : List Value := [iv c.th, iv c.tu, .bool c.fi, .bool c.bo]
/-- kept within m either way -/
def kp (x m : Int) : Int := max (-m) (min x m)
def lgl (p : Int) (c : Cmd) : Itn := ⟨p, kp c.th 100, kp c.tu 8, c.fi, c.bo⟩
theorem lgl_pl (p : Int) (c : Cmd) : (lgl p c).pl = p := rfl
def zI5 : List Value := itv zI
theorem zI5_lit : zI5.toArray = #[.int .i64 0, .int .i64 0, .int .i64 0, .bool false, .bool false] := rfl
theorem underI : ∃ d, Try.prog.underlying 36 = some d ∧ d.isRow = true := ⟨_, Try.underlying36, rfl⟩
theorem infoI : (Try.prog.info? 36).map (·.size) = some 5 := by kernel_rfl
theorem infoI' (c : Itn) : (Try.prog.info? 36).map (·.size) = some (itv c).length := infoI
theorem underM : ∃ d, Try.prog.underlying 27 = some d ∧ d.isRow = true := ⟨_, Try.underlying27, rfl⟩
theorem infoM : (Try.prog.info? 27).map (·.size) = some 4 := by kernel_rfl
theorem infoM' (c : Cmd) : (Try.prog.info? 27).map (·.size) = some (cmv c).length := infoM
theorem cmv_one (x : Cmd) : ∀ u ∈ cmv x, u.oneCell' = true := by
  intro u hu
  simp only [cmv, List.mem_cons, List.not_mem_nil, or_false] at hu
  rcases hu with rfl | rfl | rfl | rfl <;> rfl
set_option maxRecDepth 100000 in
theorem built36 (p a b : Int) (f g : Bool) : Try.prog.built 36 [(0, iv p), (1, iv a), (2, iv b), (3, .bool f), (4, .bool g)] = some (itv ⟨p, a, b, f, g⟩).toArray := by kernel_rfl
theorem kept_c (x m : Int) (h0 : 0 ≤ m) (h1 : m ≤ 1000) (w : World) : Calls Try.prog 25 #[iv x, iv m] w fun e w' => e = .returned (iv (kp x m)) ∧ w.grownBy w' none := by
  have m1 : ∀ (ts : Array TypeId) (t : TypeId) (W : World), (Builtin.min_ ts t #[.int .i64 x, .int .i64 m]).run Try.prog W = .ok (.int .i64 (min x m)) W := fun ts t W => by
    rw [run_min_int2]
    congr 2
    split <;> omega
  have m2 : ∀ (ts : Array TypeId) (t : TypeId) (W : World), (Builtin.max_ ts t #[.int .i64 (-m), .int .i64 (min x m)]).run Try.prog W = .ok (.int .i64 (kp x m)) W := fun ts t W => by
    rw [run_max_int2]
    unfold kp
    congr 2
    split <;> omega
  have k1 : IntKind.i64.wrap (-m) = -m := by
    simp [IntKind.wrap, IntKind.bits, IntKind.signed]
    omega
  generalize kp x m = r at *
  generalize min x m = q at *
  clear h0 h1
  go_enter Try.func25, Try.ntmps25
  go_wp2_with fail
  go_ret
  exact ⟨rfl, World.grownBy.refl w _⟩
theorem within_c (x m : Int) (h0 : 0 ≤ m) (w : World) : Calls Try.prog 26 #[iv x, iv (-m), iv m] w fun e w' => e = .returned (iv (kp x m)) ∧ w.grownBy w' none := by
  obtain ⟨lo, hlo⟩ : ∃ lo, -m = lo := ⟨_, rfl⟩
  have HR : Keep (kp x m = if x < lo then lo else if m < x then m else x) := ⟨by
    unfold kp
    rw [hlo]
    split
    · omega
    · split <;> omega⟩
  rw [hlo]
  generalize kp x m = r at *
  clear hlo h0
  by_cases h1 : x < lo
  · have HE : Keep (r = lo) := ⟨by rw [HR.out, if_pos h1]⟩
    go_enter Try.func26, Try.ntmps26
    go_wp2_with fail
    go_ret
    exact ⟨by rw [HE.out]; rfl, World.grownBy.refl w _⟩
  · by_cases h2 : m < x
    · have HE : Keep (r = m) := ⟨by rw [HR.out, if_neg h1, if_pos h2]⟩
      go_enter Try.func26, Try.ntmps26
      go_wp2_with fail
      go_ret
      exact ⟨by rw [HE.out]; rfl, World.grownBy.refl w _⟩
    · have HE : Keep (r = x) := ⟨by rw [HR.out, if_neg h1, if_neg h2]⟩
      go_enter Try.func26, Try.ntmps26
      go_wp2_with fail
      go_ret
      exact ⟨by rw [HE.out]; rfl, World.grownBy.refl w _⟩
set_option maxRecDepth 100000 in
set_option maxHeartbeats 8000000 in
theorem legal_c (w : World) (p : Int) (c : Cmd) :
    Calls Try.prog 19 #[iv p, .agg (cmv c).toArray] w fun e w' => e = .returned (itw (lgl p c)) ∧ w.grownBy w' none := by
  obtain ⟨du, hdu, hdr⟩ := underI
  have S1 := (Sep.nil w).newBox (cmv c).toArray 27
  obtain ⟨W1, hW1⟩ : ∃ W1, w.alloc (.cells (cmv c).toArray 27) = W1 := ⟨_, rfl⟩
  obtain ⟨cb, hcb⟩ : ∃ b, w.heap.size = b := ⟨_, rfl⟩
  rw [hW1, hcb] at S1
  have S2 := S1.newBox zI5.toArray 36
  obtain ⟨W2, hW2⟩ : ∃ W2, W1.alloc (.cells zI5.toArray 36) = W2 := ⟨_, rfl⟩
  obtain ⟨rb, hrb⟩ : ∃ b, W1.heap.size = b := ⟨_, rfl⟩
  rw [hW2, hrb] at S2
  rw [zI5_lit] at hW2
  have HB : Keep (Sep w W2 [boxA rb zI5 36, boxA cb (cmv c) 27]) := ⟨S2⟩
  have HC1 := Keep.mk (fun W => kept_c c.th 100 (by omega) (by omega) W)
  have HC2 := Keep.mk (fun W => kept_c c.tu 8 (by omega) (by omega) W)
  have HBU := Keep.mk (built36 p (kp c.th 100) (kp c.tu 8) c.fi c.bo)
  have HON := Keep.mk (itv_one (lgl p c))
  have HIN := Keep.mk (infoI' (lgl p c))
  change Keep (Try.prog.built 36 [(0, iv p), (1, iv (kp c.th 100)), (2, iv (kp c.tu 8)), (3, .bool c.fi), (4, .bool c.bo)] = some (itv (lgl p c)).toArray) at HBU
  generalize lgl p c = y at HBU HON HIN ⊢
  generalize kp c.th 100 = a1 at HC1 HBU
  generalize kp c.tu 8 = a2 at HC2 HBU
  clear S1 S2
  unfold cmv at hW1 ⊢
  go_enter Try.func19, Try.ntmps19
  go_wp2_with fail
  replace HB := Keep.mk (HB.out.grown (gr_drew _ none))
  refine region_X (S := fun w' => Sep w w' [boxA cb (cmv c) 27]) [] (by kernel_rfl) HB.out.tail (fun hHeld => ?_)
  obtain ⟨W0, hW0⟩ : ∃ W_, W2.drew = W_ := ⟨_, rfl⟩
  rw [hW0] at HB hHeld ⊢
  clear hW0
  refine wpAnyX_take (i := 0) (oi := _) (v := ?_) rfl (by kernel_rfl) (by kernel_rfl) (by kernel_rfl) (by kernel_rfl) (by kernel_rfl) (fun _ _ _ h => h) (Or.inl ⟨by rfl, ?_⟩) (by assumption) ?_
  rotate_left
  · (intro w hSw; go_simp; first | done | (with_reducible rfl))
  simp only [Act.put, List.getElem_toArray, List.getElem_cons_zero, List.setIfInBounds_toArray, List.set_cons_zero, List.set_cons_succ]
  refine wpAnyX_take (i := 1) (oi := _) (v := ?_) rfl (by kernel_rfl) (by kernel_rfl) (by kernel_rfl) (by kernel_rfl) (by kernel_rfl) (fun _ _ _ h => h) (Or.inl ⟨by rfl, ?_⟩) (by assumption) ?_
  rotate_left
  · (intro w hSw; go_simp; first | done | (with_reducible rfl))
  simp only [Act.put, List.getElem_toArray, List.getElem_cons_succ, List.getElem_cons_zero, List.setIfInBounds_toArray, List.set_cons_zero, List.set_cons_succ]
  refine wpAnyX_take (i := 2) (oi := _) (v := ?_) rfl (by kernel_rfl) (by kernel_rfl) (by kernel_rfl) (by kernel_rfl) (by kernel_rfl) (fun _ _ _ h => h) (Or.inl ⟨by rfl, ?_⟩) (by assumption) ?_
  rotate_left
  · (intro w hSw; have q0 := (hSw.boxGet k0m).cellv 0 _ rfl; go_simp; first | done | (with_reducible rfl))
  simp only [Act.put, List.getElem_toArray, List.getElem_cons_succ, List.getElem_cons_zero, List.setIfInBounds_toArray, List.set_cons_zero, List.set_cons_succ]
  refine wpAnyX_take (i := 4) (oi := _) (v := ?_) rfl (by kernel_rfl) (by kernel_rfl) (by kernel_rfl) (by kernel_rfl) (by kernel_rfl) (fun _ _ _ h => h) (Or.inl ⟨by rfl, ?_⟩) (by assumption) ?_
  rotate_left
  · (intro w hSw; go_simp; first | done | (with_reducible rfl))
  simp only [Act.put, List.getElem_toArray, List.getElem_cons_succ, List.getElem_cons_zero, List.setIfInBounds_toArray, List.set_cons_zero, List.set_cons_succ]
  refine wpAnyX_take (i := 5) (oi := _) (v := ?_) rfl (by kernel_rfl) (by kernel_rfl) (by kernel_rfl) (by kernel_rfl) (by kernel_rfl) (fun _ _ _ h => h) (Or.inl ⟨by rfl, ?_⟩) (by assumption) ?_
  rotate_left
  · (intro w hSw; have q0 := (hSw.boxGet k0m).cellv 1 _ rfl; go_simp; first | done | (with_reducible rfl))
  simp only [Act.put, List.getElem_toArray, List.getElem_cons_succ, List.getElem_cons_zero, List.setIfInBounds_toArray, List.set_cons_zero, List.set_cons_succ]
  refine wpAnyX_take (i := 7) (oi := _) (v := ?_) rfl (by kernel_rfl) (by kernel_rfl) (by kernel_rfl) (by kernel_rfl) (by kernel_rfl) (fun _ _ _ h => h) (Or.inl ⟨by rfl, ?_⟩) (by assumption) ?_
  rotate_left
  · (intro w hSw; go_simp; first | done | (with_reducible rfl))
  simp only [Act.put, List.getElem_toArray, List.getElem_cons_succ, List.getElem_cons_zero, List.setIfInBounds_toArray, List.set_cons_zero, List.set_cons_succ]
  refine wpAnyX_take (i := 8) (oi := _) (v := ?_) rfl (by kernel_rfl) (by kernel_rfl) (by kernel_rfl) (by kernel_rfl) (by kernel_rfl) (fun _ _ _ h => h) (Or.inl ⟨by rfl, ?_⟩) (by assumption) ?_
  rotate_left
  · (intro w hSw; have q0 := (hSw.boxGet k0m).cellv 2 _ rfl; go_simp; first | done | (with_reducible rfl))
  simp only [Act.put, List.getElem_toArray, List.getElem_cons_succ, List.getElem_cons_zero, List.setIfInBounds_toArray, List.set_cons_zero, List.set_cons_succ]
  refine wpAnyX_take (i := 9) (oi := _) (v := ?_) rfl (by kernel_rfl) (by kernel_rfl) (by kernel_rfl) (by kernel_rfl) (by kernel_rfl) (fun _ _ _ h => h) (Or.inl ⟨by rfl, ?_⟩) (by assumption) ?_
  rotate_left
  · (intro w hSw; go_simp; first | done | (with_reducible rfl))
  simp only [Act.put, List.getElem_toArray, List.getElem_cons_succ, List.getElem_cons_zero, List.setIfInBounds_toArray, List.set_cons_zero, List.set_cons_succ]
  refine wpAnyX_take (i := 10) (oi := _) (v := ?_) rfl (by kernel_rfl) (by kernel_rfl) (by kernel_rfl) (by kernel_rfl) (by kernel_rfl) (fun _ _ _ h => h) (Or.inl ⟨by rfl, ?_⟩) (by assumption) ?_
  rotate_left
  · (intro w hSw; have q0 := (hSw.boxGet k0m).cellv 3 _ rfl; go_simp; first | done | (with_reducible rfl))
  simp only [Act.put, List.getElem_toArray, List.getElem_cons_succ, List.getElem_cons_zero, List.setIfInBounds_toArray, List.set_cons_zero, List.set_cons_succ]
  refine wpAnyX_one (i := 3) (by kernel_rfl) rfl (fun K hK => ?_)
  go_simp
  refine (HC1.out _).mono ?_
  rintro e wg1 ⟨rfl, hg⟩
  replace HB := Keep.mk (HB.out.grown hg)
  refine hK.out _ _ HB.out.tail (fun hHeld => ?_)
  clear hK K hg
  refine wpAnyX_one (i := 6) (by kernel_rfl) rfl (fun K hK => ?_)
  go_simp
  refine (HC2.out _).mono ?_
  rintro e wg2 ⟨rfl, hg⟩
  replace HB := Keep.mk (HB.out.grown hg)
  refine hK.out _ _ HB.out.tail (fun hHeld => ?_)
  clear hK K hg
  refine wpAnyX_take (i := 11) (oi := _) (v := .agg (itv y).toArray) rfl (by kernel_rfl) (by kernel_rfl) (by kernel_rfl) (by kernel_rfl) (by kernel_rfl) (fun _ _ _ h => h) (yieldsIf_build (by rfl) 36 _ rfl _ ?_) (by assumption) ?_
  · refine (congrArg (Try.prog.built 36) ?_).trans HBU.out
    simp only [List.map_toArray, List.map_cons, List.map_nil]
    rfl
  simp only [Act.put, List.getElem_toArray, List.getElem_cons_succ, List.getElem_cons_zero, List.setIfInBounds_toArray, List.set_cons_zero, List.set_cons_succ]
  refine wpAnyX_one (i := 12) (by kernel_rfl) rfl (fun K hK => ?_)
  rw [if_pos (show Region.wanted _ _ = true from rfl)]
  refine wp_store_mid 36 _ _ rfl rb 0 (itv y).toArray rfl rfl ((HB.out.boxGet k0m).there 0 5 (Nat.le_refl _)) HIN.out (all_oneCell_toArray HON.out) ?_
  have S_ := HB.out.boxTurn ((HB.out.boxGet k0m).setCells (itv y) 0) (gr_sets _ _ _ _)
  rw [over_all zI5 (itv y) rfl] at S_
  refine hK.out _ _ S_.tail (fun hHeld => ?_)
  replace HB := Keep.mk S_
  clear hK K S_
  change Keep (Sep w (World.setCells wg2 rb 0 (itv y).toArray.toList) _) at HB
  generalize World.setCells wg2 rb 0 (itv y).toArray.toList = ws3 at HB hHeld ⊢
  simp only [Act.put, List.getElem_toArray, List.getElem_cons_succ, List.getElem_cons_zero]
  refine wpAnyX_done (by kernel_rfl) ?_ _
  clear hHeld
  go_wp2_with fail
  exact ret_c rfl rfl (HB.out.boxGet k0m) hdu hdr HIN.out rfl ⟨rfl, HB.out.g⟩
set_option maxRecDepth 100000 in
set_option maxHeartbeats 8000000 in
theorem rlegal_c (w : World) (p : Int) (c : Cmd) :
    Calls Try.prog 20 #[iv p, .agg (cmv c).toArray] w fun e w' => e = .returned (itw (lgl p c)) ∧ w.grownBy w' none := by
  obtain ⟨du, hdu, hdr⟩ := underI
  have S1 := (Sep.nil w).newBox (cmv c).toArray 27
  obtain ⟨W1, hW1⟩ : ∃ W1, w.alloc (.cells (cmv c).toArray 27) = W1 := ⟨_, rfl⟩
  obtain ⟨cb, hcb⟩ : ∃ b, w.heap.size = b := ⟨_, rfl⟩
  rw [hW1, hcb] at S1
  have S2 := S1.newBox zI5.toArray 36
  obtain ⟨W2, hW2⟩ : ∃ W2, W1.alloc (.cells zI5.toArray 36) = W2 := ⟨_, rfl⟩
  obtain ⟨rb, hrb⟩ : ∃ b, W1.heap.size = b := ⟨_, rfl⟩
  rw [hW2, hrb] at S2
  rw [zI5_lit] at hW2
  have HB : Keep (Sep w W2 [boxA rb zI5 36, boxA cb (cmv c) 27]) := ⟨S2⟩
  have HC1 := Keep.mk (fun W => within_c c.th 100 (by omega) W)
  have HC2 := Keep.mk (fun W => within_c c.tu 8 (by omega) W)
  have HBU := Keep.mk (built36 p (kp c.th 100) (kp c.tu 8) c.fi c.bo)
  have HON := Keep.mk (itv_one (lgl p c))
  have HIN := Keep.mk (infoI' (lgl p c))
  change Keep (Try.prog.built 36 [(0, iv p), (1, iv (kp c.th 100)), (2, iv (kp c.tu 8)), (3, .bool c.fi), (4, .bool c.bo)] = some (itv (lgl p c)).toArray) at HBU
  generalize lgl p c = y at HBU HON HIN ⊢
  generalize kp c.th 100 = a1 at HC1 HBU
  generalize kp c.tu 8 = a2 at HC2 HBU
  clear S1 S2
  unfold cmv at hW1 ⊢
  go_enter Try.func20, Try.ntmps20
  go_wp2_with fail
  replace HB := Keep.mk (HB.out.grown (gr_drew _ none))
  refine region_X (S := fun w' => Sep w w' [boxA cb (cmv c) 27]) [] (by kernel_rfl) HB.out.tail (fun hHeld => ?_)
  obtain ⟨W0, hW0⟩ : ∃ W_, W2.drew = W_ := ⟨_, rfl⟩
  rw [hW0] at HB hHeld ⊢
  clear hW0
  refine wpAnyX_take (i := 0) (oi := _) (v := ?_) rfl (by kernel_rfl) (by kernel_rfl) (by kernel_rfl) (by kernel_rfl) (by kernel_rfl) (fun _ _ _ h => h) (Or.inl ⟨by rfl, ?_⟩) (by assumption) ?_
  rotate_left
  · (intro w hSw; go_simp; first | done | (with_reducible rfl))
  simp only [Act.put, List.getElem_toArray, List.getElem_cons_zero, List.setIfInBounds_toArray, List.set_cons_zero, List.set_cons_succ]
  refine wpAnyX_take (i := 1) (oi := _) (v := ?_) rfl (by kernel_rfl) (by kernel_rfl) (by kernel_rfl) (by kernel_rfl) (by kernel_rfl) (fun _ _ _ h => h) (Or.inl ⟨by rfl, ?_⟩) (by assumption) ?_
  rotate_left
  · (intro w hSw; go_simp; first | done | (with_reducible rfl))
  simp only [Act.put, List.getElem_toArray, List.getElem_cons_succ, List.getElem_cons_zero, List.setIfInBounds_toArray, List.set_cons_zero, List.set_cons_succ]
  refine wpAnyX_take (i := 2) (oi := _) (v := ?_) rfl (by kernel_rfl) (by kernel_rfl) (by kernel_rfl) (by kernel_rfl) (by kernel_rfl) (fun _ _ _ h => h) (Or.inl ⟨by rfl, ?_⟩) (by assumption) ?_
  rotate_left
  · (intro w hSw; have q0 := (hSw.boxGet k0m).cellv 0 _ rfl; go_simp; first | done | (with_reducible rfl))
  simp only [Act.put, List.getElem_toArray, List.getElem_cons_succ, List.getElem_cons_zero, List.setIfInBounds_toArray, List.set_cons_zero, List.set_cons_succ]
  refine wpAnyX_take (i := 4) (oi := _) (v := ?_) rfl (by kernel_rfl) (by kernel_rfl) (by kernel_rfl) (by kernel_rfl) (by kernel_rfl) (fun _ _ _ h => h) (Or.inl ⟨by rfl, ?_⟩) (by assumption) ?_
  rotate_left
  · (intro w hSw; go_simp; first | done | (with_reducible rfl))
  simp only [Act.put, List.getElem_toArray, List.getElem_cons_succ, List.getElem_cons_zero, List.setIfInBounds_toArray, List.set_cons_zero, List.set_cons_succ]
  refine wpAnyX_take (i := 5) (oi := _) (v := ?_) rfl (by kernel_rfl) (by kernel_rfl) (by kernel_rfl) (by kernel_rfl) (by kernel_rfl) (fun _ _ _ h => h) (Or.inl ⟨by rfl, ?_⟩) (by assumption) ?_
  rotate_left
  · (intro w hSw; have q0 := (hSw.boxGet k0m).cellv 1 _ rfl; go_simp; first | done | (with_reducible rfl))
  simp only [Act.put, List.getElem_toArray, List.getElem_cons_succ, List.getElem_cons_zero, List.setIfInBounds_toArray, List.set_cons_zero, List.set_cons_succ]
  refine wpAnyX_take (i := 7) (oi := _) (v := ?_) rfl (by kernel_rfl) (by kernel_rfl) (by kernel_rfl) (by kernel_rfl) (by kernel_rfl) (fun _ _ _ h => h) (Or.inl ⟨by rfl, ?_⟩) (by assumption) ?_
  rotate_left
  · (intro w hSw; go_simp; first | done | (with_reducible rfl))
  simp only [Act.put, List.getElem_toArray, List.getElem_cons_succ, List.getElem_cons_zero, List.setIfInBounds_toArray, List.set_cons_zero, List.set_cons_succ]
  refine wpAnyX_take (i := 8) (oi := _) (v := ?_) rfl (by kernel_rfl) (by kernel_rfl) (by kernel_rfl) (by kernel_rfl) (by kernel_rfl) (fun _ _ _ h => h) (Or.inl ⟨by rfl, ?_⟩) (by assumption) ?_
  rotate_left
  · (intro w hSw; have q0 := (hSw.boxGet k0m).cellv 2 _ rfl; go_simp; first | done | (with_reducible rfl))
  simp only [Act.put, List.getElem_toArray, List.getElem_cons_succ, List.getElem_cons_zero, List.setIfInBounds_toArray, List.set_cons_zero, List.set_cons_succ]
  refine wpAnyX_take (i := 9) (oi := _) (v := ?_) rfl (by kernel_rfl) (by kernel_rfl) (by kernel_rfl) (by kernel_rfl) (by kernel_rfl) (fun _ _ _ h => h) (Or.inl ⟨by rfl, ?_⟩) (by assumption) ?_
  rotate_left
  · (intro w hSw; go_simp; first | done | (with_reducible rfl))
  simp only [Act.put, List.getElem_toArray, List.getElem_cons_succ, List.getElem_cons_zero, List.setIfInBounds_toArray, List.set_cons_zero, List.set_cons_succ]
  refine wpAnyX_take (i := 10) (oi := _) (v := ?_) rfl (by kernel_rfl) (by kernel_rfl) (by kernel_rfl) (by kernel_rfl) (by kernel_rfl) (fun _ _ _ h => h) (Or.inl ⟨by rfl, ?_⟩) (by assumption) ?_
  rotate_left
  · (intro w hSw; have q0 := (hSw.boxGet k0m).cellv 3 _ rfl; go_simp; first | done | (with_reducible rfl))
  simp only [Act.put, List.getElem_toArray, List.getElem_cons_succ, List.getElem_cons_zero, List.setIfInBounds_toArray, List.set_cons_zero, List.set_cons_succ]
  refine wpAnyX_one (i := 3) (by kernel_rfl) rfl (fun K hK => ?_)
  go_simp
  refine (HC1.out _).mono ?_
  rintro e wg1 ⟨rfl, hg⟩
  replace HB := Keep.mk (HB.out.grown hg)
  refine hK.out _ _ HB.out.tail (fun hHeld => ?_)
  clear hK K hg
  refine wpAnyX_one (i := 6) (by kernel_rfl) rfl (fun K hK => ?_)
  go_simp
  refine (HC2.out _).mono ?_
  rintro e wg2 ⟨rfl, hg⟩
  replace HB := Keep.mk (HB.out.grown hg)
  refine hK.out _ _ HB.out.tail (fun hHeld => ?_)
  clear hK K hg
  refine wpAnyX_take (i := 11) (oi := _) (v := .agg (itv y).toArray) rfl (by kernel_rfl) (by kernel_rfl) (by kernel_rfl) (by kernel_rfl) (by kernel_rfl) (fun _ _ _ h => h) (yieldsIf_build (by rfl) 36 _ rfl _ ?_) (by assumption) ?_
  · refine (congrArg (Try.prog.built 36) ?_).trans HBU.out
    simp only [List.map_toArray, List.map_cons, List.map_nil]
    rfl
  simp only [Act.put, List.getElem_toArray, List.getElem_cons_succ, List.getElem_cons_zero, List.setIfInBounds_toArray, List.set_cons_zero, List.set_cons_succ]
  refine wpAnyX_one (i := 12) (by kernel_rfl) rfl (fun K hK => ?_)
  rw [if_pos (show Region.wanted _ _ = true from rfl)]
  refine wp_store_mid 36 _ _ rfl rb 0 (itv y).toArray rfl rfl ((HB.out.boxGet k0m).there 0 5 (Nat.le_refl _)) HIN.out (all_oneCell_toArray HON.out) ?_
  have S_ := HB.out.boxTurn ((HB.out.boxGet k0m).setCells (itv y) 0) (gr_sets _ _ _ _)
  rw [over_all zI5 (itv y) rfl] at S_
  refine hK.out _ _ S_.tail (fun hHeld => ?_)
  replace HB := Keep.mk S_
  clear hK K S_
  change Keep (Sep w (World.setCells wg2 rb 0 (itv y).toArray.toList) _) at HB
  generalize World.setCells wg2 rb 0 (itv y).toArray.toList = ws3 at HB hHeld ⊢
  simp only [Act.put, List.getElem_toArray, List.getElem_cons_succ, List.getElem_cons_zero]
  refine wpAnyX_done (by kernel_rfl) ?_ _
  clear hHeld
  go_wp2_with fail
  exact ret_c rfl rfl (HB.out.boxGet k0m) hdu hdr HIN.out rfl ⟨rfl, HB.out.g⟩
end Go.Proofs.Ytjoodembmjooaaa
