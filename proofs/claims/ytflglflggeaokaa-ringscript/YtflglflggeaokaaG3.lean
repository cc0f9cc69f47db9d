/- the laws' step: a push, a pop, at, a range. -/
import Derived.Test.YtflglflggeaokaaG2
import Derived.Test.YtflglflggeaokaaR2
namespace Go.Proofs.Ytflglflggeaokaa
open Go Go.RowKit Go.Shelf

/-- which of the two -/
def which (At : Int) : Nat := if At.tmod 2 = 0 then 0 else 1
theorem which_lt (At : Int) : which At < 2 := by unfold which; split <;> omega
theorem which_or (At : Int) : (which At = 0 ∧ At.tmod 2 = 0) ∨ (which At = 1 ∧ ¬ At.tmod 2 = 0) := by
  unfold which
  by_cases h : At.tmod 2 = 0
  · exact .inl ⟨if_pos h, h⟩
  · exact .inr ⟨if_neg h, h⟩
/-- what a step on one ring reads -/
structure PR (W : World) (pb k rb : Nat) (v : Value) (db : Nat) (a : Option Addr) (sz : Nat) (L : List Int) : Prop where
  r : W.cell? ⟨pb, k, none⟩ = some (.pointer (some ⟨rb, 0, none⟩))
  d : W.cell? ⟨pb, 2 + k, none⟩ = some (.pointer (some ⟨db, 0, none⟩))
  p : (pairO rb v db a sz L L).P W
theorem PR.lt {W : World} {pb k rb : Nat} {v : Value} {db : Nat} {a : Option Addr} {sz : Nat} {L : List Int} (h : PR W pb k rb v db a sz L) : pb < W.heap.size := World.block_lt_of_cell? W _ h.r
theorem RG.cellAt {w W : World} {rb : Nat} {v0 : Value} {db : Nat} {a0 : Option Addr} {sz : Nat} {QR QD : List Int} {X : List (Nat × List Value × TypeId)} {Ds : List Nat} (h : RG w W rb v0 db a0 sz QR QD X Ds) (b : Nat) (cs : List Value) (t : TypeId) (hp : (b, cs, t) ∈ X) (j : Nat) (u : Value) (hu : cs[j]? = some u) : W.cell? ⟨b, j, none⟩ = some u :=
  (h.x (b, cs, t) hp).cellv j _ hu

def pushCode (sz : Nat) (L : List Int) : Int := if L.length < sz then 0 else 111
def pushed (sz : Nat) (L : List Int) (x : Int) : List Int := if L.length < sz then L ++ [x] else L
theorem rg_push_any {w W : World} {rb : Nat} {v0 : Value} {db : Nat} {a0 : Option Addr} {sz : Nat} {QR QD : List Int} {X : List (Nat × List Value × TypeId)} {Ds : List Nat} (h : RG w W rb v0 db a0 sz QR QD X Ds) (x : Int) :
    Calls Try.prog 11 #[.pointer (some ⟨rb, 0, none⟩), .int .i64 x] W fun e w' => e = .returned (.int .i64 (pushCode sz QR)) ∧ RG w w' rb v0 db a0 sz (pushed sz QR x) QD X Ds := by
  unfold pushCode pushed
  by_cases hl : QR.length < sz
  · rw [if_pos hl, if_pos hl]
    refine (rg_push h [rb] (by simp) x hl).mono ?_
    rintro e w' ⟨rfl, h2, _⟩
    exact ⟨rfl, h2⟩
  · rw [if_neg hl, if_neg hl]
    obtain ⟨v, a, c, r, d, _⟩ := h.e
    have hle : QR.length ≤ sz := by obtain ⟨f, P, _, _, q1, q2, _⟩ := r.st; omega
    refine (push_full rb v sz QR x W r (by omega)).mono ?_
    rintro e w' ⟨rfl, n, rfl⟩
    exact ⟨rfl, h.grown (gr_drewN _ _ _)⟩
theorem rg_dpush_any {w W : World} {rb : Nat} {v0 : Value} {db : Nat} {a0 : Option Addr} {sz : Nat} {QR QD : List Int} {X : List (Nat × List Value × TypeId)} {Ds : List Nat} (h : RG w W rb v0 db a0 sz QR QD X Ds) (x : Int) :
    Calls Try.prog 34 #[.pointer (some ⟨db, 0, none⟩), .int .i64 x] W fun e w' => e = .returned (.int .i64 (pushCode sz QD)) ∧ RG w w' rb v0 db a0 sz QR (pushed sz QD x) X Ds := by
  unfold pushCode pushed
  by_cases hl : QD.length < sz
  · rw [if_pos hl, if_pos hl]
    refine (rg_dpush h [db] (by simp) x hl).mono ?_
    rintro e w' ⟨rfl, h2, _⟩
    exact ⟨rfl, h2⟩
  · rw [if_neg hl, if_neg hl]
    obtain ⟨v, a, c, r, d, _⟩ := h.e
    have hle := d.le
    refine (dpush_full db a c sz QD x W d (by omega)).mono ?_
    rintro e w' ⟨rfl, n, rfl⟩
    exact ⟨rfl, h.grown (gr_drewN _ _ _)⟩
def popVal (L : List Int) : Int := L.headD 0
def popOk (L : List Int) : Bool := !L.isEmpty
theorem rg_pop_any {w W : World} {rb : Nat} {v0 : Value} {db : Nat} {a0 : Option Addr} {sz : Nat} {QR QD : List Int} {X : List (Nat × List Value × TypeId)} {Ds : List Nat} (h : RG w W rb v0 db a0 sz QR QD X Ds) :
    Calls Try.prog 13 #[.pointer (some ⟨rb, 0, none⟩)] W fun e w' => e = .returned (.tuple #[.int .i64 (popVal QR), .bool (popOk QR)]) ∧ RG w w' rb v0 db a0 sz QR.tail QD X Ds := by
  cases QR with
  | nil =>
    obtain ⟨v, a, c, r, d, _⟩ := h.e
    refine (pop_no rb v sz W r).mono ?_
    rintro e w' ⟨rfl, rfl⟩
    exact ⟨rfl, h⟩
  | cons y Q =>
    refine (rg_pop h [rb] (by simp)).mono ?_
    rintro e w' ⟨rfl, h2, _⟩
    exact ⟨rfl, h2⟩
theorem rg_dpop_any {w W : World} {rb : Nat} {v0 : Value} {db : Nat} {a0 : Option Addr} {sz : Nat} {QR QD : List Int} {X : List (Nat × List Value × TypeId)} {Ds : List Nat} (h : RG w W rb v0 db a0 sz QR QD X Ds) :
    Calls Try.prog 35 #[.pointer (some ⟨db, 0, none⟩)] W fun e w' => e = .returned (.tuple #[.int .i64 (popVal QD), .bool (popOk QD)]) ∧ RG w w' rb v0 db a0 sz QR QD.tail X Ds := by
  cases QD with
  | nil =>
    obtain ⟨v, a, c, r, d, _⟩ := h.e
    refine (dpop_no db a c sz W d).mono ?_
    rintro e w' ⟨rfl, rfl⟩
    exact ⟨rfl, h⟩
  | cons y Q =>
    refine (rg_dpop h [db] (by simp)).mono ?_
    rintro e w' ⟨rfl, h2, _⟩
    exact ⟨rfl, h2⟩
def atVal (L : List Int) (i : Int) : Int := if 0 ≤ i ∧ i < L.length then L.getD i.toNat 0 else 0
def atOk (L : List Int) (i : Int) : Bool := decide (0 ≤ i ∧ i < L.length)
theorem at_nat {L : List Int} {i : Int} (h : 0 ≤ i ∧ i < L.length) : L[i.toNat]? = some (atVal L i) ∧ atOk L i = true := by
  unfold atVal atOk
  rw [if_pos h]
  have : i.toNat < L.length := by omega
  exact ⟨by simp [List.getD, this], decide_eq_true h⟩
theorem rg_at_any {w W : World} {rb : Nat} {v0 : Value} {db : Nat} {a0 : Option Addr} {sz : Nat} {QR QD : List Int} {X : List (Nat × List Value × TypeId)} {Ds : List Nat} (h : RG w W rb v0 db a0 sz QR QD X Ds) (i : Int) :
    Calls Try.prog 22 #[.pointer (some ⟨rb, 0, none⟩), .int .i64 i] W fun e w' => e = .returned (.tuple #[.int .i64 (atVal QR i), .bool (atOk QR i)]) ∧ RG w w' rb v0 db a0 sz QR QD X Ds := by
  obtain ⟨v, a, c, r, d, _⟩ := h.e
  by_cases hi : 0 ≤ i ∧ i < QR.length
  · obtain ⟨q1, q2⟩ := at_nat hi
    have hx := at_yes rb v sz QR i.toNat (atVal QR i) W r q1
    rw [show ((i.toNat : Nat) : Int) = i by omega] at hx
    refine hx.mono ?_
    rintro e w' ⟨rfl, n, rfl⟩
    exact ⟨by rw [q2], h.grown (gr_drewN _ _ _)⟩
  · refine (at_no rb v sz QR i W r hi).mono ?_
    rintro e w' ⟨rfl, rfl⟩
    exact ⟨by unfold atVal atOk; rw [if_neg hi, decide_eq_false hi], h⟩
theorem rg_dat_any {w W : World} {rb : Nat} {v0 : Value} {db : Nat} {a0 : Option Addr} {sz : Nat} {QR QD : List Int} {X : List (Nat × List Value × TypeId)} {Ds : List Nat} (h : RG w W rb v0 db a0 sz QR QD X Ds) (i : Int) :
    Calls Try.prog 36 #[.pointer (some ⟨db, 0, none⟩), .int .i64 i] W fun e w' => e = .returned (.tuple #[.int .i64 (atVal QD i), .bool (atOk QD i)]) ∧ RG w w' rb v0 db a0 sz QR QD X Ds := by
  obtain ⟨v, a, c, r, d, _⟩ := h.e
  by_cases hi : 0 ≤ i ∧ i < QD.length
  · obtain ⟨q1, q2⟩ := at_nat hi
    have hx := dat_yes db a c sz QD i.toNat (atVal QD i) W d q1
    rw [show ((i.toNat : Nat) : Int) = i by omega] at hx
    refine hx.mono ?_
    rintro e w' ⟨rfl, rfl⟩
    exact ⟨by rw [q2], h⟩
  · refine (dat_no db a c sz QD i W d hi).mono ?_
    rintro e w' ⟨rfl, rfl⟩
    exact ⟨by unfold atVal atOk; rw [if_neg hi, decide_eq_false hi], h⟩

set_option maxRecDepth 100000 in
set_option maxHeartbeats 4000000 in
theorem step_push (pb rb db : Nat) (v : Value) (a : Option Addr) (sz : Nat) (L : List Int) (At N : Int) (W : World) (h : PR W pb (which At) rb v db a sz L) :
    Calls Try.prog 24 #[.pointer (some ⟨pb, 0, none⟩), .agg #[.int .i64 2, .int .i64 At, .int .i64 N]] W fun e W' => e = .returned (.bool true) ∧ ∃ Q, RG W W' rb v db a sz Q Q [] [] := by
  have HR : Keep (PR W pb (which At) rb v db a sz L) := ⟨h⟩
  have H0 := (RG.start h.p).add (World.grownBy_alloc W (.cells #[.int .i64 2, .int .i64 At, .int .i64 N] 61) none) (Has.newA W #[.int .i64 2, .int .i64 At, .int .i64 N] 61) (Nat.le_refl _)
  clear h
  have hc0 : (W.alloc (.cells #[.int .i64 2, .int .i64 At, .int .i64 N] 61)).cell? ⟨pb, which At, none⟩ = some (.pointer (some ⟨rb, 0, none⟩)) := by rw [World.cell?_alloc_lt _ _ _ HR.out.lt]; exact HR.out.r
  have hc1 : (W.alloc (.cells #[.int .i64 2, .int .i64 At, .int .i64 N] 61)).cell? ⟨pb, 2 + which At, none⟩ = some (.pointer (some ⟨db, 0, none⟩)) := by rw [World.cell?_alloc_lt _ _ _ HR.out.lt]; exact HR.out.d
  obtain ⟨W1, hW1⟩ : ∃ W1, W.alloc (.cells #[.int .i64 2, .int .i64 At, .int .i64 N] 61) = W1 := ⟨_, rfl⟩
  obtain ⟨ob, hob⟩ : ∃ ob, W.heap.size = ob := ⟨_, rfl⟩
  rw [hob] at H0
  rw [hW1] at H0 hc0 hc1
  have HG : Keep (RG W W1 rb v db a sz L L [(ob, [.int .i64 2, .int .i64 At, .int .i64 N], 61)] []) := ⟨H0⟩
  have HO : Keep (∀ (W' : World) (A B : List Int), RG W W' rb v db a sz A B [(ob, [.int .i64 2, .int .i64 At, .int .i64 N], 61)] [] → W'.cell? ⟨ob, 2, none⟩ = some (.int .i64 N)) := ⟨fun W' A B h => h.cellAt ob _ 61 (List.mem_singleton.2 rfl) 2 _ rfl⟩
  have o0 : W1.cell? ⟨ob, 0, none⟩ = some (.int .i64 2) := HG.out.cellAt ob _ 61 (List.mem_singleton.2 rfl) 0 _ rfl
  have o1 : W1.cell? ⟨ob, 1, none⟩ = some (.int .i64 At) := HG.out.cellAt ob _ 61 (List.mem_singleton.2 rfl) 1 _ rfl
  have o2 : W1.cell? ⟨ob, 2, none⟩ = some (.int .i64 N) := HG.out.cellAt ob _ 61 (List.mem_singleton.2 rfl) 2 _ rfl
  clear H0
  go_enter Try.func24, Try.ntmps24
  rcases which_or At with ⟨hwh, hat⟩ | ⟨hwh, hat⟩
  all_goals
    rw [hwh] at hc0 hc1
    go_wp2_with fail
    clear hc0 hc1 o0 o1 hW1 hob hat hwh
    obtain ⟨cd, hcd⟩ : ∃ cd, pushCode sz L = cd := ⟨_, rfl⟩
    have HG2 : Keep (RG W W1.drew rb v db a sz L L [(ob, [.int .i64 2, .int .i64 At, .int .i64 N], 61)] []) := ⟨HG.out.grown (gr_drewN W1 1 none)⟩
    clear HG o2
    refine wp_region_held_drew (S := fun w' => w'.cell? ⟨ob, 2, none⟩ = some (.int .i64 N)) (by kernel_rfl) (HO.out _ _ _ HG2.out) (fun hHeld => ?_)
    refine wpAnyH_take (i := 0) (oi := _) (v := ?_) rfl (by kernel_rfl) (by kernel_rfl) (by kernel_rfl) (fun _ _ _ h => h) (Or.inl ⟨by rfl, ?_⟩) (by assumption) ?_
    rotate_left
    · (intro w hSw; go_simp; first | done | (with_reducible rfl))
    simp only [Act.put, List.getElem_toArray, List.getElem_cons_zero, List.setIfInBounds_toArray, List.set_cons_zero, List.set_cons_succ]
    refine wpAnyH_take (i := 1) (oi := _) (v := ?_) rfl (by kernel_rfl) (by kernel_rfl) (by kernel_rfl) (fun _ _ _ h => h) (Or.inl ⟨by rfl, ?_⟩) (by assumption) ?_
    rotate_left
    · (intro w hSw; go_simp; first | done | (with_reducible rfl))
    simp only [Act.put, List.getElem_toArray, List.getElem_cons_succ, List.getElem_cons_zero, List.setIfInBounds_toArray, List.set_cons_zero, List.set_cons_succ]
    refine wpAnyH_take (i := 2) (oi := _) (v := ?_) rfl (by kernel_rfl) (by kernel_rfl) (by kernel_rfl) (fun _ _ _ h => h) (Or.inl ⟨by rfl, ?_⟩) (by assumption) ?_
    rotate_left
    · (intro w hSw; go_simp; first | done | (with_reducible rfl))
    simp only [Act.put, List.getElem_toArray, List.getElem_cons_succ, List.getElem_cons_zero, List.setIfInBounds_toArray, List.set_cons_zero, List.set_cons_succ]
    refine wpAnyH_take (i := 5) (oi := _) (v := ?_) rfl (by kernel_rfl) (by kernel_rfl) (by kernel_rfl) (fun _ _ _ h => h) (Or.inl ⟨by rfl, ?_⟩) (by assumption) ?_
    rotate_left
    · (intro w hSw; go_simp; first | done | (with_reducible rfl))
    simp only [Act.put, List.getElem_toArray, List.getElem_cons_succ, List.getElem_cons_zero, List.setIfInBounds_toArray, List.set_cons_zero, List.set_cons_succ]
    refine wpAnyH_take (i := 6) (oi := _) (v := ?_) rfl (by kernel_rfl) (by kernel_rfl) (by kernel_rfl) (fun _ _ _ h => h) (Or.inl ⟨by rfl, ?_⟩) (by assumption) ?_
    rotate_left
    · (intro w hSw; go_simp; first | done | (with_reducible rfl))
    simp only [Act.put, List.getElem_toArray, List.getElem_cons_succ, List.getElem_cons_zero, List.setIfInBounds_toArray, List.set_cons_zero, List.set_cons_succ]
    refine wpAnyH_take (i := 7) (oi := _) (v := ?_) rfl (by kernel_rfl) (by kernel_rfl) (by kernel_rfl) (fun _ _ _ h => h) (Or.inl ⟨by rfl, ?_⟩) (by assumption) ?_
    rotate_left
    · (intro w hSw; go_simp; first | done | (with_reducible rfl))
    simp only [Act.put, List.getElem_toArray, List.getElem_cons_succ, List.getElem_cons_zero, List.setIfInBounds_toArray, List.set_cons_zero, List.set_cons_succ]
    refine wpAnyH_ready (rs := [3]) (by kernel_rfl) (by simp) ?_
    refine AllReadyH.cons rfl (fun K hK => ?_) AllReadyH.nil
    go_simp
    go_wp2_with (go_at_call 11; refine (rg_push_any HG2.out N).mono ?_; rintro e W3 ⟨rfl, h3⟩; rw [hcd])
    refine hK.out _ _ (HO.out _ _ _ h3) (fun hHeld => ?_)
    clear hK K
    refine wpAnyH_ready (rs := [4]) (by kernel_rfl) (by simp) ?_
    refine AllReadyH.cons rfl (fun K hK => ?_) AllReadyH.nil
    go_simp
    go_wp2_with (go_at_call 10; refine (num_c cd W3).mono ?_; rintro e W4 ⟨rfl, rfl⟩)
    refine hK.out _ _ hHeld (fun hHeld => ?_)
    clear hK K
    refine wpAnyH_ready (rs := [8]) (by kernel_rfl) (by simp) ?_
    refine AllReadyH.cons rfl (fun K hK => ?_) AllReadyH.nil
    go_simp
    go_wp2_with (go_at_call 34; refine (rg_dpush_any h3 N).mono ?_; rintro e W5 ⟨rfl, h5⟩; rw [hcd])
    refine hK.out _ _ (HO.out _ _ _ h5) (fun hHeld => ?_)
    clear hK K
    refine wpAnyH_ready (rs := [9]) (by kernel_rfl) (by simp) ?_
    refine AllReadyH.cons rfl (fun K hK => ?_) AllReadyH.nil
    go_simp
    go_wp2_with (go_at_call 10; refine (num_c cd W5).mono ?_; rintro e W6 ⟨rfl, rfl⟩)
    refine hK.out _ _ hHeld (fun hHeld => ?_)
    clear hK K
    refine wpAnyH_take (i := 10) (oi := _) (v := ?_) rfl (by kernel_rfl) (by kernel_rfl) (by kernel_rfl) (fun _ _ _ h => h) (Or.inl ⟨by rfl, ?_⟩) (by assumption) ?_
    rotate_left
    · (intro w hSw; go_simp; first | done | (with_reducible rfl))
    simp only [Act.put, List.getElem_toArray, List.getElem_cons_succ, List.getElem_cons_zero, List.setIfInBounds_toArray, List.set_cons_zero, List.set_cons_succ]
    refine wpAnyH_take (i := 11) (oi := _) (v := ?_) rfl (by kernel_rfl) (by kernel_rfl) (by kernel_rfl) (fun _ _ _ h => h) (Or.inl ⟨by rfl, ?_⟩) (by assumption) ?_
    rotate_left
    · (intro w hSw; go_simp; first | done | (with_reducible rfl))
    simp only [Act.put, List.getElem_toArray, List.getElem_cons_succ, List.getElem_cons_zero, List.setIfInBounds_toArray, List.set_cons_zero, List.set_cons_succ]
    refine wpAnyH_done (by kernel_rfl) ?_ _
    clear hHeld
    have HE : Keep (RG W W6 rb v db a sz (pushed sz L N) (pushed sz L N) [] []) := ⟨h5.sub (fun p hp => by cases hp) (fun p hp => hp)⟩
    clear h3 h5
    go_wp2_with fail
    go_ret
    exact ⟨rfl, _, HE.out⟩
end Go.Proofs.Ytflglflggeaokaa
