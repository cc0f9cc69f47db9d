/- car: the steps of a drive but push -/
import Derived.Test.YtobdcngjpgndiabDoorC1
namespace Go.Proofs.YtobdcngjpgndiabDoor.Bo
open Go Go.RowKit

theorem ret_0 {P : Program} {fn : Func} {R : Ending → World → Prop} {a : Act} {w : World} (hr : fn.results = #[]) (hd : a.defers = []) (h : R (.returned (.tuple #[])) w) : bodyPost P fn R .ret a w := bodyPost_ret (results_none hr _ _ _) hd h
theorem end_0 {P : Program} {fn : Func} {R : Ending → World → Prop} {a : Act} {w : World} (hr : fn.results = #[]) (hd : a.defers = []) (h : R (.returned (.tuple #[])) w) : bodyPost P fn R .normal a w := bodyPost_end (results_none hr _ _ _) hd h
/-- a car within its tick, as it lies -/
def dcs (v : Value) (c : Cr) (i : It) (p : Int) : List Value := [v, iv c.pl, .string c.nm, iv c.x, iv c.y, iv c.sx, iv c.sy, iv c.hd, iv c.he, iv c.en, iv c.am, iv c.co, iv c.wa, iv c.sp, iv c.sc, iv i.pl, iv i.th, iv i.tu, .bool i.fi, .bool i.bo, iv p]
set_option maxRecDepth 100000 in
set_option maxHeartbeats 4000000 in
theorem steer_c (w0 W : World) (l : List As) (db : Nat) (v : Value) (c : Cr) (i : It) (p : Int) (h : Sep w0 W (boxA db (dcs v c i p) 54 :: l)) :
    Calls Tryd.prog 22 #[pt db] W fun e W' => e = .returned (.tuple #[]) ∧ Sep w0 W' (boxA db (dcs v (stH c i) i p) 54 :: l) := by
  have y17 : W.cell? ⟨db, 17, none⟩ = some (iv i.tu) := (h.boxGet k0m).cellv 17 _ rfl
  have y7 : W.cell? ⟨db, 7, none⟩ = some (iv c.hd) := (h.boxGet k0m).cellv 7 _ rfl
  have f7 : W.frozen? ⟨db, 7, none⟩ = false := (h.boxGet k0m).frozen 7
  have hT := turn_c c.hd (min (max i.tu (-8)) 8) W
  have S1 := h.boxPut 7 (iv ((c.hd + min (max i.tu (-8)) 8) % 256))
  change Sep w0 _ (boxA db (dcs v (stH c i) i p) 54 :: l) at S1
  have HS := Keep.mk S1
  clear h S1
  go_enter Tryd.func22, Tryd.ntmps22
  go_wp2_with fail
  refine hT.mono ?_
  rintro e w1 ⟨rfl, hw⟩
  subst hw
  go_wp2_with fail
  exact end_0 rfl rfl ⟨rfl, HS.out⟩
theorem clamp_in (x : Int) : -100 ≤ clampZ x (-100) 100 ∧ clampZ x (-100) 100 ≤ 100 := by
  unfold clampZ; split <;> split <;> omega
theorem pw0_in (i : It) : -4096 ≤ pw0 i ∧ pw0 i ≤ 4096 := by
  have := clamp_in i.th
  unfold pw0
  omega
set_option maxRecDepth 100000 in
set_option maxHeartbeats 4000000 in
theorem fuel_c (w0 W : World) (l : List As) (db : Nat) (v : Value) (c : Cr) (i : It) (p : Int) (h : Sep w0 W (boxA db (dcs v c i p) 54 :: l)) :
    Calls Tryd.prog 23 #[pt db] W fun e W' => e = .returned (.tuple #[]) ∧ Sep w0 W' (boxA db (dcs v c i (pw0 i)) 54 :: l) := by
  have y16 : W.cell? ⟨db, 16, none⟩ = some (iv i.th) := (h.boxGet k0m).cellv 16 _ rfl
  have y20 : W.cell? ⟨db, 20, none⟩ = some (iv p) := (h.boxGet k0m).cellv 20 _ rfl
  have f20 : W.frozen? ⟨db, 20, none⟩ = false := (h.boxGet k0m).frozen 20
  have hT := clamp_c i.th (-100) 100 W
  have hb := clamp_in i.th
  have S1 := h.boxPut 20 (iv (pw0 i))
  change Sep w0 _ (boxA db (dcs v c i (pw0 i)) 54 :: l) at S1
  have e0 : clampZ i.th (-100) 100 * 4096 / 100 = pw0 i := rfl
  generalize clampZ i.th (-100) 100 = T at *
  generalize pw0 i = p1 at *
  have HS := Keep.mk S1
  have e1 : IntKind.i64.wrap (T + 100) = T + 100 := wi _ (by omega) (by omega)
  have e2 : IntKind.i64.wrap ((T + 100) * 4096) = (T + 100) * 4096 := wi _ (by omega) (by omega)
  have e3 : ((T + 100) * 4096).tdiv 100 = (T + 100) * 4096 / 100 := Int.tdiv_eq_ediv_of_nonneg (by omega)
  have e4 : IntKind.i64.wrap ((T + 100) * 4096 / 100) = (T + 100) * 4096 / 100 := wi _ (by omega) (by omega)
  have e5 : IntKind.i64.wrap ((T + 100) * 4096 / 100 - 4096) = p1 := by rw [wi _ (by omega) (by omega)]; omega
  clear h S1 e0
  go_enter Tryd.func23, Tryd.ntmps23
  go_wp2_with fail
  refine hT.mono ?_
  rintro e w1 ⟨rfl, hw⟩
  subst hw
  go_wp2_with fail
  exact end_0 rfl rfl ⟨rfl, HS.out⟩
set_option maxRecDepth 100000 in
set_option maxHeartbeats 4000000 in
theorem boost_c (w0 W : World) (l : List As) (db : Nat) (v : Value) (c : Cr) (i : It) (p : Int) (h : Sep w0 W (boxA db (dcs v c i p) 54 :: l)) (hp : -4096 ≤ p ∧ p ≤ 4096) (he : In c.en) :
    Calls Tryd.prog 24 #[pt db] W fun e W' => e = .returned (.tuple #[]) ∧ Sep w0 W' (boxA db (dcs v (stB c i) i (pwB c i p)) 54 :: l) := by
  have y19 : W.cell? ⟨db, 19, none⟩ = some (.bool i.bo) := (h.boxGet k0m).cellv 19 _ rfl
  have y9 : W.cell? ⟨db, 9, none⟩ = some (iv c.en) := (h.boxGet k0m).cellv 9 _ rfl
  by_cases hb : bst c i = true
  · have e1 : stB c i = { c with en := c.en - 4 } := by unfold stB; rw [if_pos hb]
    have e2 : pwB c i p = p * 2 := by unfold pwB; rw [if_pos hb]
    rw [e1, e2]
    unfold bst at hb
    simp only [Bool.and_eq_true, decide_eq_true_eq] at hb
    obtain ⟨hb1, hb2⟩ := hb
    rw [hb1] at y19
    have k1 : IntKind.i64.wrap (p * 2) = p * 2 := wi _ (by omega) (by omega)
    have k2 : IntKind.i64.wrap (c.en - 4) = c.en - 4 := wi _ (by omega) (by have := he.2; omega)
    have S1 := h.boxPut 20 (iv (p * 2))
    have y20 : W.cell? ⟨db, 20, none⟩ = some (iv p) := (h.boxGet k0m).cellv 20 _ rfl
    have f20 : W.frozen? ⟨db, 20, none⟩ = false := (h.boxGet k0m).frozen 20
    obtain ⟨W1, hW1⟩ : ∃ W1, W.setCell ⟨db, 20, none⟩ (iv (p * 2)) = W1 := ⟨_, rfl⟩
    rw [hW1] at S1
    have z9 : W1.cell? ⟨db, 9, none⟩ = some (iv c.en) := (S1.boxGet k0m).cellv 9 _ rfl
    have g9 : W1.frozen? ⟨db, 9, none⟩ = false := (S1.boxGet k0m).frozen 9
    have S2 := S1.boxPut 9 (iv (c.en - 4))
    have HS := Keep.mk S2
    have h4 : decide (4 ≤ c.en) = true := decide_eq_true hb2
    clear h S1 S2 hb1 e1 e2 he
    go_enter Tryd.func24, Tryd.ntmps24
    go_wp2_with fail
    exact end_0 rfl rfl ⟨rfl, HS.out⟩
  · have e1 : stB c i = c := by unfold stB; rw [if_neg hb]
    have e2 : pwB c i p = p := by unfold pwB; rw [if_neg hb]
    rw [e1, e2]
    have HS := Keep.mk h
    have hN : i.bo = false ∨ decide (4 ≤ c.en) = false := by
      unfold bst at hb
      cases h1 : i.bo
      · exact .inl rfl
      · right
        simp only [h1, Bool.true_and, decide_eq_true_eq] at hb
        exact decide_eq_false hb
    clear h hb e1 e2 he
    rcases hN with h1 | h4
    · rw [h1] at y19
      go_enter Tryd.func24, Tryd.ntmps24
      go_wp2_with fail
      exact end_0 rfl rfl ⟨rfl, HS.out⟩
    · have h4' : ¬ 4 ≤ c.en := of_decide_eq_false h4
      cases hbo : i.bo
      all_goals
        rw [hbo] at y19
        go_enter Tryd.func24, Tryd.ntmps24
        go_wp2_with fail
        exact end_0 rfl rfl ⟨rfl, HS.out⟩
theorem sub16 (x : Int) (h : -1099511627776 ≤ x ∧ x ≤ 1099511627776) : IntKind.i64.wrap (x - x / 16) = x - x / 16 := wi _ (by omega) (by omega)
set_option maxRecDepth 100000 in
set_option maxHeartbeats 4000000 in
theorem slow_c (w0 W : World) (l : List As) (db : Nat) (v : Value) (c : Cr) (i : It) (p : Int) (h : Sep w0 W (boxA db (dcs v c i p) 54 :: l)) (hx : -1099511627776 ≤ c.sx ∧ c.sx ≤ 1099511627776) (hy : -1099511627776 ≤ c.sy ∧ c.sy ≤ 1099511627776) :
    Calls Tryd.prog 26 #[pt db] W fun e W' => e = .returned (.tuple #[]) ∧ Sep w0 W' (boxA db (dcs v (stS c) i p) 54 :: l) := by
  have k1 := sub16 c.sx hx
  have k2 := sub16 c.sy hy
  have y5 : W.cell? ⟨db, 5, none⟩ = some (iv c.sx) := (h.boxGet k0m).cellv 5 _ rfl
  have f5 : W.frozen? ⟨db, 5, none⟩ = false := (h.boxGet k0m).frozen 5
  have HS1 := Keep.mk ((h.boxPut 5 (iv (c.sx - c.sx / 16))).grown (gr_drew _ none))
  clear h hx hy
  go_enter Tryd.func26, Tryd.ntmps26
  go_wp2_with fail
  go_region
  generalize (W.setCell { block := db, off := 5 } (Value.int IntKind.i64 (c.sx - c.sx / 16))).drew = W1 at HS1 ⊢
  have y6 : W1.cell? ⟨db, 6, none⟩ = some (iv c.sy) := (HS1.out.boxGet k0m).cellv 6 _ rfl
  have f6 : W1.frozen? ⟨db, 6, none⟩ = false := (HS1.out.boxGet k0m).frozen 6
  have HS := Keep.mk ((HS1.out.boxPut 6 (iv (c.sy - c.sy / 16))).grown (gr_drew _ none))
  clear HS1 y5 f5
  go_wp2_with fail
  go_region
  go_wp2_with fail
  exact end_0 rfl rfl ⟨rfl, HS.out⟩
theorem cap_eq (x : Int) : kz x (-kz 65536 0 1099511627776) (kz 65536 0 1099511627776) = kz x (-65536) 65536 := rfl
set_option maxRecDepth 100000 in
set_option maxHeartbeats 4000000 in
theorem limit_c (w0 W : World) (l : List As) (db : Nat) (v : Value) (c : Cr) (i : It) (p : Int) (h : Sep w0 W (boxA db (dcs v c i p) 54 :: l)) :
    Calls Tryd.prog 27 #[pt db] W fun e W' => e = .returned (.tuple #[]) ∧ Sep w0 W' (boxA db (dcs v (stL c) i p) 54 :: l) := by
  obtain ⟨du, hdu, hdr⟩ := underT32
  have y5 : W.cell? ⟨db, 5, none⟩ = some (iv c.sx) := (h.boxGet k0m).cellv 5 _ rfl
  have y6 : W.cell? ⟨db, 6, none⟩ = some (iv c.sy) := (h.boxGet k0m).cellv 6 _ rfl
  have hT := vcap_c c.sx c.sy 65536 W
  rw [cap_eq, cap_eq] at hT
  have HS1 := Keep.mk h
  clear h
  go_enter Tryd.func27, Tryd.ntmps27
  go_wp2_with fail
  refine hT.mono ?_
  rintro e w1 ⟨rfl, g1⟩
  have S1 := HS1.out.grown g1
  have y5 : w1.cell? ⟨db, 5, none⟩ = some (iv c.sx) := (S1.boxGet k0m).cellv 5 _ rfl
  have f5 : w1.frozen? ⟨db, 5, none⟩ = false := (S1.boxGet k0m).frozen 5
  have S2 := S1.boxPut 5 (iv (kz c.sx (-65536) 65536))
  obtain ⟨w2, hw2⟩ : ∃ w2, w1.setCell ⟨db, 5, none⟩ (iv (kz c.sx (-65536) 65536)) = w2 := ⟨_, rfl⟩
  rw [hw2] at S2
  have y6 : w2.cell? ⟨db, 6, none⟩ = some (iv c.sy) := (S2.boxGet k0m).cellv 6 _ rfl
  have f6 : w2.frozen? ⟨db, 6, none⟩ = false := (S2.boxGet k0m).frozen 6
  have z6 : w1.cell? ⟨db, 6, none⟩ = some (iv c.sy) := (S1.boxGet k0m).cellv 6 _ rfl
  have k6 : w1.frozen? ⟨db, 6, none⟩ = false := (S1.boxGet k0m).frozen 6
  have HS := Keep.mk (S2.boxPut 6 (iv (kz c.sy (-65536) 65536)))
  clear S1 S2 HS1 hT g1
  go_wp2_with fail
  exact end_0 rfl rfl ⟨rfl, HS.out⟩
end Go.Proofs.YtobdcngjpgndiabDoor.Bo
