/- ShotJumps: the walk -/
import Derived.Test.YtmacmoikjgmaoaaDoorH8
namespace Go.Proofs.YtmacmoikjgmaoaaDoor.Bo
open Go Go.RowKit

set_option maxRecDepth 100000 in
set_option maxHeartbeats 64000000 in
theorem jumps_c (w : World) (tx : ByteArray) (s : Sh) (ok : ShOk s) (hk : Kc w) :
    Calls Tryd.prog 6 #[.string tx, .agg (shv s).toArray] w fun e w' => e = .returned (.bool true) ∧ w.grownBy w' none := by
  obtain ⟨ds, hds, hdsr⟩ := underS
  have S1 := (Sep.nil w).newBox (shv s).toArray 26
  obtain ⟨W1, hW1⟩ : ∃ W1, w.alloc (.cells (shv s).toArray 26) = W1 := ⟨_, rfl⟩
  obtain ⟨sb, hsb⟩ : ∃ xb, w.heap.size = xb := ⟨_, rfl⟩
  rw [hW1, hsb] at S1
  change Sep w W1 [boxA sb (shv s) 26] at S1
  have hss : (shv s).toArray.size = 7 := rfl
  have HS := Keep.mk S1
  have HA := Keep.mk (fun W (g : w.grownBy W none) => alive_c W (hk.kept g))
  have HP := Keep.mk (fun W => parse_c W tx)
  have HKW := Keep.mk hk
  have HOK := Keep.mk ok
  clear S1 hk ok
  go_enter Tryd.func6, Tryd.ntmps6
  go_wp2_with fail
  refine (HA.out _ HS.out.g).mono ?_
  rintro e w0 ⟨rfl, g0⟩
  replace HS := Keep.mk (HS.out.grown g0)
  clear HA g0 hW1 hsb
  go_wp2_with fail
  refine (HP.out _).mono ?_
  rintro e w1 ⟨g1, h1⟩
  replace HS := Keep.mk (HS.out.grown g1)
  clear HP g1
  rcases h1 with ⟨_, rfl⟩ | ⟨_, _, rfl⟩ | ⟨_, hne, bv, rfl, hB⟩
  · go_wp2_with fail
    go_ret
    exact ⟨rfl, HS.out.g⟩
  · go_wp2_with fail
    go_ret
    exact ⟨rfl, HS.out.g⟩
  generalize lns tx = L at *
  obtain ⟨kb, _, _, hv, _⟩ := hB.o
  subst hv
  have HEV := Keep.mk hB.sh
  have HBD := Keep.mk hB
  have y2 : w1.cell? ⟨sb, 2, none⟩ = some (iv s.x) := (HS.out.boxGet k0m).cellv 2 _ rfl
  have y3 : w1.cell? ⟨sb, 3, none⟩ = some (iv s.y) := (HS.out.boxGet k0m).cellv 3 _ rfl
  have hSo := solid_c w1 (pt kb) L hB s.x s.y HOK.out.x HOK.out.y
  rw [show decide (atL L (s.x, s.y) = 35) = slid L s from rfl] at hSo
  generalize hsd : slid L s = sd at hSo
  have HSD := Keep.mk hsd
  clear hB hne hsd
  go_wp2_with fail
  refine hSo.mono ?_
  rintro e w2 ⟨rfl, g2⟩
  replace HS := Keep.mk (HS.out.grown g2)
  replace HBD := Keep.mk (HBD.out.kept g2)
  clear g2 hSo y2 y3
  cases sd
  case true =>
    go_wp2_with fail
    go_ret
    exact ⟨rfl, HS.out.g⟩
  case false =>
  have y4 : w2.cell? ⟨sb, 4, none⟩ = some (iv s.sx) := (HS.out.boxGet k0m).cellv 4 _ rfl
  have y5 : w2.cell? ⟨sb, 5, none⟩ = some (iv s.sy) := (HS.out.boxGet k0m).cellv 5 _ rfl
  by_cases a1 : 1048576 < s.sx
  · have d1 : decide (1048576 < s.sx) = true := decide_eq_true a1
    clear a1
    go_wp2_with fail
    go_ret
    exact ⟨rfl, HS.out.g⟩
  have d1 : decide (1048576 < s.sx) = false := decide_eq_false a1
  by_cases a2 : s.sx < -1048576
  · have d2 : decide (s.sx < -1048576) = true := decide_eq_true a2
    clear a1 a2
    go_wp2_with fail
    go_ret
    exact ⟨rfl, HS.out.g⟩
  have d2 : decide (s.sx < -1048576) = false := decide_eq_false a2
  by_cases a3 : 1048576 < s.sy
  · have d3 : decide (1048576 < s.sy) = true := decide_eq_true a3
    clear a1 a2 a3
    go_wp2_with fail
    go_ret
    exact ⟨rfl, HS.out.g⟩
  have d3 : decide (1048576 < s.sy) = false := decide_eq_false a3
  by_cases a4 : s.sy < -1048576
  · have d4 : decide (s.sy < -1048576) = true := decide_eq_true a4
    clear a1 a2 a3 a4
    go_wp2_with fail
    go_ret
    exact ⟨rfl, HS.out.g⟩
  have d4 : decide (s.sy < -1048576) = false := decide_eq_false a4
  have HT0 : Keep (ShOk s ∧ (-1048576 ≤ s.sx ∧ s.sx ≤ 1048576 ∧ -1048576 ≤ s.sy ∧ s.sy ≤ 1048576) ∧ slid L s = false) := ⟨HOK.out, by omega, HSD.out⟩
  clear a1 a2 a3 a4 HSD HOK
  go_wp2_with fail
  go_loopw [7] (fun u wr => ∃ (i : Nat) (t : Sh), i ≤ 60 ∧ u = iv i ∧ Keep (ShOk t ∧ (-1048576 ≤ t.sx ∧ t.sx ≤ 1048576 ∧ -1048576 ≤ t.sy ∧ t.sy ≤ 1048576) ∧ slid L t = false) ∧ Keep (Sep w wr [boxA sb (shv t) 26]) ∧ Keep (Bd wr (pt kb) L)) (fun u _ => (60 - intOf u).toNat)
  case atStart => exact ⟨0, s, by omega, rfl, HT0, HS, HBD⟩
  case round =>
    clear HS HBD HT0 y4 y5 d1 d2 d3 d4
    obtain ⟨i, t, hi0, rfl, HT, HS, HBD⟩ := hrel
    by_cases h60 : i < 60
    · have hi6 : (i : Int) < 60 := by omega
      have hdi : decide ((i : Int) < 60) = true := decide_eq_true hi6
      have hi1 : IntKind.i64.wrap ((i : Int) + 1) = ((i + 1 : Nat) : Int) := by rw [wi _ (by omega) (by omega)]; omega
      have HI6 := Keep.mk h60
      have y6 : wr.cell? ⟨sb, 6, none⟩ = some (iv t.lf) := (HS.out.boxGet k0m).cellv 6 _ rfl
      by_cases hlf : 1 < t.lf
      · have hdl : decide (1 < t.lf) = true := decide_eq_true hlf
        have HLF := Keep.mk hlf
        have HMO := Keep.mk (move_c wr kb L (.slice none 0 0) [] t HBD.out (crs_nil wr) HT.out.1 (HKW.out.kept HS.out.g))
        obtain ⟨x, hx⟩ : ∃ r, (mov L [] t).1 = r := ⟨_, rfl⟩
        obtain ⟨h, hh⟩ : ∃ r, (mov L [] t).2.1 = r := ⟨_, rfl⟩
        obtain ⟨on, hon⟩ : ∃ r, (mov L [] t).2.2 = r := ⟨_, rfl⟩
        have HXO := Keep.mk (mov_ok (L := L) (cs := []) HT.out.1)
        have HXS := Keep.mk (mov_sm L [] t)
        rw [hx, hh, hon] at HMO
        rw [hx] at HXO HXS
        have HM : Keep (mov L [] t = (x, h, on)) := ⟨by rw [← hx, ← hh, ← hon]⟩
        have HX : Keep (Has wr sb (shv t) 26) := ⟨HS.out.boxGet k0m⟩
        have RN3 := Keep.mk HX.out.range
        clear hx hh hon h60 hlf hi6
        go_wp2_with (first
          | (show wpList _ _ _ ({ dst := _, op := Op.load 26 (Operand.tmp 3), type := _, pos := _, after := _, guard := _ } :: _) _ _
             refine load_g (by rfl) 26 _ rfl _ _ rfl _ _ RN3.out hds hdsr (infoS' t) ?_))
        refine HMO.out.mono ?_
        rintro e w3 ⟨rfl, g_⟩
        have HB := Keep.mk ((Sep.start g_).newBox zS7.toArray 26)
        clear g_ HMO RN3 y6
        obtain ⟨w4, hw4⟩ : ∃ W_, w3.alloc (.cells zS7.toArray 26) = W_ := ⟨_, rfl⟩
        obtain ⟨xb, hxb⟩ : ∃ b_, w3.heap.size = b_ := ⟨_, rfl⟩
        rw [hw4, hxb] at HB
        rw [zS7_lit] at hw4
        change Keep (Sep wr w4 [boxA xb zS7 26]) at HB
        have HX_ := Keep.mk (HB.out.boxGet k0m)
        have HO_ := Keep.mk (shv_one x)
        go_wp2_with (first
          | (show wpList _ _ _ ({ dst := _, op := Op.store 26 (Operand.tmp 8) _, type := _, pos := _, after := _, guard := _ } :: _) _ _
             refine store_at _ xb 0 zS7 (shv x) 26 26 rfl rfl rfl rfl HX_.out (Nat.le_refl _) (infoS' x) HO_.out ?_))
        intro w5 hS_ g_
        have S_ := hS_ _ _ HB.out
        rw [over_all zS7 (shv x) rfl] at S_
        change Sep wr w5 [boxA xb (shv x) 26] at S_
        have y2 : w5.cell? ⟨sb, 2, none⟩ = some (iv t.x) := (HX.out.kept S_.g (by simp)).cellv 2 _ rfl
        have y3 : w5.cell? ⟨sb, 3, none⟩ = some (iv t.y) := (HX.out.kept S_.g (by simp)).cellv 3 _ rfl
        have S6 := S_.newBox #[iv t.x, iv t.y] 24
        obtain ⟨w6, hw6⟩ : ∃ W_, w5.alloc (.cells #[iv t.x, iv t.y] 24) = W_ := ⟨_, rfl⟩
        obtain ⟨ab, hab⟩ : ∃ b_, w5.heap.size = b_ := ⟨_, rfl⟩
        rw [hw6, hab] at S6
        change Sep wr w6 [boxA ab [iv t.x, iv t.y] 24, boxA xb (shv x) 26] at S6
        replace HB := Keep.mk S6
        clear S_ S6 hS_ g_ HX_ HO_
        go_wp2_with fail
        rename World => wo
        go_loopw [12, 13] (fun u12 u13 ws => ∃ (k : Nat) (q : Sh) (e : Bool), k ≤ 4 ∧ u12 = .bool e ∧ u13 = iv k ∧ Keep (ShOk q ∧ Sm t q ∧ (e = false → fly L [] 4 t = fly L [] (4 - k) q ∧ slid L q = false ∧ q.lf = t.lf) ∧ (e = true → fly L [] 4 t = (q, some (-1)))) ∧ Keep (Sep wr ws [boxA ab [iv q.x, iv q.y] 24, boxA xb (shv x) 26])) (fun _ u _ => (4 - intOf u).toNat)
        case atStart => exact ⟨0, t, false, by omega, rfl, rfl, ⟨HT.out.1, Sm.refl t, fun _ => ⟨rfl, HT.out.2.2, rfl⟩, fun e => by cases e⟩, HB⟩
        case round =>
          clear HB hw4 hxb hw6 hab y2 y3
          obtain ⟨k, q, e, hk4, rfl, rfl, HQ, HB⟩ := hrel
          rename World => ws
          cases e
          case true =>
            have HE : Keep ((x, h, on) = (q, (-1 : Int), false)) := ⟨by rw [← HM.out, mov, HQ.out.2.2.2 rfl]; rfl⟩
            obtain ⟨e1, e2, e3⟩ : x = q ∧ h = -1 ∧ on = false := by
              have := HE.out
              injection this with q1 q2
              injection q2 with q2 q3
              exact ⟨q1, q2, q3⟩
            subst e1 e2 e3
            have p0 : ws.cell? ⟨ab, 0, none⟩ = some (iv x.x) := (HB.out.boxGet k0m).cellv 0 _ rfl
            have p1 : ws.cell? ⟨ab, 1, none⟩ = some (iv x.y) := (HB.out.boxGet k0m).cellv 1 _ rfl
            have p2 : ws.cell? ⟨xb, 2, none⟩ = some (iv x.x) := (HB.out.boxGet k1m).cellv 2 _ rfl
            have p3 : ws.cell? ⟨xb, 3, none⟩ = some (iv x.y) := (HB.out.boxGet k1m).cellv 3 _ rfl
            have hEV := fun w => eq24 x.x x.y w
            have HGG : Keep (w.grownBy ws none) := ⟨HS.out.g.trans HB.out.g⟩
            by_cases hlt : k < 4
            · have hdk : decide ((k : Int) < 4) = true := decide_eq_true (by omega)
              go_wp2_with fail
              go_ret
              exact ⟨rfl, HGG.out⟩
            · have hdk : decide ((k : Int) < 4) = false := decide_eq_false (by omega)
              go_wp2_with fail
              go_ret
              exact ⟨rfl, HGG.out⟩
          case false =>
          by_cases hlt : k < 4
          · have hki : (k : Int) < 4 := by omega
            have hdk : decide ((k : Int) < 4) = true := decide_eq_true hki
            have hk1 : IntKind.i64.wrap ((k : Int) + 1) = ((k + 1 : Nat) : Int) := by rw [wi _ (by omega) (by omega)]; omega
            have HK := Keep.mk (And.intro hlt hk4)
            clear hlt hk4 hki
            have p0 : ws.cell? ⟨ab, 0, none⟩ = some (iv q.x) := (HB.out.boxGet k0m).cellv 0 _ rfl
            have p1 : ws.cell? ⟨ab, 1, none⟩ = some (iv q.y) := (HB.out.boxGet k0m).cellv 1 _ rfl
            have p4 : ws.cell? ⟨sb, 4, none⟩ = some (iv t.sx) := (HX.out.kept HB.out.g (by simp)).cellv 4 _ rfl
            have p5 : ws.cell? ⟨sb, 5, none⟩ = some (iv t.sy) := (HX.out.kept HB.out.g (by simp)).cellv 5 _ rfl
            have hA := vadd_c q.x q.y (t.sx / 4) (t.sy / 4) HQ.out.1.x HQ.out.1.y (div4_in HT.out.1.sx) (div4_in HT.out.1.sy) ws
            have HN : Keep (nxt q = { q with x := addZ q.x (t.sx / 4), y := addZ q.y (t.sy / 4) }) := ⟨by unfold nxt; rw [HQ.out.2.1.sx, HQ.out.2.1.sy]⟩
            obtain ⟨hF1, hF2, hF3⟩ := HQ.out.2.2.1 rfl
            have hin := free_in HEV.out hF2
            have HNX : Keep (-1 ≤ addZ q.x (t.sx / 4) / 524288 - q.x / 524288 ∧ addZ q.x (t.sx / 4) / 524288 - q.x / 524288 ≤ 1) := ⟨near1 hin.1 (by have := HT.out.2.1; omega)⟩
            have HNY : Keep (-1 ≤ addZ q.y (t.sy / 4) / 524288 - q.y / 524288 ∧ addZ q.y (t.sy / 4) / 524288 - q.y / 524288 ≤ 1) := ⟨near1 hin.2 (by have := HT.out.2.1; omega)⟩
            have HF := Keep.mk (And.intro hF1 hF3)
            clear hF1 hF2 hF3 hin
            obtain ⟨px, hpx⟩ : ∃ p, addZ q.x (t.sx / 4) = p := ⟨_, rfl⟩
            obtain ⟨py, hpy⟩ : ∃ p, addZ q.y (t.sy / 4) = p := ⟨_, rfl⟩
            rw [hpx] at hA HN HNX
            rw [hpy] at hA HN HNY
            clear hpx hpy
            obtain ⟨t1, ht1⟩ : ∃ t1 : Sh, ({ q with x := px, y := py } : Sh) = t1 := ⟨_, rfl⟩
            have HP : Keep (t1.x = px ∧ t1.y = py) := ⟨by rw [← ht1]; exact ⟨rfl, rfl⟩⟩
            rw [ht1] at HN
            have HT1 : Keep (ShOk t1 ∧ Sm t t1 ∧ t1.lf = t.lf) := ⟨by rw [← HN.out]; exact ⟨nxt_ok HQ.out.1, nxt_sm HQ.out.2.1, HF.out.2⟩⟩
            obtain ⟨rfl, rfl⟩ : t1.x = px ∧ t1.y = py := HP.out
            clear ht1 HP
            go_wp2_with fail
            refine hA.mono ?_
            rintro e w7 ⟨rfl, g_⟩
            replace HB := Keep.mk (HB.out.grown g_)
            clear g_ hA p0 p1 p4 p5
            have S8 := HB.out.newBox #[iv t1.x, iv t1.y] 24
            obtain ⟨w8, hw8⟩ : ∃ W_, w7.alloc (.cells #[iv t1.x, iv t1.y] 24) = W_ := ⟨_, rfl⟩
            obtain ⟨tb, htb⟩ : ∃ b_, w7.heap.size = b_ := ⟨_, rfl⟩
            rw [hw8, htb] at S8
            change Sep wr w8 (boxA tb [iv t1.x, iv t1.y] 24 :: [boxA ab [iv q.x, iv q.y] 24, boxA xb (shv x) 26]) at S8
            replace HB := Keep.mk S8
            clear S8
            have HC1 := Keep.mk (fun W => cellz_c W t1.x HT1.out.1.x)
            have HC0 := Keep.mk (fun W => cellz_c W q.x HQ.out.1.x)
            have HE1 := Keep.mk (fun W => cellz_c W t1.y HT1.out.1.y)
            have HE0 := Keep.mk (fun W => cellz_c W q.y HQ.out.1.y)
            generalize t1.x / 524288 = z1 at *
            generalize q.x / 524288 = z0 at *
            generalize t1.y / 524288 = z3 at *
            generalize q.y / 524288 = z2 at *
            obtain ⟨dx, hdx⟩ : ∃ d, z1 - z0 = d := ⟨_, rfl⟩
            obtain ⟨dy, hdy⟩ : ∃ d, z3 - z2 = d := ⟨_, rfl⟩
            rw [hdx] at HNX
            rw [hdy] at HNY
            have HDX : Keep (IntKind.i64.wrap (z1 - z0) = dx) := ⟨by rw [hdx]; exact wi _ (by have := HNX.out; omega) (by have := HNX.out; omega)⟩
            have HDY : Keep (IntKind.i64.wrap (z3 - z2) = dy) := ⟨by rw [hdy]; exact wi _ (by have := HNY.out; omega) (by have := HNY.out; omega)⟩
            clear hdx hdy
            go_wp2_with fail
            obtain ⟨wq, hwq⟩ : ∃ wq, w8 = wq := ⟨_, rfl⟩
            rw [hwq] at HB
            rw [show Code.wp Tryd.prog _ _ _ w8 = Code.wp Tryd.prog _ _ _ wq from by rw [hwq]]
            clear hwq hw8 htb
            refine region_X (S := fun w' => Sep wr w' (boxA tb [iv t1.x, iv t1.y] 24 :: [boxA ab [iv q.x, iv q.y] 24, boxA xb (shv x) 26])) [] (by kernel_rfl) (HB.out.grown (gr_drew _ _)) (fun hHeld => ?_)
            replace HB := Keep.mk hHeld
            obtain ⟨W0, hW0⟩ : ∃ W_, wq.drew = W_ := ⟨_, rfl⟩
            rw [hW0] at HB hHeld ⊢
            clear hW0
            refine wpAnyX_take (i := 0) (oi := _) (v := ?_) rfl (by kernel_rfl) (by kernel_rfl) (by kernel_rfl) (by kernel_rfl) (by kernel_rfl) (fun _ _ _ h => h) (Or.inl ⟨by rfl, ?_⟩) (by assumption) ?_
            rotate_left
            · (intro w hSw; go_simp; first | done | (with_reducible rfl))
            simp only [Act.put, List.getElem_toArray, List.getElem_cons_zero, List.setIfInBounds_toArray, List.set_cons_zero, List.set_cons_succ]
            refine wpAnyX_take (i := 1) (oi := _) (v := ?_) rfl (by kernel_rfl) (by kernel_rfl) (by kernel_rfl) (by kernel_rfl) (by kernel_rfl) (fun _ _ _ h => h) (Or.inl ⟨by rfl, ?_⟩) (by assumption) ?_
            rotate_left
            · (intro w hSw; have q0 := (hSw.boxGet k0m).cellv 0 _ rfl; go_simp; first | done | (with_reducible rfl))
            simp only [Act.put, List.getElem_toArray, List.getElem_cons_succ, List.getElem_cons_zero, List.setIfInBounds_toArray, List.set_cons_zero, List.set_cons_succ]
            refine wpAnyX_take (i := 3) (oi := _) (v := ?_) rfl (by kernel_rfl) (by kernel_rfl) (by kernel_rfl) (by kernel_rfl) (by kernel_rfl) (fun _ _ _ h => h) (Or.inl ⟨by rfl, ?_⟩) (by assumption) ?_
            rotate_left
            · (intro w hSw; go_simp; first | done | (with_reducible rfl))
            simp only [Act.put, List.getElem_toArray, List.getElem_cons_succ, List.getElem_cons_zero, List.setIfInBounds_toArray, List.set_cons_zero, List.set_cons_succ]
            refine wpAnyX_take (i := 4) (oi := _) (v := ?_) rfl (by kernel_rfl) (by kernel_rfl) (by kernel_rfl) (by kernel_rfl) (by kernel_rfl) (fun _ _ _ h => h) (Or.inl ⟨by rfl, ?_⟩) (by assumption) ?_
            rotate_left
            · (intro w hSw; have q0 := (hSw.boxGet k1m).cellv 0 _ rfl; go_simp; first | done | (with_reducible rfl))
            simp only [Act.put, List.getElem_toArray, List.getElem_cons_succ, List.getElem_cons_zero, List.setIfInBounds_toArray, List.set_cons_zero, List.set_cons_succ]
            refine wpAnyX_one (i := 2) (by kernel_rfl) rfl (fun K hK => ?_)
            go_simp
            refine (HC1.out _).mono ?_
            rintro e wg1 ⟨rfl, hg⟩
            replace HB := Keep.mk (HB.out.grown hg)
            refine hK.out _ _ HB.out (fun hHeld => ?_)
            clear hK K hg
            refine wpAnyX_one (i := 5) (by kernel_rfl) rfl (fun K hK => ?_)
            go_simp
            refine (HC0.out _).mono ?_
            rintro e wg2 ⟨rfl, hg⟩
            replace HB := Keep.mk (HB.out.grown hg)
            refine hK.out _ _ HB.out (fun hHeld => ?_)
            clear hK K hg
            refine wpAnyX_take (i := 6) (oi := _) (v := ?_) rfl (by kernel_rfl) (by kernel_rfl) (by kernel_rfl) (by kernel_rfl) (by kernel_rfl) (fun _ _ _ h => h) (Or.inl ⟨by rfl, ?_⟩) (by assumption) ?_
            rotate_left
            · (intro w hSw; have q0 := HDX.out; go_simp; first | done | (with_reducible rfl))
            simp only [Act.put, List.getElem_toArray, List.getElem_cons_succ, List.getElem_cons_zero, List.setIfInBounds_toArray, List.set_cons_zero, List.set_cons_succ]
            refine wpAnyX_take (i := 7) (oi := _) (v := ?_) rfl (by kernel_rfl) (by kernel_rfl) (by kernel_rfl) (by kernel_rfl) (by kernel_rfl) (fun _ _ _ h => h) (Or.inl ⟨by rfl, ?_⟩) (by assumption) ?_
            rotate_left
            · (intro w hSw; go_simp; first | done | (with_reducible rfl))
            simp only [Act.put, List.getElem_toArray, List.getElem_cons_succ, List.getElem_cons_zero, List.setIfInBounds_toArray, List.set_cons_zero, List.set_cons_succ]
            refine wpAnyX_done (by kernel_rfl) ?_ _
            clear hHeld
            go_wp2_with fail
            clear HC1 HC0 HDX
            obtain ⟨wq2, hwq⟩ : ∃ wq, wg2 = wq := ⟨_, rfl⟩
            rw [hwq] at HB
            rw [show Code.wp Tryd.prog _ _ _ wg2 = Code.wp Tryd.prog _ _ _ wq2 from by rw [hwq]]
            clear hwq
            refine region_X (S := fun w' => Sep wr w' (boxA tb [iv t1.x, iv t1.y] 24 :: [boxA ab [iv q.x, iv q.y] 24, boxA xb (shv x) 26])) [] (by kernel_rfl) (HB.out.grown (gr_drew _ _)) (fun hHeld => ?_)
            replace HB := Keep.mk hHeld
            obtain ⟨W9, hW9⟩ : ∃ W_, wq2.drew = W_ := ⟨_, rfl⟩
            rw [hW9] at HB hHeld ⊢
            clear hW9
            refine wpAnyX_take (i := 0) (oi := _) (v := ?_) rfl (by kernel_rfl) (by kernel_rfl) (by kernel_rfl) (by kernel_rfl) (by kernel_rfl) (fun _ _ _ h => h) (Or.inl ⟨by rfl, ?_⟩) (by assumption) ?_
            rotate_left
            · (intro w hSw; go_simp; first | done | (with_reducible rfl))
            simp only [Act.put, List.getElem_toArray, List.getElem_cons_zero, List.setIfInBounds_toArray, List.set_cons_zero, List.set_cons_succ]
            refine wpAnyX_take (i := 1) (oi := _) (v := ?_) rfl (by kernel_rfl) (by kernel_rfl) (by kernel_rfl) (by kernel_rfl) (by kernel_rfl) (fun _ _ _ h => h) (Or.inl ⟨by rfl, ?_⟩) (by assumption) ?_
            rotate_left
            · (intro w hSw; have q0 := (hSw.boxGet k0m).cellv 1 _ rfl; go_simp; first | done | (with_reducible rfl))
            simp only [Act.put, List.getElem_toArray, List.getElem_cons_succ, List.getElem_cons_zero, List.setIfInBounds_toArray, List.set_cons_zero, List.set_cons_succ]
            refine wpAnyX_take (i := 3) (oi := _) (v := ?_) rfl (by kernel_rfl) (by kernel_rfl) (by kernel_rfl) (by kernel_rfl) (by kernel_rfl) (fun _ _ _ h => h) (Or.inl ⟨by rfl, ?_⟩) (by assumption) ?_
            rotate_left
            · (intro w hSw; go_simp; first | done | (with_reducible rfl))
            simp only [Act.put, List.getElem_toArray, List.getElem_cons_succ, List.getElem_cons_zero, List.setIfInBounds_toArray, List.set_cons_zero, List.set_cons_succ]
            refine wpAnyX_take (i := 4) (oi := _) (v := ?_) rfl (by kernel_rfl) (by kernel_rfl) (by kernel_rfl) (by kernel_rfl) (by kernel_rfl) (fun _ _ _ h => h) (Or.inl ⟨by rfl, ?_⟩) (by assumption) ?_
            rotate_left
            · (intro w hSw; have q0 := (hSw.boxGet k1m).cellv 1 _ rfl; go_simp; first | done | (with_reducible rfl))
            simp only [Act.put, List.getElem_toArray, List.getElem_cons_succ, List.getElem_cons_zero, List.setIfInBounds_toArray, List.set_cons_zero, List.set_cons_succ]
            refine wpAnyX_one (i := 2) (by kernel_rfl) rfl (fun K hK => ?_)
            go_simp
            refine (HE1.out _).mono ?_
            rintro e wh1 ⟨rfl, hg⟩
            replace HB := Keep.mk (HB.out.grown hg)
            refine hK.out _ _ HB.out (fun hHeld => ?_)
            clear hK K hg
            refine wpAnyX_one (i := 5) (by kernel_rfl) rfl (fun K hK => ?_)
            go_simp
            refine (HE0.out _).mono ?_
            rintro e wh2 ⟨rfl, hg⟩
            replace HB := Keep.mk (HB.out.grown hg)
            refine hK.out _ _ HB.out (fun hHeld => ?_)
            clear hK K hg
            refine wpAnyX_take (i := 6) (oi := _) (v := ?_) rfl (by kernel_rfl) (by kernel_rfl) (by kernel_rfl) (by kernel_rfl) (by kernel_rfl) (fun _ _ _ h => h) (Or.inl ⟨by rfl, ?_⟩) (by assumption) ?_
            rotate_left
            · (intro w hSw; have q0 := HDY.out; go_simp; first | done | (with_reducible rfl))
            simp only [Act.put, List.getElem_toArray, List.getElem_cons_succ, List.getElem_cons_zero, List.setIfInBounds_toArray, List.set_cons_zero, List.set_cons_succ]
            refine wpAnyX_take (i := 7) (oi := _) (v := ?_) rfl (by kernel_rfl) (by kernel_rfl) (by kernel_rfl) (by kernel_rfl) (by kernel_rfl) (fun _ _ _ h => h) (Or.inl ⟨by rfl, ?_⟩) (by assumption) ?_
            rotate_left
            · (intro w hSw; go_simp; first | done | (with_reducible rfl))
            simp only [Act.put, List.getElem_toArray, List.getElem_cons_succ, List.getElem_cons_zero, List.setIfInBounds_toArray, List.set_cons_zero, List.set_cons_succ]
            refine wpAnyX_done (by kernel_rfl) ?_ _
            clear hHeld
            clear HE1 HE0 HDY
            have d1 : decide (1 < dx) = false := decide_eq_false (by have := HNX.out; omega)
            have d2 : decide (dx < -1) = false := decide_eq_false (by have := HNX.out; omega)
            have d3 : decide (1 < dy) = false := decide_eq_false (by have := HNY.out; omega)
            have d4 : decide (dy < -1) = false := decide_eq_false (by have := HNY.out; omega)
            obtain ⟨w9, hw9⟩ : ∃ w9, wh2 = w9 := ⟨_, rfl⟩
            have a0 : wh2.cell? ⟨tb, 0, none⟩ = some (iv t1.x) := (HB.out.boxGet k0m).cellv 0 _ rfl
            have a1 : wh2.cell? ⟨tb, 1, none⟩ = some (iv t1.y) := (HB.out.boxGet k0m).cellv 1 _ rfl
            have b0 : wh2.cell? ⟨ab, 0, none⟩ = some (iv q.x) := (HB.out.boxGet k1m).cellv 0 _ rfl
            have b1 : wh2.cell? ⟨ab, 1, none⟩ = some (iv q.y) := (HB.out.boxGet k1m).cellv 1 _ rfl
            have f0 : wh2.frozen? ⟨ab, 0, none⟩ = false := (HB.out.boxGet k1m).frozen 0
            have f1 : wh2.frozen? ⟨ab, 1, none⟩ = false := (HB.out.boxGet k1m).frozen 1
            have S2 := HB.out.tail.boxPut 0 (iv t1.x)
            clear hw9
            obtain ⟨w10, hw10⟩ : ∃ w4, wh2.setCell ⟨ab, 0, none⟩ (iv t1.x) = w4 := ⟨_, rfl⟩
            rw [hw10] at S2
            have b1' : w10.cell? ⟨ab, 1, none⟩ = some (iv q.y) := (S2.boxGet k0m).cellv 1 _ rfl
            have f1' : w10.frozen? ⟨ab, 1, none⟩ = false := (S2.boxGet k0m).frozen 1
            have S3 := S2.boxPut 1 (iv t1.y)
            obtain ⟨w11, hw11⟩ : ∃ w4, w10.setCell ⟨ab, 1, none⟩ (iv t1.y) = w4 := ⟨_, rfl⟩
            rw [hw11] at S3
            change Sep wr w11 [boxA ab [iv t1.x, iv t1.y] 24, boxA xb (shv x) 26] at S3
            replace HB := Keep.mk S3
            have q2 : w11.cell? ⟨ab, 0, none⟩ = some (iv t1.x) := (HB.out.boxGet k0m).cellv 0 _ rfl
            have q3 : w11.cell? ⟨ab, 1, none⟩ = some (iv t1.y) := (HB.out.boxGet k0m).cellv 1 _ rfl
            have hSo := solid_c w11 (pt kb) L (HBD.out.kept HB.out.g) t1.x t1.y HT1.out.1.x HT1.out.1.y
            have HSL : Keep (decide (atL L (t1.x, t1.y) = 35) = slid L (nxt q)) := ⟨by rw [HN.out]; rfl⟩
            rw [HSL.out] at hSo
            clear S2 S3 HSL
            generalize hsd : slid L (nxt q) = sd at hSo
            have HSD := Keep.mk hsd
            clear hsd
            go_wp2_with fail
            refine hSo.mono ?_
            rintro e w12 ⟨rfl, g_⟩
            replace HB := Keep.mk (HB.out.grown g_)
            clear g_ hSo a0 a1 b0 b1 f0 f1 b1' f1' q2 q3 hw10 hw11 d1 d2 d3 d4
            have HQ2 : Keep (ShOk t1 ∧ Sm t t1 ∧ (sd = false → fly L [] 4 t = fly L [] (4 - (k + 1)) t1 ∧ slid L t1 = false ∧ t1.lf = t.lf) ∧ (sd = true → fly L [] 4 t = (t1, some (-1)))) := ⟨HT1.out.1, HT1.out.2.1, fun e => by
                rw [HF.out.1, show 4 - k = (4 - (k + 1)) + 1 by have := HK.out.1; omega, fly_on (by rw [HSD.out, e]) rfl, HN.out]
                exact ⟨rfl, by rw [← HN.out, HSD.out, e], HT1.out.2.2⟩, fun e => by
                rw [HF.out.1, show 4 - k = (3 - k) + 1 by have := HK.out.1; omega, fly_wall (by rw [HSD.out, e]), HN.out]⟩
            go_wp2_with fail
            go_roundw
            case rel => exact ⟨k + 1, t1, sd, by have := HK.out.1; omega, rfl, rfl, HQ2, HB⟩
            case measure => have := HK.out.1; simp [intOf]; omega
          · have hki : ¬ (k : Int) < 4 := by omega
            have hdk : decide ((k : Int) < 4) = false := decide_eq_false hki
            obtain ⟨hF1, hF2, hF3⟩ := HQ.out.2.2.1 rfl
            have HE : Keep ((x, h, on) = fin q none) := ⟨by rw [← HM.out, mov, hF1, show 4 - k = 0 by omega]; rfl⟩
            have hwl : w64 (q.lf - 1) = t.lf - 1 := by rw [hF3]; exact wi _ (by have := HLF.out; omega) (by have := HT.out.1.lf.2; omega)
            obtain ⟨e1, e2, e3⟩ : x = { q with lf := t.lf - 1 } ∧ h = -1 ∧ on = true := by
              have := HE.out
              rw [fin, hwl] at this
              injection this with q1 q2
              injection q2 with q2 q3
              exact ⟨q1, q2, by rw [q3]; exact decide_eq_true (by have := HLF.out; omega)⟩
            have HXX : Keep (x.x = q.x ∧ x.y = q.y ∧ slid L x = false) := ⟨by rw [e1]; exact ⟨rfl, rfl, hF2⟩⟩
            subst e2 e3
            have HTX : Keep (ShOk x ∧ (-1048576 ≤ x.sx ∧ x.sx ≤ 1048576 ∧ -1048576 ≤ x.sy ∧ x.sy ≤ 1048576) ∧ slid L x = false) := ⟨HXO.out, by have := HXS.out; rw [this.sx, this.sy]; exact HT.out.2.1, HXX.out.2.2⟩
            clear e1 hF1 hF2 hF3 hwl HE
            have p0 : ws.cell? ⟨ab, 0, none⟩ = some (iv x.x) := HXX.out.1 ▸ (HB.out.boxGet k0m).cellv 0 _ rfl
            have p1 : ws.cell? ⟨ab, 1, none⟩ = some (iv x.y) := HXX.out.2.1 ▸ (HB.out.boxGet k0m).cellv 1 _ rfl
            have p2 : ws.cell? ⟨xb, 2, none⟩ = some (iv x.x) := (HB.out.boxGet k1m).cellv 2 _ rfl
            have p3 : ws.cell? ⟨xb, 3, none⟩ = some (iv x.y) := (HB.out.boxGet k1m).cellv 3 _ rfl
            have hEV := fun w => eq24 x.x x.y w
            have hSo := solid_c ws (pt kb) L (HBD.out.kept HB.out.g) x.x x.y HXO.out.x HXO.out.y
            rw [show decide (atL L (x.x, x.y) = 35) = false from HXX.out.2.2] at hSo
            go_wp2_with fail
            refine hSo.mono ?_
            rintro e w7 ⟨rfl, g_⟩
            replace HB := Keep.mk (HB.out.grown g_)
            clear g_ hSo p0 p1 p2 p3 hEV
            have RN8 := Keep.mk (HB.out.boxGet k1m).range
            have HS2 := Keep.mk (HS.out.grown HB.out.g)
            have HBD2 := Keep.mk (HBD.out.kept HB.out.g)
            have HX_ := Keep.mk (HS2.out.boxGet k0m)
            have HO_ := Keep.mk (shv_one x)
            go_wp2_with (first
              | (show wpList _ _ _ ({ dst := _, op := Op.load 26 (Operand.tmp 8), type := _, pos := _, after := _, guard := _ } :: _) _ _
                 refine load_g (by rfl) 26 _ rfl _ _ rfl _ _ RN8.out hds hdsr (infoS' x) ?_)
              | (show wpList _ _ _ ({ dst := _, op := Op.store 26 (Operand.tmp 3) _, type := _, pos := _, after := _, guard := _ } :: _) _ _
                 refine store_at _ sb 0 (shv t) (shv x) 26 26 rfl rfl rfl rfl HX_.out (Nat.le_refl _) (infoS' x) HO_.out ?_))
            intro w9 hS_ g_
            have S_ := hS_ _ _ HS2.out
            rw [over_all (shv t) (shv x) rfl] at S_
            have HS3 := Keep.mk S_
            have HBD3 := Keep.mk (HBD2.out.keptX HX_.out g_)
            clear S_ hS_ g_ HX_ HO_ RN8 HS2 HBD2
            go_wp2_with fail
            go_roundw
            case rel => exact ⟨i + 1, x, by have := HI6.out; omega, rfl, HTX, HS3, HBD3⟩
            case measure => have := HI6.out; simp [intOf]; omega
      · have hdl : decide (1 < t.lf) = false := decide_eq_false hlf
        go_wp2_with fail
        go_ret
        exact ⟨rfl, HS.out.g⟩
    · have hi6 : ¬ (i : Int) < 60 := by omega
      have hdi : decide ((i : Int) < 60) = false := decide_eq_false hi6
      go_wp2_with fail
      go_ret
      exact ⟨rfl, HS.out.g⟩
end Go.Proofs.YtmacmoikjgmaoaaDoor.Bo
