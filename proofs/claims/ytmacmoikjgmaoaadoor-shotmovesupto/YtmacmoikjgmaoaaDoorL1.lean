/- ShotFlies: the walk -/
import Derived.Test.YtmacmoikjgmaoaaDoorH5
namespace Go.Proofs.YtmacmoikjgmaoaaDoor.Bo
open Go Go.RowKit

theorem lz_neg (a b m : Int) (h : 0 ≤ m) : lz a b m = -(lz b a m) := by unfold lz kz; omega
theorem d2_comm (a b c d : Int) : d2 a b c d = d2 c d a b := by
  unfold d2
  rw [lz_neg a c _ (by decide), lz_neg b d _ (by decide), Int.neg_mul_neg, Int.neg_mul_neg]
/-- what stays of a shot -/
structure Sm (s t : Sh) : Prop where
  id : t.id = s.id
  pl : t.pl = s.pl
  sx : t.sx = s.sx
  sy : t.sy = s.sy
theorem Sm.refl (s : Sh) : Sm s s := ⟨rfl, rfl, rfl, rfl⟩
theorem nxt_sm {s t : Sh} (h : Sm s t) : Sm s (nxt t) := ⟨h.id, h.pl, h.sx, h.sy⟩
theorem fly_sm (L : Bo) (cs : List Cr) (s : Sh) : ∀ (n : Nat) {t : Sh}, Sm s t → Sm s (fly L cs n t).1
  | 0, _, h => h
  | n + 1, t, h => by
    unfold fly
    split
    · exact nxt_sm h
    · split
      · exact nxt_sm h
      · exact fly_sm L cs s n (nxt_sm h)
theorem mov_sm (L : Bo) (cs : List Cr) (s : Sh) : Sm s (mov L cs s).1 := by
  have q := fly_sm L cs s 4 (Sm.refl s)
  unfold mov
  generalize (fly L cs 4 s).2 = o
  cases o with
  | some i => exact q
  | none => exact ⟨q.id, q.pl, q.sx, q.sy⟩
theorem fly_rng (L : Bo) (cs : List Cr) : ∀ (n : Nat) (t : Sh) (h : Int), (fly L cs n t).2 = some h → -1 ≤ h ∧ h < cs.length
  | 0, _, _, q => by cases q
  | n + 1, t, h, q => by
    unfold fly at q
    split at q
    · cases q; omega
    · split at q
      · rename_i i hi
        cases q
        have := (List.findIdx?_eq_some_iff_getElem.1 hi).1
        omega
      · exact fly_rng L cs n (nxt t) h q
theorem mov_rng (L : Bo) (cs : List Cr) (s : Sh) : -1 ≤ (mov L cs s).2.1 ∧ (mov L cs s).2.1 < cs.length ∧ ((mov L cs s).2.2 = true → (mov L cs s).2.1 = -1) := by
  have q := fly_rng L cs 4 s
  unfold mov
  generalize (fly L cs 4 s).2 = o at q
  cases o with
  | some i => exact ⟨(q i rfl).1, (q i rfl).2, fun e => by cases e⟩
  | none => exact ⟨by show (-1 : Int) ≤ -1; omega, by show (-1 : Int) < _; omega, fun _ => rfl⟩
set_option maxRecDepth 100000 in
set_option maxHeartbeats 64000000 in
theorem flies_c (w : World) (tx : ByteArray) (cv : Value) (cs : List Cr) (s : Sh) (hC : Crs w cv cs) (ok : ShOk s) (hk : Kc w) :
    Calls Tryd.prog 3 #[.string tx, cv, .agg (shv s).toArray] w fun e w' => e = .returned (.bool true) ∧ w.grownBy w' none := by
  obtain ⟨du, hdu, hdr⟩ := underC
  obtain ⟨ds, hds, hdsr⟩ := underS
  have hh := Has.newA w (shv s).toArray 26
  have hg0 : w.grownBy (w.alloc (.cells (shv s).toArray 26)) none := World.grownBy_alloc _ _ _
  obtain ⟨W1, hW1⟩ : ∃ W1, w.alloc (.cells (shv s).toArray 26) = W1 := ⟨_, rfl⟩
  obtain ⟨sb, hsb⟩ : ∃ xb, w.heap.size = xb := ⟨_, rfl⟩
  rw [hW1, hsb] at hh
  rw [hW1] at hg0
  have hss : (shv s).toArray.size = 7 := rfl
  have hA := alive_c W1 (hk.kept hg0)
  have HP := Keep.mk (fun W => parse_c W tx)
  have HKW := Keep.mk hk
  have HX1 : Keep (Has W1 sb (shv s) 26) := ⟨hh⟩
  have HG0 := Keep.mk hg0
  have HC := Keep.mk hC
  have HOK := Keep.mk ok
  obtain ⟨a0, cap, rfl, _⟩ := hC.o
  have hn := hC.n
  clear hh hg0 hk hC ok
  obtain ⟨n, hnn⟩ : ∃ n, cs.length = n := ⟨_, rfl⟩
  rw [hnn] at hn HC
  rw [hnn]
  have HNN := Keep.mk hnn
  clear hnn
  go_enter Tryd.func3, Tryd.ntmps3
  go_wp2_with fail
  refine hA.mono ?_
  rintro e w0 ⟨rfl, g0⟩
  have hP := HP.out w0
  have HG1 := Keep.mk (HG0.out.trans g0)
  have HX2 : Keep (Has w0 sb (shv s) 26) := ⟨HX1.out.kept g0 (by simp)⟩
  clear hA g0 HP HX1 HG0 hW1 hsb
  go_wp2_with fail
  refine hP.mono ?_
  rintro e w1 ⟨g1, h1⟩
  have HG := Keep.mk (HG1.out.trans g1)
  have HX : Keep (Has w1 sb (shv s) 26) := ⟨HX2.out.kept g1 (by simp)⟩
  clear hP g1 HG1 HX2
  rcases h1 with ⟨_, rfl⟩ | ⟨_, _, rfl⟩ | ⟨_, hne, bv, rfl, hB⟩
  · go_wp2_with fail
    go_ret
    exact ⟨rfl, HG.out⟩
  · go_wp2_with fail
    go_ret
    exact ⟨rfl, HG.out⟩
  generalize lns tx = L at *
  obtain ⟨kb, _, _, hv, _⟩ := hB.o
  subst hv
  have HK1 : Keep (Kc w1) := ⟨HKW.out.kept HG.out⟩
  have HC1 := Keep.mk (HC.out.kept HG.out)
  have HBD := Keep.mk hB
  have HMO := Keep.mk (move_c w1 kb L (.slice a0 n cap) cs s hB HC1.out HOK.out HK1.out)
  have HXE := Keep.mk (mov_sm L cs s)
  have HHR := Keep.mk (mov_rng L cs s)
  rw [HNN.out] at HHR
  have HXO := Keep.mk (mov_ok (L := L) (cs := cs) HOK.out)
  obtain ⟨x, hx⟩ : ∃ r, (mov L cs s).1 = r := ⟨_, rfl⟩
  obtain ⟨h, hh⟩ : ∃ r, (mov L cs s).2.1 = r := ⟨_, rfl⟩
  obtain ⟨on, hon⟩ : ∃ r, (mov L cs s).2.2 = r := ⟨_, rfl⟩
  rw [hx, hh, hon] at HMO
  rw [hx] at HXE HXO
  rw [hh, hon] at HHR
  have HM : Keep (mov L cs s = (x, h, on)) := ⟨by rw [← hx, ← hh, ← hon]⟩
  clear hx hh hon hB hne HKW HC
  have HS : Keep (Sep w1 w1 []) := ⟨Sep.nil w1⟩
  have RN5 := Keep.mk HX.out.range
  go_wp2_with (first
    | (show wpList _ _ _ ({ dst := _, op := Op.load 26 (Operand.tmp 5), type := _, pos := _, after := _, guard := _ } :: _) _ _
       refine load_g (by rfl) 26 _ rfl _ _ rfl _ _ RN5.out hds hdsr (infoS' s) ?_))
  refine (HMO.out).mono ?_
  rintro e w1_ ⟨rfl, g_⟩
  replace HS := Keep.mk (HS.out.grown g_)
  clear g_
  have S_ := HS.out.newBox zS7.toArray 26
  obtain ⟨w2_, hw2_⟩ : ∃ W_, w1_.alloc (.cells zS7.toArray 26) = W_ := ⟨_, rfl⟩
  obtain ⟨xb, hxb⟩ : ∃ b_, w1_.heap.size = b_ := ⟨_, rfl⟩
  rw [hw2_, hxb] at S_
  rw [zS7_lit] at hw2_
  change Sep w1 w2_ [boxA xb zS7 26] at S_
  replace HS := Keep.mk S_
  clear S_
  have RN9 := Keep.mk (HS.out.boxGet k0m).range
  have HX_ := Keep.mk (HS.out.boxGet k0m)
  have HO_ := Keep.mk (shv_one x)
  go_wp2_with (first
    | (show wpList _ _ _ ({ dst := _, op := Op.load 26 (Operand.tmp 9), type := _, pos := _, after := _, guard := _ } :: _) _ _
       refine load_g (by rfl) 26 _ rfl _ _ rfl _ _ RN9.out hds hdsr (infoS' zS) ?_)
    | (show wpList _ _ _ ({ dst := _, op := Op.store 26 (Operand.tmp 9) _, type := _, pos := _, after := _, guard := _ } :: _) _ _
       refine store_at _ xb 0 zS7 (shv x) 26 26 rfl rfl rfl rfl HX_.out (Nat.le_refl _) (infoS' x) HO_.out ?_))
  intro w3_ hS_ g_
  have S_ := hS_ _ _ (fr1 [] HS.out)
  rw [over_all zS7 (shv x) rfl] at S_
  clear RN9
  change Sep w1 w3_ [boxA xb (shv x) 26] at S_
  replace HS := Keep.mk S_
  clear S_ hS_ g_ HX_ HO_
  have RN9 := Keep.mk (HS.out.boxGet k0m).range
  have c9x0 : w3_.cell? ⟨xb, 0, none⟩ = some (iv s.id) := HXE.out.id ▸ (HS.out.boxGet k0m).cellv 0 _ rfl
  have c9x1 : w3_.cell? ⟨xb, 1, none⟩ = some (iv s.pl) := HXE.out.pl ▸ (HS.out.boxGet k0m).cellv 1 _ rfl
  have c9x4 : w3_.cell? ⟨xb, 4, none⟩ = some (iv s.sx) := HXE.out.sx ▸ (HS.out.boxGet k0m).cellv 4 _ rfl
  have c9x5 : w3_.cell? ⟨xb, 5, none⟩ = some (iv s.sy) := HXE.out.sy ▸ (HS.out.boxGet k0m).cellv 5 _ rfl
  have c5x0 : w3_.cell? ⟨sb, 0, none⟩ = some (iv s.id) := (HX.out.kept HS.out.g (by simp)).cellv 0 _ rfl
  have c5x1 : w3_.cell? ⟨sb, 1, none⟩ = some (iv s.pl) := (HX.out.kept HS.out.g (by simp)).cellv 1 _ rfl
  have c5x2 : w3_.cell? ⟨sb, 2, none⟩ = some (iv s.x) := (HX.out.kept HS.out.g (by simp)).cellv 2 _ rfl
  have c5x3 : w3_.cell? ⟨sb, 3, none⟩ = some (iv s.y) := (HX.out.kept HS.out.g (by simp)).cellv 3 _ rfl
  have c5x4 : w3_.cell? ⟨sb, 4, none⟩ = some (iv s.sx) := (HX.out.kept HS.out.g (by simp)).cellv 4 _ rfl
  have c5x5 : w3_.cell? ⟨sb, 5, none⟩ = some (iv s.sy) := (HX.out.kept HS.out.g (by simp)).cellv 5 _ rfl
  have hEV := fun w => eq24 s.sx s.sy w
  have HD3 : Keep (on = true → decide (0 ≤ h) = false) := ⟨fun q => decide_eq_false (by have := HHR.out.2.2 q; omega)⟩
  have hh1 := HHR.out.1
  have hh2 := HHR.out.2.1
  have d1 : decide (h < -1) = false := decide_eq_false (by omega)
  have d2 : decide ((n : Int) ≤ h) = false := decide_eq_false (by omega)
  have d1' : ¬ h < -1 := by omega
  have d2' : ¬ (n : Int) ≤ h := by omega
  clear RN9
  go_upto_region 7 with fail
  go_cut [69] (fun sv wx => sv = .bool false ∧ Keep (Sep w1 wx [boxA xb (shv x) 26]))
  case first =>
    clear hh1 hh2
    cases on
    · go_wp2_with fail
      go_meet
      exact ⟨rfl, HS⟩
    · have d4 := HD3.out rfl
      go_wp2_with fail
      go_meet
      exact ⟨rfl, HS⟩
  case rest =>
  rename World => w4
  replace HS := hcut.2
  replace hcut := hcut.1
  subst hcut
  clear c9x0 c9x1 c9x4 c9x5 c5x0 c5x1 c5x2 c5x3 c5x4 c5x5 d1 d2 d1' d2' hEV HD3 hw2_ hxb
  have c5x2 : w4.cell? ⟨sb, 2, none⟩ = some (iv s.x) := (HX.out.kept HS.out.g (by simp)).cellv 2 _ rfl
  have c5x3 : w4.cell? ⟨sb, 3, none⟩ = some (iv s.y) := (HX.out.kept HS.out.g (by simp)).cellv 3 _ rfl
  have S_ := HS.out.newBox #[iv s.x, iv s.y] 24
  obtain ⟨wa, hwa⟩ : ∃ W_, w4.alloc (.cells #[iv s.x, iv s.y] 24) = W_ := ⟨_, rfl⟩
  obtain ⟨ab, hab⟩ : ∃ b_, w4.heap.size = b_ := ⟨_, rfl⟩
  rw [hwa, hab] at S_
  have S2_ := S_.newBox #[iv (s.sx / 4), iv (s.sy / 4)] 24
  obtain ⟨wb, hwb⟩ : ∃ W_, wa.alloc (.cells #[iv (s.sx / 4), iv (s.sy / 4)] 24) = W_ := ⟨_, rfl⟩
  obtain ⟨vb, hvb⟩ : ∃ b_, wa.heap.size = b_ := ⟨_, rfl⟩
  rw [hwb, hvb] at S2_
  have c4a : wa.cell? ⟨sb, 4, none⟩ = some (iv s.sx) := (HX.out.kept S_.g (by simp)).cellv 4 _ rfl
  have c5a : wa.cell? ⟨sb, 5, none⟩ = some (iv s.sy) := (HX.out.kept S_.g (by simp)).cellv 5 _ rfl
  replace HS : Keep (Sep w1 wb [boxA ab [iv s.x, iv s.y] 24, boxA vb [iv (s.sx / 4), iv (s.sy / 4)] 24, boxA xb (shv x) 26]) := ⟨S2_.swap⟩
  clear S_ S2_
  go_wp2_with fail
  go_loopw [14] (fun u wr => ∃ (k : Nat) (t : Sh), k ≤ 4 ∧ u = iv k ∧ Keep (ShOk t ∧ Sm s t ∧ t.lf = s.lf ∧ fly L cs 4 s = fly L cs (4 - k) t) ∧ Keep (Sep w1 wr [boxA ab [iv t.x, iv t.y] 24, boxA vb [iv (s.sx / 4), iv (s.sy / 4)] 24, boxA xb (shv x) 26])) (fun u _ => (4 - intOf u).toNat)
  case atStart => exact ⟨0, s, by omega, rfl, ⟨HOK.out, Sm.refl s, rfl, rfl⟩, HS⟩
  case round =>
    obtain ⟨k, t, hk4, rfl, HT, HB⟩ := hrel
    clear HS HMO hwa hab hwb hvb c4a c5a c5x2 c5x3 RN5
    by_cases hlt : k < 4
    · have hki : (k : Int) < 4 := by omega
      have hdk : decide ((k : Int) < 4) = true := decide_eq_true hki
      have hk1 : IntKind.i64.wrap ((k : Int) + 1) = ((k + 1 : Nat) : Int) := by rw [wi _ (by omega) (by omega)]; omega
      have HK := Keep.mk (And.intro hlt hk4)
      clear hlt hk4 hki
      have y2 : wr.cell? ⟨ab, 0, none⟩ = some (iv t.x) := (HB.out.boxGet k0m).cellv 0 _ rfl
      have y3 : wr.cell? ⟨ab, 1, none⟩ = some (iv t.y) := (HB.out.boxGet k0m).cellv 1 _ rfl
      have z0 : wr.cell? ⟨vb, 0, none⟩ = some (iv (s.sx / 4)) := (HB.out.boxGet k1m).cellv 0 _ rfl
      have z1 : wr.cell? ⟨vb, 1, none⟩ = some (iv (s.sy / 4)) := (HB.out.boxGet k1m).cellv 1 _ rfl
      have hA := vadd_c t.x t.y (s.sx / 4) (s.sy / 4) HT.out.1.x HT.out.1.y (HT.out.2.1.sx ▸ div4_in HT.out.1.sx) (HT.out.2.1.sy ▸ div4_in HT.out.1.sy) wr
      have HN : Keep (nxt t = { t with x := addZ t.x (s.sx / 4), y := addZ t.y (s.sy / 4) }) := ⟨by unfold nxt; rw [HT.out.2.1.sx, HT.out.2.1.sy]⟩
      obtain ⟨px, hpx⟩ : ∃ p, addZ t.x (s.sx / 4) = p := ⟨_, rfl⟩
      obtain ⟨py, hpy⟩ : ∃ p, addZ t.y (s.sy / 4) = p := ⟨_, rfl⟩
      rw [hpx, hpy] at hA HN
      clear hpx hpy
      go_wp2_with fail
      refine hA.mono ?_
      rintro e w2 ⟨rfl, g_⟩
      replace HB := Keep.mk (HB.out.grown g_)
      clear g_ hA y2 y3 z0 z1
      obtain ⟨t1, ht1⟩ : ∃ t1 : Sh, ({ t with x := px, y := py } : Sh) = t1 := ⟨_, rfl⟩
      have HP : Keep (t1.x = px ∧ t1.y = py) := ⟨by rw [← ht1]; exact ⟨rfl, rfl⟩⟩
      rw [ht1] at HN
      have HT1 : Keep (ShOk t1 ∧ Sm s t1 ∧ t1.lf = s.lf) := ⟨by rw [← HN.out]; exact ⟨nxt_ok HT.out.1, nxt_sm HT.out.2.1, HT.out.2.2.1⟩⟩
      obtain ⟨rfl, rfl⟩ : t1.x = px ∧ t1.y = py := HP.out
      clear ht1 HP
      have y2 : w2.cell? ⟨ab, 0, none⟩ = some (iv t.x) := (HB.out.boxGet k0m).cellv 0 _ rfl
      have f2 : w2.frozen? ⟨ab, 0, none⟩ = false := (HB.out.boxGet k0m).frozen 0
      have y3 : w2.cell? ⟨ab, 1, none⟩ = some (iv t.y) := (HB.out.boxGet k0m).cellv 1 _ rfl
      have f3 : w2.frozen? ⟨ab, 1, none⟩ = false := (HB.out.boxGet k0m).frozen 1
      have S2 := HB.out.boxPut 0 (iv t1.x)
      obtain ⟨w3, hw3⟩ : ∃ w4, w2.setCell ⟨ab, 0, none⟩ (iv t1.x) = w4 := ⟨_, rfl⟩
      rw [hw3] at S2
      have y3' : w3.cell? ⟨ab, 1, none⟩ = some (iv t.y) := (S2.boxGet k0m).cellv 1 _ rfl
      have f3' : w3.frozen? ⟨ab, 1, none⟩ = false := (S2.boxGet k0m).frozen 1
      have S3 := S2.boxPut 1 (iv t1.y)
      obtain ⟨w5, hw5⟩ : ∃ w4, w3.setCell ⟨ab, 1, none⟩ (iv t1.y) = w4 := ⟨_, rfl⟩
      rw [hw5] at S3
      change Sep w1 w5 [boxA ab [iv t1.x, iv t1.y] 24, boxA vb [iv (s.sx / 4), iv (s.sy / 4)] 24, boxA xb (shv x) 26] at S3
      replace HB := Keep.mk S3
      have q2 : w5.cell? ⟨ab, 0, none⟩ = some (iv t1.x) := (HB.out.boxGet k0m).cellv 0 _ rfl
      have q3 : w5.cell? ⟨ab, 1, none⟩ = some (iv t1.y) := (HB.out.boxGet k0m).cellv 1 _ rfl
      have hSo := solid_c w5 (pt kb) L (HBD.out.kept HB.out.g) t1.x t1.y HT1.out.1.x HT1.out.1.y
      have HSL : Keep (decide (atL L (t1.x, t1.y) = 35) = slid L (nxt t)) := ⟨by rw [HN.out]; rfl⟩
      rw [HSL.out] at hSo
      clear S2 S3 HSL
      generalize hsd : slid L (nxt t) = sd at hSo
      have HSD := Keep.mk hsd
      clear hsd
      go_wp2_with fail
      refine hSo.mono ?_
      rintro e w6 ⟨rfl, g_⟩
      replace HB := Keep.mk (HB.out.grown g_)
      clear g_ hSo y2 y3 f2 f3 y3' f3' q2 q3 hw3 hw5
      cases sd
      case true =>
        have HE : Keep ((x, h, on) = (t1, (-1 : Int), false)) := ⟨by
          rw [← HM.out, mov, HT.out.2.2.2, show 4 - k = (3 - k) + 1 by have := HK.out.1; omega, fly_wall HSD.out, HN.out]
          rfl⟩
        obtain ⟨e1, e2, e3⟩ : x = t1 ∧ h = -1 ∧ on = false := by
          have := HE.out
          injection this with q1 q2
          injection q2 with q2 q3
          exact ⟨q1, q2, q3⟩
        subst e1 e2 e3
        have q2 : w6.cell? ⟨ab, 0, none⟩ = some (iv x.x) := (HB.out.boxGet k0m).cellv 0 _ rfl
        have q3 : w6.cell? ⟨ab, 1, none⟩ = some (iv x.y) := (HB.out.boxGet k0m).cellv 1 _ rfl
        have p2 : w6.cell? ⟨xb, 2, none⟩ = some (iv x.x) := (HB.out.boxGet k2m).cellv 2 _ rfl
        have p3 : w6.cell? ⟨xb, 3, none⟩ = some (iv x.y) := (HB.out.boxGet k2m).cellv 3 _ rfl
        have p6 : w6.cell? ⟨xb, 6, none⟩ = some (iv s.lf) := HT1.out.2.2 ▸ (HB.out.boxGet k2m).cellv 6 _ rfl
        have r6 : w6.cell? ⟨sb, 6, none⟩ = some (iv s.lf) := (HX.out.kept HB.out.g (by simp)).cellv 6 _ rfl
        have hEV := fun w => eq24 x.x x.y w
        go_wp2_with fail
        go_ret
        exact ⟨rfl, HG.out.trans HB.out.g⟩
      case false =>
      go_wp2_with fail
      rename World => wo
      go_loopw [15] (fun u ws => ∃ i : Nat, i ≤ n ∧ u = iv i ∧ Keep (∀ (j : Nat) y, j < i → cs[j]? = some y → mt t1 y = false) ∧ Keep (Sep w1 ws [boxA ab [iv t1.x, iv t1.y] 24, boxA vb [iv (s.sx / 4), iv (s.sy / 4)] 24, boxA xb (shv x) 26])) (fun u _ => (n - intOf u).toNat)
      case atStart => exact ⟨0, by omega, rfl, ⟨fun j y hj => by omega⟩, HB⟩
      case round =>
        clear HB
        obtain ⟨i, hin0, rfl, HM1, HB⟩ := hrel
        rename World => ws
        by_cases hin : i < n
        · have hii : (i : Int) < (n : Int) := by omega
          have hdi : decide ((i : Int) < (n : Int)) = true := decide_eq_true hii
          have hti : ((i : Nat) : Int).toNat = i := by omega
          have hi1 : IntKind.i64.wrap ((i : Int) + 1) = ((i + 1 : Nat) : Int) := by rw [wi _ (by omega) (by omega)]; omega
          obtain ⟨ci, hci⟩ : ∃ ci, cs[i]? = some ci := ⟨_, List.getElem?_eq_getElem (by rw [HNN.out]; exact hin)⟩
          obtain ⟨a1, cap1, ea, hcells⟩ := HC1.out.o
          obtain ⟨g, o, eg, hcl⟩ := hcells (by rw [HNN.out]; omega)
          injection ea with ea1 ea2 ea3
          subst ea1
          subst eg
          have HIR : Keep (ws.rangeAt g (o + i * 14) (crv ci)) := ⟨fun j v hv => HB.out.g.cell (hcl i ci hci j v hv) (by simp)⟩
          have HOC : Keep (CrOk ci) := ⟨HC1.out.s ci (List.mem_of_getElem? hci)⟩
          have HCI := Keep.mk hci
          have HWI := Keep.mk (fun W (gW : w1.grownBy W none) => within_c ci.x ci.y t1.x t1.y 98304 HOC.out.x HOC.out.y HT1.out.1.x HT1.out.1.y W (HK1.out.kept gW))
          have HMT : Keep (mt t1 ci = (decide (ci.wa ≤ 0) && (decide (ci.pl ≠ s.pl) && wn (d2 ci.x ci.y t1.x t1.y) 98304))) := ⟨by
            unfold mt
            rw [HT1.out.2.1.pl, d2_comm, show decide (¬ 0 < ci.wa) = decide (ci.wa ≤ 0) from decide_eq_decide.2 Int.not_lt]⟩
          generalize wn (d2 ci.x ci.y t1.x t1.y) 98304 = wb at *
          clear ea2 ea3 hcells hcl hci
          have S_ := HB.out.newBox zC14.toArray 38
          obtain ⟨W4, hW4⟩ : ∃ W_, ws.alloc (.cells zC14.toArray 38) = W_ := ⟨_, rfl⟩
          obtain ⟨cb, hcb⟩ : ∃ b_, ws.heap.size = b_ := ⟨_, rfl⟩
          rw [hW4, hcb] at S_
          rw [zC14_lit] at hW4
          replace HB := Keep.mk S_
          have HX_ := Keep.mk (S_.boxGet k0m)
          have HO_ := Keep.mk (crv_one ci)
          clear S_
          go_wp2_with (first
            | (show wpList _ _ _ ({ dst := _, op := Op.load 38 _, type := _, pos := _, after := _, guard := _ } :: _) _ _
               refine load_g (by rfl) 38 _ rfl _ _ rfl _ _ HIR.out hdu hdr (infoC' ci) ?_)
            | (show wpList _ _ _ ({ dst := _, op := Op.store 38 _ _, type := _, pos := _, after := _, guard := _ } :: _) _ _
               refine store_at _ cb 0 zC14 (crv ci) 38 38 rfl rfl rfl rfl HX_.out (Nat.le_refl _) (infoC' ci) HO_.out ?_))
          intro w7 hS_ g_
          have S_ := hS_ _ _ HB.out
          rw [over_all zC14 (crv ci) rfl] at S_
          change Sep w1 w7 (boxA cb (crv ci) 38 :: [boxA ab [iv t1.x, iv t1.y] 24, boxA vb [iv (s.sx / 4), iv (s.sy / 4)] 24, boxA xb (shv x) 26]) at S_
          replace HB := Keep.mk S_
          clear S_ hS_ g_ HX_ HO_ hW4 hcb HIR
          have p11 : w7.cell? ⟨cb, 11, none⟩ = some (iv ci.wa) := (HB.out.boxGet k0m).cellv 11 _ rfl
          have p0 : w7.cell? ⟨cb, 0, none⟩ = some (iv ci.pl) := (HB.out.boxGet k0m).cellv 0 _ rfl
          have r1 : w7.cell? ⟨sb, 1, none⟩ = some (iv s.pl) := (HX.out.kept HB.out.g (by simp)).cellv 1 _ rfl
          have p2 : w7.cell? ⟨cb, 2, none⟩ = some (iv ci.x) := (HB.out.boxGet k0m).cellv 2 _ rfl
          have p3 : w7.cell? ⟨cb, 3, none⟩ = some (iv ci.y) := (HB.out.boxGet k0m).cellv 3 _ rfl
          have q2 : w7.cell? ⟨ab, 0, none⟩ = some (iv t1.x) := (HB.out.boxGet k1m).cellv 0 _ rfl
          have q3 : w7.cell? ⟨ab, 1, none⟩ = some (iv t1.y) := (HB.out.boxGet k1m).cellv 1 _ rfl
          go_upto_region 21 with fail
          go_cut [135] (fun sv wx => sv = .bool (mt t1 ci) ∧ Keep (Sep w1 wx [boxA ab [iv t1.x, iv t1.y] 24, boxA vb [iv (s.sx / 4), iv (s.sy / 4)] 24, boxA xb (shv x) 26]))
          case first =>
            by_cases hwa : ci.wa ≤ 0
            · have dwa : decide (ci.wa ≤ 0) = true := decide_eq_true hwa
              by_cases hpl : ci.pl = s.pl
              · have HMF : Keep (mt t1 ci = false) := ⟨by rw [HMT.out]; simp [hpl]⟩
                have e1 : (ci.pl != s.pl) = false := by simp [hpl]
                have e2 : (ci.pl == s.pl) = true := by simp [hpl]
                clear hpl hwa HMT HWI
                go_wp2_with fail
                go_meet
                exact ⟨by rw [HMF.out], ⟨HB.out.tail⟩⟩
              · have HMF : Keep (mt t1 ci = wb) := ⟨by rw [HMT.out]; simp [hpl, hwa]⟩
                have e1 : (ci.pl != s.pl) = true := by simp [hpl]
                have e2 : (ci.pl == s.pl) = false := by simp [hpl]
                clear hpl hwa HMT
                go_wp2_with fail
                refine (HWI.out _ HB.out.g).mono ?_
                rintro e w8 ⟨rfl, g_⟩
                replace HB := Keep.mk (HB.out.grown g_)
                clear g_ HWI p11 p0 r1 p2 p3 q2 q3
                go_wp2_with fail
                go_meet
                exact ⟨by rw [HMF.out], ⟨HB.out.tail⟩⟩
            · have dwa : decide (ci.wa ≤ 0) = false := decide_eq_false hwa
              have HMF : Keep (mt t1 ci = false) := ⟨by rw [HMT.out]; simp [hwa]⟩
              clear HMT HWI
              go_wp2_with fail
              go_meet
              exact ⟨by rw [HMF.out], ⟨HB.out.tail⟩⟩
          case rest =>
          replace HB := hcut.2
          replace hcut := hcut.1
          rename World => w8
          generalize hmt : mt t1 ci = m at hcut
          subst hcut
          have HMT2 := Keep.mk hmt
          clear hmt p11 p0 r1 p2 p3 q2 q3 HMT HWI
          cases m
          case true =>
            have HE : Keep ((x, h, on) = (t1, (i : Int), false)) := ⟨by
              rw [← HM.out, mov, HT.out.2.2.2, show 4 - k = (3 - k) + 1 by have := HK.out.1; omega, fly_hit HSD.out (by rw [HN.out]; exact find_here HCI.out HMT2.out HM1.out), HN.out]
              rfl⟩
            obtain ⟨e1, e2, e3⟩ : x = t1 ∧ h = (i : Int) ∧ on = false := by
              have := HE.out
              injection this with q1 q2
              injection q2 with q2 q3
              exact ⟨q1, q2, q3⟩
            subst e1 e2 e3
            have q2 : w8.cell? ⟨ab, 0, none⟩ = some (iv x.x) := (HB.out.boxGet k0m).cellv 0 _ rfl
            have q3 : w8.cell? ⟨ab, 1, none⟩ = some (iv x.y) := (HB.out.boxGet k0m).cellv 1 _ rfl
            have p2 : w8.cell? ⟨xb, 2, none⟩ = some (iv x.x) := (HB.out.boxGet k2m).cellv 2 _ rfl
            have p3 : w8.cell? ⟨xb, 3, none⟩ = some (iv x.y) := (HB.out.boxGet k2m).cellv 3 _ rfl
            have p6 : w8.cell? ⟨xb, 6, none⟩ = some (iv s.lf) := HT1.out.2.2 ▸ (HB.out.boxGet k2m).cellv 6 _ rfl
            have r6 : w8.cell? ⟨sb, 6, none⟩ = some (iv s.lf) := (HX.out.kept HB.out.g (by simp)).cellv 6 _ rfl
            have hEV := fun w => eq24 x.x x.y w
            go_wp2_with fail
            go_ret
            exact ⟨rfl, HG.out.trans HB.out.g⟩
          case false =>
            have HM2 : Keep (∀ (j : Nat) y, j < i + 1 → cs[j]? = some y → mt t1 y = false) := ⟨fun j y hj hy => by
              by_cases q : j < i
              · exact HM1.out j y q hy
              · obtain rfl : j = i := by omega
                rw [HCI.out] at hy
                cases hy
                exact HMT2.out⟩
            go_wp2_with fail
            go_roundw
            case rel => exact ⟨i + 1, by omega, rfl, HM2, HB⟩
            case measure => simp [intOf]; omega
        · have hii : ¬ (i : Int) < (n : Int) := by omega
          have hdi : decide ((i : Int) < (n : Int)) = false := decide_eq_false hii
          have HT2 : Keep (ShOk t1 ∧ Sm s t1 ∧ t1.lf = s.lf ∧ fly L cs 4 s = fly L cs (4 - (k + 1)) t1) := ⟨HT1.out.1, HT1.out.2.1, HT1.out.2.2, by
            rw [HT.out.2.2.2, show 4 - k = (4 - (k + 1)) + 1 by have := HK.out.1; omega, fly_on HSD.out (by rw [HN.out]; exact find_none (fun j y hj hy => HM1.out j y (by rw [HNN.out] at hj; omega) hy)), HN.out]⟩
          go_wp2_with fail
          go_roundw
          case rel => exact ⟨k + 1, t1, by have := HK.out.1; omega, rfl, HT2, HB⟩
          case measure => have := HK.out.1; simp [intOf]; omega
    · have hki : ¬ (k : Int) < 4 := by omega
      have hdk : decide ((k : Int) < 4) = false := decide_eq_false hki
      have HE : Keep ((x, h, on) = fin t none) := ⟨by
        rw [← HM.out, mov, HT.out.2.2.2, show 4 - k = 0 by omega]
        rfl⟩
      obtain ⟨e1, e2, e3⟩ : x = { t with lf := w64 (t.lf - 1) } ∧ h = -1 ∧ on = decide (0 < w64 (t.lf - 1)) := by
        have := HE.out
        injection this with q1 q2
        injection q2 with q2 q3
        exact ⟨q1, q2, q3⟩
      rw [HT.out.2.2.1] at e1 e3
      have kL : IntKind.i64.wrap (s.lf - 1) = w64 (s.lf - 1) := rfl
      generalize w64 (s.lf - 1) = lf2 at e1 e3 kL
      have HXX : Keep (x.x = t.x ∧ x.y = t.y ∧ x.lf = lf2) := ⟨by rw [e1]; exact ⟨rfl, rfl, rfl⟩⟩
      subst e2 e3
      clear e1
      have q2 : wr.cell? ⟨ab, 0, none⟩ = some (iv t.x) := (HB.out.boxGet k0m).cellv 0 _ rfl
      have q3 : wr.cell? ⟨ab, 1, none⟩ = some (iv t.y) := (HB.out.boxGet k0m).cellv 1 _ rfl
      have p2 : wr.cell? ⟨xb, 2, none⟩ = some (iv t.x) := HXX.out.1 ▸ (HB.out.boxGet k2m).cellv 2 _ rfl
      have p3 : wr.cell? ⟨xb, 3, none⟩ = some (iv t.y) := HXX.out.2.1 ▸ (HB.out.boxGet k2m).cellv 3 _ rfl
      have p6 : wr.cell? ⟨xb, 6, none⟩ = some (iv lf2) := HXX.out.2.2 ▸ (HB.out.boxGet k2m).cellv 6 _ rfl
      have r6 : wr.cell? ⟨sb, 6, none⟩ = some (iv s.lf) := (HX.out.kept HB.out.g (by simp)).cellv 6 _ rfl
      have hEV := fun w => eq24 t.x t.y w
      clear HT HM HE HXX
      go_wp2_with fail
      go_ret
      exact ⟨by simp, HG.out.trans HB.out.g⟩
end Go.Proofs.YtmacmoikjgmaoaaDoor.Bo
