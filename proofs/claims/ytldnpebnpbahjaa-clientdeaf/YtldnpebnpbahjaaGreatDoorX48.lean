import Derived.Test.YtldnpebnpbahjaaGreatDoorCB3
import Derived.Test.YtldnpebnpbahjaaGreatDoorSnQ
import Derived.Test.YtldnpebnpbahjaaGreatDoorX31
import Derived.ChangeKeysEq
namespace Go.Proofs.YtldnpebnpbahjaaGreatDoor.Pk.Sn
open Go Go.RowKit Go.Maps
theorem ite_dec {p : Prop} [Decidable p] {X : Result Bool} {D : Bool} {w : World} (h : X = .ok D w) : (if p then X else .ok false w) = .ok (decide p && D) w := by
  by_cases e : p
  · rw [if_pos e, h]; simp [e]
  · rw [if_neg e]; simp [e]
theorem ite_vec {p q : Prop} [Decidable p] [Decidable q] {X : Result Bool} {D : Bool} {w : World} (h : X = .ok D w) : (if p → ¬ q then .ok false w else X) = .ok (decide p && (decide q && D)) w := by
  by_cases e : p
  · by_cases f : q
    · rw [if_neg (fun k => k e f), h]; simp [e, f]
    · rw [if_pos (fun _ => f)]; simp [e, f]
  · rw [if_pos (fun k => absurd k e)]; simp [e]
theorem bainj {a b : ByteArray} (h : a.toList = b.toList) : a = b := by
  rw [ByteArray.toList_eq, ByteArray.toList_eq] at h
  exact ByteArray.ext (Array.ext' h)
theorem ite_str {a b : ByteArray} {X : Result Bool} {D : Bool} {w : World} (h : X = .ok D w) : (if a.toList = b.toList then X else .ok false w) = .ok (decide (a = b) && D) w := by
  by_cases e : a = b
  · subst e; rw [if_pos rfl, h]; simp
  · rw [if_neg (fun k => e (bainj k))]; simp [e]
theorem ite_end {p : Prop} [Decidable p] {w : World} : (if p then Result.ok true w else .ok false w) = .ok (decide p) w := by
  by_cases e : p <;> simp [e]
set_option maxRecDepth 100000 in
set_option maxHeartbeats 4000000 in
theorem eqV (n : Nat) (x y u v : Int) (w : World) : (Op.equalIn (n + 2) 44 (.agg #[iv x, iv y]) (.agg #[iv u, iv v])).run Tryz.prog w = .ok (decide (x = u ∧ y = v)) w := by
  rw [run_equalIn_agg w (n + 1) 44 _ _ (by kernel_rfl) (by kernel_rfl)]
  have u3 := Tryz.underlying2
  have g3 := Tryz.isAgg2
  have z3 := Tryz.sizeOf2
  simp only [Program.fieldsOf, Tryz.underlying44]
  by_cases h1 : x = u
  · by_cases h2 : y = v
    · subst h1 h2; (go_simp; try simp)
    · subst h1; (go_simp; try simp [h2])
  · (go_simp; try simp [h1])
set_option maxRecDepth 100000 in
set_option maxHeartbeats 8000000 in
theorem eqN (x y : Sn) (w : World) : (Op.equalIn 10000 98 (.agg x.cs.toArray) (.agg y.cs.toArray)).run Tryz.prog w = .ok (decide (x = y)) w := by
  rw [show (10000 : Nat) = 9999 + 1 from rfl, run_equalIn_agg w 9999 98 _ _ (by kernel_rfl) (by kernel_rfl)]
  obtain ⟨a1, a2, a3, a4, a5⟩ := x
  obtain ⟨b1, b2, b3, b4, b5⟩ := y
  unfold Sn.cs
  have u3 := Tryz.underlying3
  have g3 := Tryz.isAgg3
  have z3 := Tryz.sizeOf3
  have u24 := Tryz.underlying44
  have a24 := Tryz.isAgg44
  have z24 := Tryz.sizeOf44
  have ev : ∀ w, (Op.equalIn 9999 44 (.agg #[iv a3, iv a4]) (.agg #[iv b3, iv b4])).run Tryz.prog w = .ok (decide (a3 = b3 ∧ a4 = b4)) w := fun w => eqV 9997 a3 a4 b3 b4 w
  simp only [Program.fieldsOf, Tryz.underlying98]
  go_simp
  exact ite_dec (ite_dec (ite_vec ite_end))

/-- a car -/
structure Cr where
  p : Int
  n : ByteArray
  x : Int
  y : Int
  u : Int
  v : Int
  h : Int
  he : Int
  en : Int
  am : Int
  co : Int
  wt : Int
  sp : Int
  sc : Int
deriving DecidableEq
def crv (c : Cr) : List Value := [iv c.p, .string c.n, iv c.x, iv c.y, iv c.u, iv c.v, iv c.h, iv c.he, iv c.en, iv c.am, iv c.co, iv c.wt, iv c.sp, iv c.sc]
def Vw.own (V : Vw) : Cr := ⟨V.p, V.n, V.x, V.y, V.u, V.v, V.h, V.he, V.en, V.am, V.co, V.wt, V.sp, V.sc⟩
theorem vw_ext {V V' : Vw} (h1 : V.t = V'.t) (h2 : V.own = V'.own) (h3 : V.S = V'.S) : V = V' := by
  obtain ⟨t, p, n, x, y, u, v, h, he, en, am, co, wt, sp, sc, S⟩ := V
  obtain ⟨t', p', n', x', y', u', v', h', he', en', am', co', wt', sp', sc', S'⟩ := V'
  simp only [Vw.own, Cr.mk.injEq] at h1 h2 h3
  obtain ⟨rfl, rfl, rfl, rfl, rfl, rfl, rfl, rfl, rfl, rfl, rfl, rfl, rfl, rfl⟩ := h2
  subst h1 h3
  rfl
set_option maxRecDepth 100000 in
set_option maxHeartbeats 16000000 in
theorem eqC (x y : Cr) (w : World) : (Op.equalIn 10000 46 (.agg (crv x).toArray) (.agg (crv y).toArray)).run Tryz.prog w = .ok (decide (x = y)) w := by
  rw [show (10000 : Nat) = 9999 + 1 from rfl, run_equalIn_agg w 9999 46 _ _ (by kernel_rfl) (by kernel_rfl)]
  obtain ⟨a1, a2, a3, a4, a5, a6, a7, a8, a9, a10, a11, a12, a13, a14⟩ := x
  obtain ⟨b1, b2, b3, b4, b5, b6, b7, b8, b9, b10, b11, b12, b13, b14⟩ := y
  unfold crv
  have u3 := Tryz.underlying3
  have g3 := Tryz.isAgg3
  have z3 := Tryz.sizeOf3
  have u9 := Tryz.underlying9
  have a9 := Tryz.isAgg9
  have z9 := Tryz.sizeOf9
  have a24 := Tryz.isAgg44
  have z24 := Tryz.sizeOf44
  have ev : ∀ w, (Op.equalIn 9999 44 (.agg #[iv a3, iv a4]) (.agg #[iv b3, iv b4])).run Tryz.prog w = .ok (decide (a3 = b3 ∧ a4 = b4)) w := fun w => eqV 9997 a3 a4 b3 b4 w
  have ev2 : ∀ w, (Op.equalIn 9999 44 (.agg #[iv a5, iv a6]) (.agg #[iv b5, iv b6])).run Tryz.prog w = .ok (decide (a5 = b5 ∧ a6 = b6)) w := fun w => eqV 9997 a5 a6 b5 b6 w
  simp only [Program.fieldsOf, Tryz.underlying46]
  go_simp
  exact ite_dec (ite_str (ite_vec (ite_vec (ite_dec (ite_dec (ite_dec (ite_dec (ite_dec (ite_dec (ite_dec ite_end))))))))))
set_option maxRecDepth 100000 in
theorem neqC (x y : Cr) (w : World) : (binOp .neq 46 (.agg (crv x).toArray) (.agg (crv y).toArray)).run Tryz.prog w = .ok (.bool (!decide (x = y))) w := by
  simp only [binOp]
  simp [Op.equal, Op.maxDepth, eqC]
set_option maxRecDepth 100000 in
theorem neqN (x y : Sn) (w : World) : (binOp .neq 98 (.agg x.cs.toArray) (.agg y.cs.toArray)).run Tryz.prog w = .ok (.bool (!decide (x = y))) w := by
  simp only [binOp]
  simp [Op.equal, Op.maxDepth, eqN]
set_option maxRecDepth 100000 in
theorem underCr : ∃ d, Tryz.prog.underlying 46 = some d ∧ d.isRow = true := ⟨_, Tryz.underlying46, rfl⟩
set_option maxRecDepth 100000 in
theorem infoCr : (Tryz.prog.info? 46).map (·.size) = some 14 := by kernel_rfl
set_option maxRecDepth 100000 in
theorem underN : ∃ d, Tryz.prog.underlying 98 = some d ∧ d.isRow = true := ⟨_, Tryz.underlying98, rfl⟩
set_option maxRecDepth 100000 in
theorem infoN : (Tryz.prog.info? 98).map (·.size) = some 5 := by kernel_rfl
theorem own_range {w : World} {b : Nat} {V : Vw} {a : Option Addr} {c : Nat} {ty : TypeId} (h : Has w b (V.cs a c) ty) : w.rangeAt b 1 (crv V.own) :=
  h.rangeMid 1 [uv V.t] (crv V.own) [.slice a V.S.length c] rfl rfl
theorem sn_range {w : World} {b o j : Nat} {S : List Sn} {s : Sn} (h : SnR w b o S) (hs : S[j]? = some s) : w.rangeAt b (o + j * 5) s.cs := fun i v hv => by
  rw [Nat.mul_comm j 5]; exact h j s hs i v hv
set_option maxHeartbeats 8000000 in
set_option maxRecDepth 100000 in
theorem sleq_nil (a a' : Option Addr) (c c' : Nat) (w : World) : Calls Tryz.prog 47 #[.slice a 0 c, .slice a' 0 c'] w fun e w' => e = .returned (.bool true) ∧ w' = w := by
  go_enter Tryz.func47, Tryz.ntmps47
  go_wp2_with fail
  go_loopw [13] (fun t w' => t = .int .i64 0 ∧ w' = w) (fun _ _ => 0)
  case atStart => exact ⟨rfl, rfl⟩
  case round =>
    obtain ⟨rfl, rfl⟩ := hrel
    go_wp2_with fail
    go_ret
    exact ⟨rfl, rfl⟩
set_option maxHeartbeats 8000000 in
set_option maxRecDepth 100000 in
theorem veq_c (V : Vw) (a a' : Option Addr) (c c' : Nat) (w : World) (h0 : V.S = []) : Calls Tryz.prog 17 #[.agg (V.cs a c).toArray, .agg (V.cs a' c').toArray] w fun e w' => e = .returned (.bool true) ∧ w.grownBy w' none := by
  obtain ⟨dc, hdc, hrc⟩ := underCr
  obtain ⟨w0, hw0⟩ : ∃ q, w.alloc (.cells (V.cs a c).toArray 49) = q := ⟨_, rfl⟩
  obtain ⟨h1, g1, s1⟩ := hasN hw0
  obtain ⟨w1, hw1⟩ : ∃ q, w0.alloc (.cells (V.cs a' c').toArray 49) = q := ⟨_, rfl⟩
  obtain ⟨h2, g2, s2⟩ := hasN hw1
  have R1 : Keep (w1.rangeAt w.heap.size 1 (crv V.own)) := ⟨own_range (h1.kept g2 (by simp))⟩
  have R2 : Keep (w1.rangeAt w0.heap.size 1 (crv V.own)) := ⟨own_range h2⟩
  have t1 : w1.cell? ⟨w.heap.size, 0, none⟩ = some (uv V.t) := (h1.kept g2 (by simp)).cellv 0 _ rfl
  have t2 : w1.cell? ⟨w0.heap.size, 0, none⟩ = some (uv V.t) := h2.cellv 0 _ rfl
  have l1 : w1.cell? ⟨w.heap.size, 15, none⟩ = some (.slice a 0 c) := by have := (h1.kept g2 (by simp)).cellv 15 (.slice a V.S.length c) rfl; rw [h0] at this; exact this
  have l2 : w1.cell? ⟨w0.heap.size, 15, none⟩ = some (.slice a' 0 c') := by have := h2.cellv 15 (.slice a' V.S.length c') rfl; rw [h0] at this; exact this
  have heq : (Op.equalIn 10000 46 (.agg (crv V.own).toArray) (.agg (crv V.own).toArray)).run Tryz.prog w1 = .ok true w1 := by
    rw [eqC]
    simp
  have HG := Keep.mk (g1.trans g2)
  unfold Vw.cs at hw0 hw1 ⊢
  obtain ⟨O, hO⟩ : ∃ q, V.own = q := ⟨_, rfl⟩
  rw [hO] at R1 R2 heq
  clear h1 g1 s1 h2 g2 s2 hO h0
  go_enter Tryz.func17, Tryz.ntmps17
  go_wp2_with (first
    | (with_reducible show wpList _ _ _ ({ dst := _, op := Op.load 46 (Operand.tmp 11), type := _, pos := _, after := _, guard := _ } :: _) _ _
       refine load_g rfl 46 _ rfl w.heap.size 1 rfl (crv O) dc R1.out hdc hrc infoCr ?_)
    | (with_reducible show wpList _ _ _ ({ dst := _, op := Op.load 46 (Operand.tmp 13), type := _, pos := _, after := _, guard := _ } :: _) _ _
       refine load_g rfl 46 _ rfl w0.heap.size 1 rfl (crv O) dc R2.out hdc hrc infoCr ?_))
  refine (sleq_nil a a' c c' w1).mono ?_
  rintro e w2 ⟨rfl, hww⟩
  subst hww
  go_wp2_with fail
  go_ret
  exact ⟨rfl, HG.out⟩
end Go.Proofs.YtldnpebnpbahjaaGreatDoor.Pk.Sn

namespace Go.Proofs.YtldnpebnpbahjaaGreatDoor.Pk.Sn
open Go Go.RowKit

/-- a small view -/
def smV (t p he sc : Int) (n : ByteArray) : Vw := ⟨t, p, n, 0, 0, 0, 0, 0, he, 0, 0, 0, 0, 0, sc, []⟩
structure Smv (t p he sc : Int) (n : ByteArray) : Prop where
  t : 0 ≤ t ∧ t < 18446744073709551616
  p : 0 ≤ p ∧ p < 256
  he : -1000 ≤ he ∧ he ≤ 1000
  sc : -1000 ≤ sc ∧ sc ≤ 1000
  n : n.size ≤ 24
theorem sm_ok {t p he sc : Int} {n : ByteArray} (h : Smv t p he sc n) : (smV t p he sc n).ok := by
  have h1 := h.t
  have h2 := h.p
  have h3 := h.he
  have h4 := h.sc
  have h5 := h.n
  refine ⟨?_, ?_⟩
  · simp only [hK, hMs, Mk.kd, Vw.lv, smV, okL, okK, List.map_cons, List.map_nil, sl_len]
    simp
    omega
  · intro s hs
    cases hs
theorem sm_fit {t p he sc : Int} {n : ByteArray} (h : Smv t p he sc n) : fitV (smV t p he sc n) := by
  have h2 := h.p
  have h5 := h.n
  refine ⟨?_, ?_⟩
  · simp only [hK, hMs, Mk.kd, Vw.lv, smV, fitL, fitK, List.map_cons, List.map_nil, sl_len]
    simp
    omega
  · intro s hs
    cases hs
theorem sm_enc {t p he sc : Int} {n : ByteArray} (h : Smv t p he sc n) : (encV (smV t p he sc n)).length ≤ 1148 := by
  rw [encV_len]
  have := h.n
  show 107 + n.size + 26 * 0 ≤ 1148
  omega
theorem hm32 (k t : List UInt8) : (Mac.hmac k t).length = 32 := Mac.hmac_len _ _
/-- what Make makes of a small view -/
theorem snap_yes {t p he sc : Int} {n : ByteArray} (h : Smv t p he sc n) {s q : Nat} (hs : s < 18446744073709551616) (hq : q < 18446744073709551616) (key : ByteArray) :
    ∃ S x : ByteArray, mkS s q (smV t p he sc n) key = (S, 0) ∧ dec (sl S) = ((mkD s q (ba (encV (smV t p he sc n)))).wear x, 0) ∧ sealed S key = true ∧ S.size ≤ 1200 ∧ 52 ≤ S.size := by
  have hw := wrV_yes (sm_ok h) (sm_fit h)
  have hlen := sm_enc h
  generalize encV (smV t p he sc n) = E at hw hlen ⊢
  have hb : ¬ 1148 < (ba E).size := by rw [ba_size]; omega
  have e := seal_snap (b := ba E) (key := key) hs hq
  rw [if_neg hb] at e
  have e2 : mkS s q (smV t p he sc n) key = sealD (mkD s q (ba E)) key := by
    unfold mkS
    rw [hw]
    exact if_pos rfl
  obtain ⟨x, h1, h2, h3, h4⟩ := seal_good (d := mkD s q (ba E)) (key := key) (mk_fine _ hs hq) (by rw [e])
  refine ⟨(sealD (mkD s q (ba E)) key).1, x, ?_, ?_, h2, h3, h4⟩
  · rw [e2, e]
  · rw [h1, only_snap]
theorem jud_yes {C : Cl} {data : ByteArray} {D : Dg} (h1 : D.session = C.num) (h2 : sealed data C.key = true) : judS C data D = if D.seq ≤ C.bl then 241 else 0 := by
  unfold judS
  rw [if_neg (by simp [h1]), if_neg (by simp [h2])]
/-- a snapshot is heard -/
theorem hea_snap {t p he sc : Int} {n : ByteArray} (h : Smv t p he sc n) {C : Cl} {q : Nat} {S x : ByteArray} (hst : C.st = 168) (h1 : dec (sl S) = ((mkD C.num q (ba (encV (smV t p he sc n)))).wear x, 0)) (h2 : sealed S C.key = true) :
    heaS C S = if q ≤ C.bl then (nob, 241, C) else (nob, 0, { C with vw := ba (encV (smV t p he sc n)), bl := q }) := by
  have hr := rd_wr (sm_ok h) (sm_fit h)
  generalize encV (smV t p he sc n) = E at hr h1 ⊢
  unfold heaS
  rw [h1, if_neg (by simp), if_neg (by show ¬ ((6 : Int) = 1 ∨ (6 : Int) = 3 ∨ (6 : Int) = 5); omega)]
  unfold nxtS
  rw [if_neg (by rw [hst]; decide), if_pos hst]
  unfold plaS
  rw [if_pos (show ((mkD C.num q (ba E)).wear x).kind = 6 from rfl)]
  have hj := jud_yes (C := C) (data := S) (D := (mkD C.num q (ba E)).wear x) rfl h2
  have hsq : ((mkD C.num q (ba E)).wear x).seq = q := rfl
  rw [hsq] at hj
  by_cases hb : q ≤ C.bl
  · rw [if_pos hb] at hj ⊢
    have e : lokS C S ((mkD C.num q (ba E)).wear x) = (C, 241) := by
      unfold lokS
      rw [hj, if_pos (by decide)]
    rw [e]
  · rw [if_neg hb] at hj ⊢
    have e : lokS C S ((mkD C.num q (ba E)).wear x) = ({ C with vw := ba E, bl := q }, 0) := by
      unfold lokS
      rw [hj, if_neg (by simp)]
      have hd : sl ((mkD C.num q (ba E)).wear x).data = E := sl_mk _
      rw [hd, hr, if_neg (by simp)]
      rfl
    rw [e]
def byD (s q : Nat) : Dg := { Dg.zero 7 with session := s, seq := q }
theorem byD_fine {s q : Nat} (hs : s < 18446744073709551616) (hq : q < 18446744073709551616) : (byD s q).fine := ⟨by show (-9223372036854775808 : Int) ≤ 7 ∧ (7 : Int) < 9223372036854775808; omega, by show 0 < 18446744073709551616; omega, hs, i0, hq, i0, i0⟩
theorem byD_small (s q : Nat) : (byD s q).small := ⟨by show (0 : Nat) ≤ _; omega, by show (0 : Nat) ≤ _; omega, by show (0 : Nat) ≤ _; omega, by show (0 : Nat) ≤ _; omega, by show (0 : Nat) ≤ _; omega, by show (0 : Nat) ≤ _; omega⟩
theorem bye_yes {s q : Nat} (hs : s < 18446744073709551616) (hq : q < 18446744073709551616) (key : ByteArray) :
    (sealD (byD s q) key).2 = 0 ∧ ∃ x : ByteArray, dec (sl (sealD (byD s q) key).1) = (byX s q x, 0) ∧ sealed (sealD (byD s q) key).1 key = true ∧ (sealD (byD s q) key).1.size ≤ 1200 := by
  have hc := bye_code (key := key) (byD_fine hs hq) rfl
  obtain ⟨x, h1, h2, h3, _⟩ := seal_good (byD_fine hs hq) hc
  exact ⟨hc, x, by rw [h1, on7 _ rfl]; rfl, h2, h3⟩
/-- a bye is heard -/
theorem hea_bye {C : Cl} {q : Nat} {S x : ByteArray} (hst : C.st = 168) (h1 : dec (sl S) = (byX C.num q x, 0)) (h2 : sealed S C.key = true) :
    heaS C S = if q ≤ C.bl then (nob, 241, C) else (nob, 0, endS C) := by
  unfold heaS
  rw [h1, if_neg (by simp), if_neg (by show ¬ ((7 : Int) = 1 ∨ (7 : Int) = 3 ∨ (7 : Int) = 5); omega)]
  unfold nxtS
  rw [if_neg (by rw [hst]; decide), if_pos hst]
  unfold plaS
  rw [if_neg (by show ¬ (7 : Int) = 6; omega), if_pos (show (byX C.num q x).kind = 7 from rfl)]
  have hj := jud_yes (C := C) (data := S) (D := byX C.num q x) rfl h2
  have hsq : (byX C.num q x).seq = q := rfl
  rw [hsq] at hj
  by_cases hb : q ≤ C.bl
  · rw [if_pos hb] at hj ⊢
    have e : disS C S (byX C.num q x) = (C, 241) := by
      unfold disS
      rw [hj, if_pos (by decide)]
    rw [e]
  · rw [if_neg hb] at hj ⊢
    have e : disS C S (byX C.num q x) = (endS C, 0) := by
      unfold disS
      rw [hj, if_neg (by simp)]
    rw [e]
theorem hea_again {C : Cl} {n : Nat} {S x nc : ByteArray} (hnc : C.nc = nc) (hm : n ≤ C.mx) (h1 : dec (sl S) = ((welD nc n).wear x, 0)) : heaS (endS C) S = (nob, 241, endS C) := by
  unfold heaS
  rw [h1, if_neg (by simp), if_neg (by show ¬ ((4 : Int) = 1 ∨ (4 : Int) = 3 ∨ (4 : Int) = 5); omega)]
  unfold nxtS
  rw [if_pos (show (endS C).st = 54 from rfl)]
  show greS (endS C) S ((welD nc n).wear x) = _
  rw [gre_3 (show ((welD nc n).wear x).nonce = (endS C).nc from hnc.symm) rfl]
  have e : begS (endS C) S ((welD nc n).wear x) = (endS C, 241) := by
    unfold begS
    rw [if_pos (show ((welD nc n).wear x).session ≤ (endS C).mx from hm)]
  rw [e]
theorem rd_none : (rdV (sl nob)).2 ≠ 0 := by decide +kernel
end Go.Proofs.YtldnpebnpbahjaaGreatDoor.Pk.Sn

