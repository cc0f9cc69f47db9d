import Derived.Test.YtkdjcknikhgfkabGreatDoorX36
import Derived.ChangeKeysEq
namespace Go.Proofs.YtkdjcknikhgfkabGreatDoor.Pk.Sn
open Go Go.RowKit Go.Maps
theorem ite_dec {p : Prop} [Decidable p] {X : Result Bool} {D : Bool} {w : World} (h : X = .ok D w) : (if p then X else .ok false w) = .ok (decide p && D) w := by
  by_cases e : p
  · rw [if_pos e, h]; simp [e]
  · rw [if_neg e]; simp [e]
theorem ite_vec {p q : Prop} [Decidable p] [Decidable q] {X : Result Bool} {D : Bool} {w : World} (h : X = .ok D w) : (if p → ¬ q then .ok false w else X) = .ok (decide p && (decide q && D)) w := by
  by_cases e : p
  · by_cases f : q
    · rw [if_neg (fun k => k e f), h]; simp [e, f]
    · rw [if_pos (fun _ => f)]; simp [e, f]
  · rw [if_pos (fun k => absurd k e)]; simp [e]
theorem bainj {a b : ByteArray} (h : a.toList = b.toList) : a = b := by
  rw [ByteArray.toList_eq, ByteArray.toList_eq] at h
  exact ByteArray.ext (Array.ext' h)
theorem ite_str {a b : ByteArray} {X : Result Bool} {D : Bool} {w : World} (h : X = .ok D w) : (if a.toList = b.toList then X else .ok false w) = .ok (decide (a = b) && D) w := by
  by_cases e : a = b
  · subst e; rw [if_pos rfl, h]; simp
  · rw [if_neg (fun k => e (bainj k))]; simp [e]
theorem ite_end {p : Prop} [Decidable p] {w : World} : (if p then Result.ok true w else .ok false w) = .ok (decide p) w := by
  by_cases e : p <;> simp [e]
set_option maxRecDepth 100000 in
set_option maxHeartbeats 4000000 in
theorem eqV (n : Nat) (x y u v : Int) (w : World) : (Op.equalIn (n + 2) 24 (.agg #[iv x, iv y]) (.agg #[iv u, iv v])).run Tryz.prog w = .ok (decide (x = u ∧ y = v)) w := by
  rw [run_equalIn_agg w (n + 1) 24 _ _ (by kernel_rfl) (by kernel_rfl)]
  have u3 := Tryz.underlying2
  have g3 := Tryz.isAgg2
  have z3 := Tryz.sizeOf2
  simp only [Program.fieldsOf, Tryz.underlying24]
  by_cases h1 : x = u
  · by_cases h2 : y = v
    · subst h1 h2; (go_simp; try simp)
    · subst h1; (go_simp; try simp [h2])
  · (go_simp; try simp [h1])
set_option maxRecDepth 100000 in
set_option maxHeartbeats 8000000 in
theorem eqN (x y : Sn) (w : World) : (Op.equalIn 10000 38 (.agg x.cs.toArray) (.agg y.cs.toArray)).run Tryz.prog w = .ok (decide (x = y)) w := by
  rw [show (10000 : Nat) = 9999 + 1 from rfl, run_equalIn_agg w 9999 38 _ _ (by kernel_rfl) (by kernel_rfl)]
  obtain ⟨a1, a2, a3, a4, a5⟩ := x
  obtain ⟨b1, b2, b3, b4, b5⟩ := y
  unfold Sn.cs
  have u3 := Tryz.underlying3
  have g3 := Tryz.isAgg3
  have z3 := Tryz.sizeOf3
  have u24 := Tryz.underlying24
  have a24 := Tryz.isAgg24
  have z24 := Tryz.sizeOf24
  have ev : ∀ w, (Op.equalIn 9999 24 (.agg #[iv a3, iv a4]) (.agg #[iv b3, iv b4])).run Tryz.prog w = .ok (decide (a3 = b3 ∧ a4 = b4)) w := fun w => eqV 9997 a3 a4 b3 b4 w
  simp only [Program.fieldsOf, Tryz.underlying38]
  go_simp
  exact ite_dec (ite_dec (ite_vec ite_end))

/-- a car -/
structure Cr where
  p : Int
  n : ByteArray
  x : Int
  y : Int
  u : Int
  v : Int
  h : Int
  he : Int
  en : Int
  am : Int
  co : Int
  wt : Int
  sp : Int
  sc : Int
deriving DecidableEq
def crv (c : Cr) : List Value := [iv c.p, .string c.n, iv c.x, iv c.y, iv c.u, iv c.v, iv c.h, iv c.he, iv c.en, iv c.am, iv c.co, iv c.wt, iv c.sp, iv c.sc]
def Vw.own (V : Vw) : Cr := ⟨V.p, V.n, V.x, V.y, V.u, V.v, V.h, V.he, V.en, V.am, V.co, V.wt, V.sp, V.sc⟩
theorem vw_ext {V V' : Vw} (h1 : V.t = V'.t) (h2 : V.own = V'.own) (h3 : V.S = V'.S) : V = V' := by
  obtain ⟨t, p, n, x, y, u, v, h, he, en, am, co, wt, sp, sc, S⟩ := V
  obtain ⟨t', p', n', x', y', u', v', h', he', en', am', co', wt', sp', sc', S'⟩ := V'
  simp only [Vw.own, Cr.mk.injEq] at h1 h2 h3
  obtain ⟨rfl, rfl, rfl, rfl, rfl, rfl, rfl, rfl, rfl, rfl, rfl, rfl, rfl, rfl⟩ := h2
  subst h1 h3
  rfl
set_option maxRecDepth 100000 in
set_option maxHeartbeats 16000000 in
theorem eqC (x y : Cr) (w : World) : (Op.equalIn 10000 26 (.agg (crv x).toArray) (.agg (crv y).toArray)).run Tryz.prog w = .ok (decide (x = y)) w := by
  rw [show (10000 : Nat) = 9999 + 1 from rfl, run_equalIn_agg w 9999 26 _ _ (by kernel_rfl) (by kernel_rfl)]
  obtain ⟨a1, a2, a3, a4, a5, a6, a7, a8, a9, a10, a11, a12, a13, a14⟩ := x
  obtain ⟨b1, b2, b3, b4, b5, b6, b7, b8, b9, b10, b11, b12, b13, b14⟩ := y
  unfold crv
  have u3 := Tryz.underlying3
  have g3 := Tryz.isAgg3
  have z3 := Tryz.sizeOf3
  have u9 := Tryz.underlying9
  have a9 := Tryz.isAgg9
  have z9 := Tryz.sizeOf9
  have a24 := Tryz.isAgg24
  have z24 := Tryz.sizeOf24
  have ev : ∀ w, (Op.equalIn 9999 24 (.agg #[iv a3, iv a4]) (.agg #[iv b3, iv b4])).run Tryz.prog w = .ok (decide (a3 = b3 ∧ a4 = b4)) w := fun w => eqV 9997 a3 a4 b3 b4 w
  have ev2 : ∀ w, (Op.equalIn 9999 24 (.agg #[iv a5, iv a6]) (.agg #[iv b5, iv b6])).run Tryz.prog w = .ok (decide (a5 = b5 ∧ a6 = b6)) w := fun w => eqV 9997 a5 a6 b5 b6 w
  simp only [Program.fieldsOf, Tryz.underlying26]
  go_simp
  exact ite_dec (ite_str (ite_vec (ite_vec (ite_dec (ite_dec (ite_dec (ite_dec (ite_dec (ite_dec (ite_dec ite_end))))))))))
set_option maxRecDepth 100000 in
theorem neqC (x y : Cr) (w : World) : (binOp .neq 26 (.agg (crv x).toArray) (.agg (crv y).toArray)).run Tryz.prog w = .ok (.bool (!decide (x = y))) w := by
  simp only [binOp]
  simp [Op.equal, Op.maxDepth, eqC]
set_option maxRecDepth 100000 in
theorem neqN (x y : Sn) (w : World) : (binOp .neq 38 (.agg x.cs.toArray) (.agg y.cs.toArray)).run Tryz.prog w = .ok (.bool (!decide (x = y))) w := by
  simp only [binOp]
  simp [Op.equal, Op.maxDepth, eqN]
set_option maxRecDepth 100000 in
theorem underC : ∃ d, Tryz.prog.underlying 26 = some d ∧ d.isRow = true := ⟨_, Tryz.underlying26, rfl⟩
set_option maxRecDepth 100000 in
theorem infoC : (Tryz.prog.info? 26).map (·.size) = some 14 := by kernel_rfl
set_option maxRecDepth 100000 in
theorem underN : ∃ d, Tryz.prog.underlying 38 = some d ∧ d.isRow = true := ⟨_, Tryz.underlying38, rfl⟩
set_option maxRecDepth 100000 in
theorem infoN : (Tryz.prog.info? 38).map (·.size) = some 5 := by kernel_rfl
theorem own_range {w : World} {b : Nat} {V : Vw} {a : Option Addr} {c : Nat} {ty : TypeId} (h : Has w b (V.cs a c) ty) : w.rangeAt b 1 (crv V.own) :=
  h.rangeMid 1 [uv V.t] (crv V.own) [.slice a V.S.length c] rfl rfl
theorem sn_range {w : World} {b o j : Nat} {S : List Sn} {s : Sn} (h : SnR w b o S) (hs : S[j]? = some s) : w.rangeAt b (o + j * 5) s.cs := fun i v hv => by
  rw [Nat.mul_comm j 5]; exact h j s hs i v hv
set_option maxHeartbeats 8000000 in
set_option maxRecDepth 100000 in
theorem same_c (V V' : Vw) (a a' : Option Addr) (c c' : Nat) (w : World) (h1 : SeenR w a V.S) (h2 : SeenR w a' V'.S) (hn : V.S.length ≤ 140737488355328) :
    Calls Tryz.prog 11 #[.agg (V.cs a c).toArray, .agg (V'.cs a' c').toArray] w fun e w' => ∃ b, e = .returned (.bool b) ∧ (b = true ↔ V = V') ∧ w.grownBy w' none := by
  obtain ⟨dc, hdc, hrc⟩ := underC
  obtain ⟨hd0, hnd, hnr⟩ := underN
  obtain ⟨n, hnn⟩ : ∃ n, V.S.length = n := ⟨_, rfl⟩
  obtain ⟨m, hmm⟩ : ∃ m, V'.S.length = m := ⟨_, rfl⟩
  obtain ⟨w0, hw0⟩ : ∃ q, w.alloc (.cells (V.cs a c).toArray 29) = q := ⟨_, rfl⟩
  obtain ⟨i0, g0, s0⟩ := hasN hw0
  obtain ⟨w1, hw1⟩ : ∃ q, w0.alloc (.cells (V'.cs a' c').toArray 29) = q := ⟨_, rfl⟩
  obtain ⟨i1, g1, s1⟩ := hasN hw1
  have HG : Keep (w.grownBy w1 none ∧ Has w1 w.heap.size (V.cs a c) 29 ∧ Has w1 w0.heap.size (V'.cs a' c') 29) := ⟨g0.trans g1, i0.kept g1 (by simp), i1⟩
  have HS := Keep.mk (And.intro h1 (And.intro h2 (And.intro hnn hmm)))
  have d0 : w1.cell? ⟨w.heap.size, 0, none⟩ = some (uv V.t) := HG.out.2.1.cellv 0 _ rfl
  have d1 : w1.cell? ⟨w0.heap.size, 0, none⟩ = some (uv V'.t) := HG.out.2.2.cellv 0 _ rfl
  have e0 : w1.cell? ⟨w.heap.size, 15, none⟩ = some (.slice a n c) := by rw [← hnn]; exact HG.out.2.1.cellv 15 _ rfl
  have e1 : w1.cell? ⟨w0.heap.size, 15, none⟩ = some (.slice a' m c') := by rw [← hmm]; exact HG.out.2.2.cellv 15 _ rfl
  have hneq := neqC V.own V'.own
  have HR1 := Keep.mk (own_range HG.out.2.1)
  have HR2 := Keep.mk (own_range HG.out.2.2)
  have hnb : n ≤ 140737488355328 := by omega
  obtain ⟨t1, ht1⟩ : ∃ q, V.t = q := ⟨_, rfl⟩
  obtain ⟨t2, ht2⟩ : ∃ q, V'.t = q := ⟨_, rfl⟩
  obtain ⟨o1, ho1⟩ : ∃ q, V.own = q := ⟨_, rfl⟩
  obtain ⟨o2, ho2⟩ : ∃ q, V'.own = q := ⟨_, rfl⟩
  have HT := Keep.mk (And.intro ht1 (And.intro ht2 (And.intro ho1 ho2)))
  rw [ht1] at d0
  rw [ht2] at d1
  rw [ho1, ho2] at hneq
  rw [ho1] at HR1
  rw [ho2] at HR2
  unfold Vw.cs at hw0 hw1 ⊢
  rw [hnn, ht1] at hw0 ⊢
  rw [hmm, ht2] at hw1 ⊢
  clear i0 g0 s0 i1 g1 s1 h1 h2 hn hnn hmm ht1 ht2 ho1 ho2
  by_cases ht : t1 = t2
  rotate_left
  · have hq : (t1 == t2) = false := by simp [ht]
    have HQ : Keep (¬ V = V') := ⟨fun e => ht (by rw [← HT.out.1, ← HT.out.2.1, e])⟩
    have hq2 : (t1 != t2) = true := by simp [ht]
    clear ht
    go_enter Tryz.func11, Tryz.ntmps11
    go_wp2_with fail
    go_ret
    exact ⟨false, rfl, by simp [HQ.out], HG.out.1⟩
  have hq : (t1 == t2) = true := by simp [ht]
  have hq2 : (t1 != t2) = false := by simp [ht]
  by_cases ho : o1 = o2
  rotate_left
  · have HQ : Keep (¬ V = V') := ⟨fun e => ho (by rw [← HT.out.2.2.1, ← HT.out.2.2.2, e])⟩
    rw [decide_eq_false ho] at hneq
    clear ho ht
    go_enter Tryz.func11, Tryz.ntmps11
    go_wp2_with (first
      | (with_reducible show wpList _ _ _ ({ dst := _, op := Op.load 26 (Operand.tmp 12), type := _, pos := _, after := _, guard := _ } :: _) _ _
         refine load_g rfl 26 _ rfl w.heap.size 1 rfl (crv o1) dc HR1.out hdc hrc infoC ?_)
      | (with_reducible show wpList _ _ _ ({ dst := _, op := Op.load 26 (Operand.tmp 14), type := _, pos := _, after := _, guard := _ } :: _) _ _
         refine load_g rfl 26 _ rfl w0.heap.size 1 rfl (crv o2) dc HR2.out hdc hrc infoC ?_))
    go_ret
    exact ⟨false, rfl, by simp [HQ.out], HG.out.1⟩
  rw [decide_eq_true ho] at hneq
  have HTO := Keep.mk (And.intro ht ho)
  by_cases hlen : n = m
  rotate_left
  · have HQ : Keep (¬ V = V') := ⟨fun e => hlen (by rw [← HS.out.2.2.1, ← HS.out.2.2.2, e])⟩
    have hq3 : ((n : Int) != (m : Int)) = true := by simp; omega
    clear ho ht hlen
    go_enter Tryz.func11, Tryz.ntmps11
    go_wp2_with (first
      | (with_reducible show wpList _ _ _ ({ dst := _, op := Op.load 26 (Operand.tmp 12), type := _, pos := _, after := _, guard := _ } :: _) _ _
         refine load_g rfl 26 _ rfl w.heap.size 1 rfl (crv o1) dc HR1.out hdc hrc infoC ?_)
      | (with_reducible show wpList _ _ _ ({ dst := _, op := Op.load 26 (Operand.tmp 14), type := _, pos := _, after := _, guard := _ } :: _) _ _
         refine load_g rfl 26 _ rfl w0.heap.size 1 rfl (crv o2) dc HR2.out hdc hrc infoC ?_))
    go_ret
    exact ⟨false, rfl, by simp [HQ.out], HG.out.1⟩
  have hq3 : ((n : Int) != (m : Int)) = false := by simp; omega
  have HLN := Keep.mk hlen
  clear ho ht hlen
  go_enter Tryz.func11, Tryz.ntmps11
  go_wp2_with (first
    | (with_reducible show wpList _ _ _ ({ dst := _, op := Op.load 26 (Operand.tmp 12), type := _, pos := _, after := _, guard := _ } :: _) _ _
       refine load_g rfl 26 _ rfl w.heap.size 1 rfl (crv o1) dc HR1.out hdc hrc infoC ?_)
    | (with_reducible show wpList _ _ _ ({ dst := _, op := Op.load 26 (Operand.tmp 14), type := _, pos := _, after := _, guard := _ } :: _) _ _
       refine load_g rfl 26 _ rfl w0.heap.size 1 rfl (crv o2) dc HR2.out hdc hrc infoC ?_))
  go_loopw [5] (fun t w' => ∃ j : Nat, j ≤ n ∧ t = .int .i64 j ∧ Keep (w1.grownBy w' none ∧ ∀ i, i < j → V.S[i]? = V'.S[i]?)) (fun t _ => n - (intOf t).toNat)
  case atStart => exact ⟨0, by omega, rfl, ⟨World.grownBy.refl _ _, fun i hi => by omega⟩⟩
  case round =>
    obtain ⟨j, hjn, rfl, hrel⟩ := hrel
    by_cases hlt : j < n
    · obtain ⟨s1, hs1⟩ := some_at (l := V.S) (k := j) (by rw [HS.out.2.2.1]; exact hlt)
      obtain ⟨s2, hs2⟩ := some_at (l := V'.S) (k := j) (by rw [HS.out.2.2.2, ← HLN.out]; exact hlt)
      obtain ⟨sb, so, ha, hSR⟩ := HS.out.1 (fun e => by rw [e] at hs1; cases hs1)
      obtain ⟨sb', so', ha', hSR'⟩ := HS.out.2.1 (fun e => by rw [e] at hs2; cases hs2)
      have c0 : wr.cell? ⟨w.heap.size, 15, none⟩ = some (.slice (some ⟨sb, so, none⟩) n c) := by rw [← ha]; exact hrel.out.1.cell e0 (by simp)
      have c1 : wr.cell? ⟨w0.heap.size, 15, none⟩ = some (.slice (some ⟨sb', so', none⟩) m c') := by rw [← ha']; exact hrel.out.1.cell e1 (by simp)
      have HR1 : Keep (wr.rangeAt sb (so + j * 5) s1.cs) := ⟨fun i v hv => hrel.out.1.cell (HG.out.1.cell (sn_range hSR hs1 i v hv) (by simp)) (by simp)⟩
      have HR2 : Keep (wr.rangeAt sb' (so' + j * 5) s2.cs) := ⟨fun i v hv => hrel.out.1.cell (HG.out.1.cell (sn_range hSR' hs2 i v hv) (by simp)) (by simp)⟩
      have hltI : (j : Int) < (n : Int) := by omega
      have hltM : (j : Int) < (m : Int) := by have := HLN.out; omega
      have hN := neqN s1 s2
      have HE := Keep.mk (And.intro hrel.out.1 (And.intro hrel.out.2 (And.intro hs1 hs2)))
      clear ha ha' hSR hSR' hs1 hs2 hrel
      by_cases hss : s1 = s2
      · rw [decide_eq_true hss] at hN
        have HSS := Keep.mk hss
        clear hss
        go_wp2_with fail
        refine region_Y (S := fun w' => wr.grownBy w' none) [] (by kernel_rfl) ?_
        have hHeld := gr_drew wr none
        refine wpAnyY_pure (i := 0) (oi := _) (v := ?_) rfl (by kernel_rfl) (by kernel_rfl) (by kernel_rfl) (by kernel_rfl) (fun _ _ _ h => h) (Or.inl ⟨by rfl, ?_⟩) ?_
        rotate_left
        · (intro w hSw; go_simp; first | done | (with_reducible rfl))
        simp only [Act.put, List.getElem_toArray, List.getElem_cons_zero, List.setIfInBounds_toArray, List.set_cons_zero, List.set_cons_succ]
        refine wpAnyY_take (i := 1) (oi := _) (v := ?_) rfl (by kernel_rfl) (by kernel_rfl) (by kernel_rfl) (by kernel_rfl) (by kernel_rfl) (fun _ _ _ h => h) (Or.inl ⟨by rfl, ?_⟩) (by assumption) ?_
        rotate_left
        · (intro w hSw; have x1 := World.grownBy.cell hSw c0 (by simp); go_simp; first | done | (with_reducible rfl))
        simp only [Act.put, List.getElem_toArray, List.getElem_cons_succ, List.getElem_cons_zero, List.setIfInBounds_toArray, List.set_cons_zero, List.set_cons_succ]
        refine wpAnyY_pure (i := 2) (oi := _) (v := ?_) rfl (by kernel_rfl) (by kernel_rfl) (by kernel_rfl) (by kernel_rfl) (fun _ _ _ h => h) (Or.inl ⟨by rfl, ?_⟩) ?_
        rotate_left
        · (intro w hSw; go_simp; first | done | (with_reducible rfl))
        simp only [Act.put, List.getElem_toArray, List.getElem_cons_succ, List.getElem_cons_zero, List.setIfInBounds_toArray, List.set_cons_zero, List.set_cons_succ]
        refine wpAnyY_pure (i := 3) (oi := _) (v := ?_) rfl (by kernel_rfl) (by kernel_rfl) (by kernel_rfl) (by kernel_rfl) (fun _ _ _ h => h) (Or.inl ⟨by rfl, ?_⟩) ?_
        rotate_left
        · (intro w hSw; go_simp; first | done | (with_reducible rfl))
        simp only [Act.put, List.getElem_toArray, List.getElem_cons_succ, List.getElem_cons_zero, List.setIfInBounds_toArray, List.set_cons_zero, List.set_cons_succ]
        refine wpAnyY_take (i := 4) (oi := _) (v := .agg s1.cs.toArray) rfl (by kernel_rfl) (by kernel_rfl) (by kernel_rfl) (by kernel_rfl) (by kernel_rfl) (fun _ _ _ h => h) (yieldsIf_load_mid (by rfl) 38 _ rfl _ _ rfl _ _ (fun w hSw i v hv => World.grownBy.cell hSw (HR1.out i v hv) (by simp)) hnd hnr infoN) (by assumption) ?_
        simp only [Act.put, List.getElem_toArray, List.getElem_cons_succ, List.getElem_cons_zero, List.setIfInBounds_toArray, List.set_cons_zero, List.set_cons_succ]
        refine wpAnyY_pure (i := 5) (oi := _) (v := ?_) rfl (by kernel_rfl) (by kernel_rfl) (by kernel_rfl) (by kernel_rfl) (fun _ _ _ h => h) (Or.inl ⟨by rfl, ?_⟩) ?_
        rotate_left
        · (intro w hSw; go_simp; first | done | (with_reducible rfl))
        simp only [Act.put, List.getElem_toArray, List.getElem_cons_succ, List.getElem_cons_zero, List.setIfInBounds_toArray, List.set_cons_zero, List.set_cons_succ]
        refine wpAnyY_take (i := 6) (oi := _) (v := ?_) rfl (by kernel_rfl) (by kernel_rfl) (by kernel_rfl) (by kernel_rfl) (by kernel_rfl) (fun _ _ _ h => h) (Or.inl ⟨by rfl, ?_⟩) (by assumption) ?_
        rotate_left
        · (intro w hSw; have x1 := World.grownBy.cell hSw c1 (by simp); go_simp; first | done | (with_reducible rfl))
        simp only [Act.put, List.getElem_toArray, List.getElem_cons_succ, List.getElem_cons_zero, List.setIfInBounds_toArray, List.set_cons_zero, List.set_cons_succ]
        refine wpAnyY_pure (i := 7) (oi := _) (v := ?_) rfl (by kernel_rfl) (by kernel_rfl) (by kernel_rfl) (by kernel_rfl) (fun _ _ _ h => h) (Or.inl ⟨by rfl, ?_⟩) ?_
        rotate_left
        · (intro w hSw; go_simp; first | done | (with_reducible rfl))
        simp only [Act.put, List.getElem_toArray, List.getElem_cons_succ, List.getElem_cons_zero, List.setIfInBounds_toArray, List.set_cons_zero, List.set_cons_succ]
        refine wpAnyY_pure (i := 8) (oi := _) (v := ?_) rfl (by kernel_rfl) (by kernel_rfl) (by kernel_rfl) (by kernel_rfl) (fun _ _ _ h => h) (Or.inl ⟨by rfl, ?_⟩) ?_
        rotate_left
        · (intro w hSw; go_simp; first | done | (with_reducible rfl))
        simp only [Act.put, List.getElem_toArray, List.getElem_cons_succ, List.getElem_cons_zero, List.setIfInBounds_toArray, List.set_cons_zero, List.set_cons_succ]
        refine wpAnyY_take (i := 9) (oi := _) (v := .agg s2.cs.toArray) rfl (by kernel_rfl) (by kernel_rfl) (by kernel_rfl) (by kernel_rfl) (by kernel_rfl) (fun _ _ _ h => h) (yieldsIf_load_mid (by rfl) 38 _ rfl _ _ rfl _ _ (fun w hSw i v hv => World.grownBy.cell hSw (HR2.out i v hv) (by simp)) hnd hnr infoN) (by assumption) ?_
        simp only [Act.put, List.getElem_toArray, List.getElem_cons_succ, List.getElem_cons_zero, List.setIfInBounds_toArray, List.set_cons_zero, List.set_cons_succ]
        refine wpAnyY_pure (i := 10) (oi := _) (v := ?_) rfl (by kernel_rfl) (by kernel_rfl) (by kernel_rfl) (by kernel_rfl) (fun _ _ _ h => h) (Or.inl ⟨by rfl, ?_⟩) ?_
        rotate_left
        · (intro w hSw; go_simp; first | done | (with_reducible rfl))
        simp only [Act.put, List.getElem_toArray, List.getElem_cons_succ, List.getElem_cons_zero, List.setIfInBounds_toArray, List.set_cons_zero, List.set_cons_succ]
        refine wpAnyY_done (by kernel_rfl) ?_ _
        have HNX : Keep (w1.grownBy wr.drew none ∧ ∀ i, i < j + 1 → V.S[i]? = V'.S[i]?) := by
          refine ⟨HE.out.1.trans (gr_drew _ none), fun i hi => ?_⟩
          by_cases hij : i < j
          · exact HE.out.2.1 i hij
          · obtain rfl : i = j := by omega
            rw [HE.out.2.2.1, HE.out.2.2.2, HSS.out]
        clear HE c0 c1
        go_wp2_with fail
        go_roundw
        case rel => exact ⟨j + 1, by omega, by go_num, HNX⟩
        case measure => simp [intOf]; omega
      · have HQ : Keep (¬ V = V') := by
          refine ⟨fun e => hss ?_⟩
          have h1 := HE.out.2.2.1
          have h2 := HE.out.2.2.2
          rw [e, h2] at h1
          exact (Option.some.inj h1).symm
        rw [decide_eq_false hss] at hN
        have HGG : Keep (w.grownBy wr.drew none) := ⟨(HG.out.1.trans HE.out.1).trans (gr_drew _ none)⟩
        clear hss HE
        go_wp2_with fail
        refine region_Y (S := fun w' => wr.grownBy w' none) [] (by kernel_rfl) ?_
        have hHeld := gr_drew wr none
        refine wpAnyY_pure (i := 0) (oi := _) (v := ?_) rfl (by kernel_rfl) (by kernel_rfl) (by kernel_rfl) (by kernel_rfl) (fun _ _ _ h => h) (Or.inl ⟨by rfl, ?_⟩) ?_
        rotate_left
        · (intro w hSw; go_simp; first | done | (with_reducible rfl))
        simp only [Act.put, List.getElem_toArray, List.getElem_cons_zero, List.setIfInBounds_toArray, List.set_cons_zero, List.set_cons_succ]
        refine wpAnyY_take (i := 1) (oi := _) (v := ?_) rfl (by kernel_rfl) (by kernel_rfl) (by kernel_rfl) (by kernel_rfl) (by kernel_rfl) (fun _ _ _ h => h) (Or.inl ⟨by rfl, ?_⟩) (by assumption) ?_
        rotate_left
        · (intro w hSw; have x1 := World.grownBy.cell hSw c0 (by simp); go_simp; first | done | (with_reducible rfl))
        simp only [Act.put, List.getElem_toArray, List.getElem_cons_succ, List.getElem_cons_zero, List.setIfInBounds_toArray, List.set_cons_zero, List.set_cons_succ]
        refine wpAnyY_pure (i := 2) (oi := _) (v := ?_) rfl (by kernel_rfl) (by kernel_rfl) (by kernel_rfl) (by kernel_rfl) (fun _ _ _ h => h) (Or.inl ⟨by rfl, ?_⟩) ?_
        rotate_left
        · (intro w hSw; go_simp; first | done | (with_reducible rfl))
        simp only [Act.put, List.getElem_toArray, List.getElem_cons_succ, List.getElem_cons_zero, List.setIfInBounds_toArray, List.set_cons_zero, List.set_cons_succ]
        refine wpAnyY_pure (i := 3) (oi := _) (v := ?_) rfl (by kernel_rfl) (by kernel_rfl) (by kernel_rfl) (by kernel_rfl) (fun _ _ _ h => h) (Or.inl ⟨by rfl, ?_⟩) ?_
        rotate_left
        · (intro w hSw; go_simp; first | done | (with_reducible rfl))
        simp only [Act.put, List.getElem_toArray, List.getElem_cons_succ, List.getElem_cons_zero, List.setIfInBounds_toArray, List.set_cons_zero, List.set_cons_succ]
        refine wpAnyY_take (i := 4) (oi := _) (v := .agg s1.cs.toArray) rfl (by kernel_rfl) (by kernel_rfl) (by kernel_rfl) (by kernel_rfl) (by kernel_rfl) (fun _ _ _ h => h) (yieldsIf_load_mid (by rfl) 38 _ rfl _ _ rfl _ _ (fun w hSw i v hv => World.grownBy.cell hSw (HR1.out i v hv) (by simp)) hnd hnr infoN) (by assumption) ?_
        simp only [Act.put, List.getElem_toArray, List.getElem_cons_succ, List.getElem_cons_zero, List.setIfInBounds_toArray, List.set_cons_zero, List.set_cons_succ]
        refine wpAnyY_pure (i := 5) (oi := _) (v := ?_) rfl (by kernel_rfl) (by kernel_rfl) (by kernel_rfl) (by kernel_rfl) (fun _ _ _ h => h) (Or.inl ⟨by rfl, ?_⟩) ?_
        rotate_left
        · (intro w hSw; go_simp; first | done | (with_reducible rfl))
        simp only [Act.put, List.getElem_toArray, List.getElem_cons_succ, List.getElem_cons_zero, List.setIfInBounds_toArray, List.set_cons_zero, List.set_cons_succ]
        refine wpAnyY_take (i := 6) (oi := _) (v := ?_) rfl (by kernel_rfl) (by kernel_rfl) (by kernel_rfl) (by kernel_rfl) (by kernel_rfl) (fun _ _ _ h => h) (Or.inl ⟨by rfl, ?_⟩) (by assumption) ?_
        rotate_left
        · (intro w hSw; have x1 := World.grownBy.cell hSw c1 (by simp); go_simp; first | done | (with_reducible rfl))
        simp only [Act.put, List.getElem_toArray, List.getElem_cons_succ, List.getElem_cons_zero, List.setIfInBounds_toArray, List.set_cons_zero, List.set_cons_succ]
        refine wpAnyY_pure (i := 7) (oi := _) (v := ?_) rfl (by kernel_rfl) (by kernel_rfl) (by kernel_rfl) (by kernel_rfl) (fun _ _ _ h => h) (Or.inl ⟨by rfl, ?_⟩) ?_
        rotate_left
        · (intro w hSw; go_simp; first | done | (with_reducible rfl))
        simp only [Act.put, List.getElem_toArray, List.getElem_cons_succ, List.getElem_cons_zero, List.setIfInBounds_toArray, List.set_cons_zero, List.set_cons_succ]
        refine wpAnyY_pure (i := 8) (oi := _) (v := ?_) rfl (by kernel_rfl) (by kernel_rfl) (by kernel_rfl) (by kernel_rfl) (fun _ _ _ h => h) (Or.inl ⟨by rfl, ?_⟩) ?_
        rotate_left
        · (intro w hSw; go_simp; first | done | (with_reducible rfl))
        simp only [Act.put, List.getElem_toArray, List.getElem_cons_succ, List.getElem_cons_zero, List.setIfInBounds_toArray, List.set_cons_zero, List.set_cons_succ]
        refine wpAnyY_take (i := 9) (oi := _) (v := .agg s2.cs.toArray) rfl (by kernel_rfl) (by kernel_rfl) (by kernel_rfl) (by kernel_rfl) (by kernel_rfl) (fun _ _ _ h => h) (yieldsIf_load_mid (by rfl) 38 _ rfl _ _ rfl _ _ (fun w hSw i v hv => World.grownBy.cell hSw (HR2.out i v hv) (by simp)) hnd hnr infoN) (by assumption) ?_
        simp only [Act.put, List.getElem_toArray, List.getElem_cons_succ, List.getElem_cons_zero, List.setIfInBounds_toArray, List.set_cons_zero, List.set_cons_succ]
        refine wpAnyY_pure (i := 10) (oi := _) (v := ?_) rfl (by kernel_rfl) (by kernel_rfl) (by kernel_rfl) (by kernel_rfl) (fun _ _ _ h => h) (Or.inl ⟨by rfl, ?_⟩) ?_
        rotate_left
        · (intro w hSw; go_simp; first | done | (with_reducible rfl))
        simp only [Act.put, List.getElem_toArray, List.getElem_cons_succ, List.getElem_cons_zero, List.setIfInBounds_toArray, List.set_cons_zero, List.set_cons_succ]
        refine wpAnyY_done (by kernel_rfl) ?_ _
        go_wp2_with fail
        go_ret
        exact ⟨false, rfl, by simp [HQ.out], HGG.out⟩
    · obtain rfl : j = n := by omega
      have HQ : Keep (V = V') := by
        refine ⟨vw_ext (by rw [HT.out.1, HT.out.2.1]; exact HTO.out.1) (by rw [HT.out.2.2.1, HT.out.2.2.2]; exact HTO.out.2) (List.ext_getElem? (fun i => ?_))⟩
        by_cases hij : i < j
        · exact hrel.out.2 i hij
        · rw [List.getElem?_eq_none (by have := HS.out.2.2.1; omega), List.getElem?_eq_none (by have := HS.out.2.2.2; have := HLN.out; omega)]
      have HGG : Keep (w.grownBy wr none) := ⟨HG.out.1.trans hrel.out.1⟩
      have c0 : wr.cell? ⟨w.heap.size, 15, none⟩ = some (.slice a j c) := hrel.out.1.cell e0 (by simp)
      clear hrel
      go_wp2_with fail
      go_ret
      exact ⟨true, rfl, by simp [HQ.out], HGG.out⟩
end Go.Proofs.YtkdjcknikhgfkabGreatDoor.Pk.Sn

namespace Go.Proofs.YtkdjcknikhgfkabGreatDoor.Pk.Sn
open Go Go.RowKit

/-- a snapshot's body -/
def snB (ses seq : Nat) (b : List UInt8) : List UInt8 := [74, 48, 49, 6] ++ (be 8 ses ++ (be 8 seq ++ b))
theorem snB_len (ses seq : Nat) (b : List UInt8) : (snB ses seq b).length = 20 + b.length := by
  simp [snB, be_len]; omega
set_option maxRecDepth 100000 in
theorem fields6 : fieldsL 6 = [.session, .seq, .view, .tag] := by simp [fieldsL]
set_option maxRecDepth 100000 in
theorem enc_snap {ses seq : Nat} {b : ByteArray} {t : List UInt8} (h1 : ses < 18446744073709551616) (h2 : seq < 18446744073709551616) (ht : t.length = 32) : enc ((mkD ses seq b).wear (ba t)) = if 1148 < b.size then ([], 72) else (snB ses seq (sl b) ++ t, 0) := by
  have hk : ((mkD ses seq b).wear (ba t)).kind = 6 := rfl
  have hh : headL ((mkD ses seq b).wear (ba t)) = [74, 48, 49, 6] := rfl
  have e1 : ∀ L : List UInt8, wNum (some L) ses 8 = some (L ++ be 8 ses) := fun L => wNum_some L ses 8 8 rfl (by omega) (by omega) (by show _ < 18446744073709551616; exact h1)
  have e2 : ∀ L : List UInt8, wNum (some L) seq 8 = some (L ++ be 8 seq) := fun L => wNum_some L seq 8 8 rfl (by omega) (by omega) (by show _ < 18446744073709551616; exact h2)
  have hl : lays ((mkD ses seq b).wear (ba t)) [.session, .seq, .view, .tag] (some [74, 48, 49, 6], false) = (some (snB ses seq (sl b) ++ t), false) := by
    show (wBytes (wBytes (wNum (wNum (some [74, 48, 49, 6]) ses 8) seq 8) (sl b)) (sl (ba t)), (false || !decide ((ba t).size = 32))) = _
    rw [e1, e2, show sl (ba t) = t from sl_mk t]
    have hs : (ba t).size = 32 := by rw [ba_size]; exact ht
    rw [hs]
    simp [wBytes, snB, List.append_assoc]
  unfold enc
  rw [hk, fields6, if_neg (by simp), hh, hl]
  unfold finish
  simp only [Bool.false_eq_true, if_false, List.length_append, snB_len, ht, sl_len]
  by_cases hb : 1148 < b.size
  · rw [if_pos hb, if_pos (by omega)]
  · rw [if_neg hb, if_neg (by omega)]
set_option maxRecDepth 100000 in
theorem kind_snap (ses seq : Nat) (b t : List UInt8) : kindL (snB ses seq b ++ t) = 6 := rfl
set_option maxRecDepth 100000 in
theorem only_snap (ses seq : Nat) (b x : ByteArray) : onlyD ((mkD ses seq b).wear x) = (mkD ses seq b).wear x := by
  have hk : ((mkD ses seq b).wear x).kind = 6 := rfl
  unfold onlyD
  rw [hk, fields6]
  rfl
theorem hmS (key text : ByteArray) : sl (hmacB key text) = Mac.hmac (sl key) (sl text) := hmacB_sl key text
theorem dec_snap {ses seq : Nat} {b : ByteArray} {t : List UInt8} (h1 : ses < 18446744073709551616) (h2 : seq < 18446744073709551616) (ht : t.length = 32) (hb : b.size ≤ 1148) : dec (snB ses seq (sl b) ++ t) = ((mkD ses seq b).wear (ba t), 0) := by
  have e := enc_snap (b := b) h1 h2 ht
  rw [if_neg (by omega)] at e
  have := dec_enc ((mkD ses seq b).wear (ba t)) (Dg.wear_fine (mk_fine b h1 h2) _) (by rw [e])
  rw [e, only_snap] at this
  exact this
theorem seal_snap {ses seq : Nat} {b key : ByteArray} (h1 : ses < 18446744073709551616) (h2 : seq < 18446744073709551616) : sealD (mkD ses seq b) key = if 1148 < b.size then (nob, 72) else (ba (snB ses seq (sl b) ++ Mac.hmac (sl key) (snB ses seq (sl b))), 0) := by
  have hz : (List.replicate 32 (0 : UInt8)).length = 32 := by simp
  have e := enc_snap (b := b) h1 h2 hz
  have hbare : (mkD ses seq b).bare = (mkD ses seq b).wear (ba (List.replicate 32 0)) := rfl
  rw [← hbare] at e
  have hk : 3 ≤ (mkD ses seq b).kind ∧ (mkD ses seq b).kind ≤ 7 := by show (3 : Int) ≤ 6 ∧ (6 : Int) ≤ 7; omega
  rw [sealD, if_pos hk, e]
  by_cases hb : 1148 < b.size
  · rw [if_pos hb, if_pos hb, if_neg (by decide)]
  · rw [if_neg hb, if_neg hb, if_pos rfl]
    have hB : bodyB (ba (snB ses seq (sl b) ++ List.replicate 32 0)) = ba (snB ses seq (sl b)) := body_cut (by rw [snB_len]; omega) hz (by rw [show kindL (snB ses seq (sl b)) = 6 from rfl]; omega)
    simp only [hB]
    have : ba (snB ses seq (sl b)) ++ hmacB key (ba (snB ses seq (sl b))) = ba (snB ses seq (sl b) ++ Mac.hmac (sl key) (snB ses seq (sl b))) := by
      apply sl_inj
      rw [sl_app, hmS]
      simp only [show ∀ l, sl (ba l) = l from sl_mk]
    rw [this]
theorem un_snap {ses seq : Nat} {b key : ByteArray} {t : List UInt8} (h1 : ses < 18446744073709551616) (h2 : seq < 18446744073709551616) (ht : t.length = 32) (hb : b.size ≤ 1148) : unS (ba (snB ses seq (sl b) ++ t)) key = if t = Mac.hmac (sl key) (snB ses seq (sl b)) then ((mkD ses seq b).wear (ba t), 0) else (Dg.zero 0, 124) := by
  have hd := dec_snap (b := b) h1 h2 ht hb
  have hs := sealed_cut (B := snB ses seq (sl b)) (t := t) (by rw [snB_len]; omega) ht (by rw [show kindL (snB ses seq (sl b)) = 6 from rfl]; omega) key
  have hq : (ba t = hmacB key (ba (snB ses seq (sl b)))) ↔ t = Mac.hmac (sl key) (snB ses seq (sl b)) := by
    constructor
    · intro e
      have := congrArg sl e
      rw [hmS] at this
      simpa only [show ∀ l, sl (ba l) = l from sl_mk] using this
    · intro e
      apply sl_inj
      rw [hmS]
      simpa only [show ∀ l, sl (ba l) = l from sl_mk] using e
  unfold unS
  rw [show sl (ba (snB ses seq (sl b) ++ t)) = snB ses seq (sl b) ++ t from sl_mk _, hd, if_pos rfl, if_pos (show ((mkD ses seq b).wear (ba t)).kind = 6 from rfl), hs]
  by_cases e : t = Mac.hmac (sl key) (snB ses seq (sl b))
  · rw [if_pos e, decide_eq_true (hq.2 e), if_pos rfl]
  · rw [if_neg e, decide_eq_false (fun q => e (hq.1 q)), if_neg (by decide)]
theorem op_yes {ses seq : Nat} {b key : ByteArray} (h1 : ses < 18446744073709551616) (h2 : seq < 18446744073709551616) (hb : b.size ≤ 1148) (ht : (Mac.hmac (sl key) (snB ses seq (sl b))).length = 32) (hr : (rdV (sl b)).2 = 0) : opS (ba (snB ses seq (sl b) ++ Mac.hmac (sl key) (snB ses seq (sl b)))) key = (ses, seq, (rdV (sl b)).1, 0) := by
  have hu := un_snap (b := b) (key := key) h1 h2 ht hb
  rw [if_pos rfl] at hu
  unfold opS
  rw [hu, if_pos rfl]
  show (if (rdV (sl b)).2 = 0 then (ses, seq, (rdV (sl b)).1, (0 : Int)) else (0, 0, Vw.zero, (rdV (sl b)).2)) = _
  rw [if_pos hr]
theorem op_tag {ses seq : Nat} {b key : ByteArray} {t : List UInt8} (h1 : ses < 18446744073709551616) (h2 : seq < 18446744073709551616) (ht : t.length = 32) (hb : b.size ≤ 1148) (hn : t ≠ Mac.hmac (sl key) (snB ses seq (sl b))) : opS (ba (snB ses seq (sl b) ++ t)) key = (0, 0, Vw.zero, 124) := by
  have hu := un_snap (b := b) (key := key) h1 h2 ht hb
  rw [if_neg hn] at hu
  rw [op_1 (by rw [hu]; decide), hu]
/-- what Open refuses tells nothing -/
theorem op_zero (s key : ByteArray) (h : (opS s key).2.2.2 ≠ 0) : opS s key = (0, 0, Vw.zero, (opS s key).2.2.2) := by
  by_cases h1 : (unS s key).2 = 0
  · by_cases h2 : (rdV (sl (unS s key).1.data)).2 = 0
    · rw [op_3 h1 h2] at h; exact absurd rfl h
    · rw [op_2 h1 h2]
  · rw [op_1 h1]
end Go.Proofs.YtkdjcknikhgfkabGreatDoor.Pk.Sn

namespace Go.Proofs.YtkdjcknikhgfkabGreatDoor.Pk.Sn
open Go Go.RowKit

theorem wpList_bs_all {P : Program} {ops : Array Oper} {rest : List Oper} {o : Oper} {a : Act} {w : World} {Q : Exit → Act → World → Prop} (hgd : o.guard = none) (t : TypeId) (n : Nat) (parts : Array (Nat × Operand)) (ho : o.op = .buildSlice t n parts) (ps : Array (Nat × Value)) (hp : parts.map (fun (i, x) => (i, a.eval x)) = ps) {v' : Value} {w' : World} (hr : (Instr.buildSlice t n ps).run P w = .ok v' w') (h : wpList P ops Q rest (a.put o.dst v') w') : wpList P ops Q (o :: rest) a w :=
  wpList_plain hgd fun _ hK => by
    unfold Oper.wp execOp
    simp only [ho, Sem.run_bind, Sem.run_pure, Result.andThen_ok, hp, hr]
    exact hK _ _ h
theorem fls_at (S : List Sn) (j : Nat) (s : Sn) (h : S[j]? = some s) (i : Nat) (z : Value) (hz : s.cs[i]? = some z) : (fls S)[5 * j + i]? = some z := by
  induction S generalizing j with
  | nil => cases h
  | cons a r ih =>
    have e : fls (a :: r) = a.cs ++ fls r := by simp [fls]
    have hi : i < 5 := by
      have := (List.getElem?_eq_some_iff.1 hz).1
      exact this
    rw [e]
    cases j with
    | zero =>
      obtain rfl := Option.some.inj h
      rw [List.getElem?_append_left (by show 5 * 0 + i < 5; omega)]
      simpa using hz
    | succ j =>
      have hl : a.cs.length = 5 := rfl
      rw [List.getElem?_append_right (by rw [hl]; omega), hl, show 5 * (j + 1) + i - 5 = 5 * j + i by omega]
      exact ih j h
theorem fls_snr {w : World} {b : Nat} {S : List Sn} {ty : TypeId} (h : Has w b (fls S) ty) : SnR w b 0 S := fun j s hj i z hz => by
  rw [Nat.zero_add]; exact h.cellv _ z (fls_at S j s hj i z hz)
def S0 : Sn := ⟨2, 7, 0, 65536, 0⟩
def V0 : Vw := ⟨258, 1, ⟨#[97, 98]⟩, 65536, -1, 0, 0, 0, 100, 0, 0, 0, 0, 0, 0, [S0]⟩
set_option maxRecDepth 100000 in
theorem bt1 : Tryz.prog.built 24 [(0, .int .i64 65536), (1, .int .i64 (-1))] = some #[.int .i64 65536, .int .i64 (-1)] := by kernel_rfl
set_option maxRecDepth 100000 in
theorem bt2 : Tryz.prog.built 26 [(0, .int .i64 1), (1, .string { data := #[97, 98] }), (2, .agg #[.int .i64 65536, .int .i64 (-1)]), (5, .int .i64 100)] = some (crv V0.own).toArray := by kernel_rfl
set_option maxRecDepth 100000 in
theorem bt3 : Tryz.prog.built 24 [(1, .int .i64 65536)] = some #[.int .i64 0, .int .i64 65536] := by kernel_rfl
set_option maxRecDepth 100000 in
theorem bt4 : Tryz.prog.built 38 [(0, .int .i64 2), (1, .int .i64 7), (2, .agg #[.int .i64 0, .int .i64 65536])] = some S0.cs.toArray := by kernel_rfl
set_option maxRecDepth 100000 in
theorem bt5 (b : Nat) : Tryz.prog.built 29 [(0, .int .u64 258), (1, .agg (crv V0.own).toArray), (2, .slice (some ⟨b, 0, none⟩) 1 1)] = some (V0.cs (some ⟨b, 0, none⟩) 1).toArray := by kernel_rfl
set_option maxRecDepth 100000 in
theorem bsN (s : Sn) (W : World) : (Instr.buildSlice 27 1 #[(0, .agg s.cs.toArray)]).run Tryz.prog W = .ok (.slice (some ⟨W.heap.size, 0, none⟩) 1 1) (W.alloc (.cells s.cs.toArray 38)) := by kernel_rfl
theorem v0_ok : V0.ok := by
  refine ⟨?_, ?_⟩
  · simp [hK, hMs, Mk.kd, Vw.lv, V0, okL, okK, sl]
  · intro s hs
    simp only [V0, List.mem_singleton] at hs
    subst hs
    simp [Sn.ok, tK, tMs, Mk.kd, Sn.lv, S0, okL, okK]
theorem v0_fit : fitV V0 := by
  refine ⟨?_, ?_⟩
  · simp [hK, hMs, Mk.kd, Vw.lv, V0, fitL, fitK, sl]
  · intro s hs
    simp only [V0, List.mem_singleton] at hs
    subst hs
    simp [tK, tMs, Mk.kd, Sn.lv, S0, fitL, fitK]
def kB : ByteArray := { data := #[107] }
def lB : ByteArray := { data := #[108] }
def E0 : List UInt8 := encV V0
def B0 : List UInt8 := snB 3 4 E0
theorem e0_len : E0.length = 135 := by unfold E0; rw [encV_len]; rfl
set_option maxRecDepth 100000 in
theorem e0_12 : E0.take 12 = [0, 0, 0, 0, 0, 0, 1, 2, 1, 2, 97, 98] := by kernel_rfl
set_option maxRecDepth 100000 in
theorem e0_last : E0[134]? = some 0 := by kernel_rfl
set_option maxRecDepth 100000 in
theorem kl : (Mac.hmac [107] B0 == Mac.hmac [108] B0) = false := by kernel_rfl
theorem wr0 : wrV V0 = (E0, 0) := wrV_yes v0_ok v0_fit
theorem rd0 : rdV E0 = (V0, 0) := rd_wr v0_ok v0_fit
def T0 : ByteArray := ba (B0 ++ Mac.hmac [107] B0)
theorem mk0 : mkS 3 4 V0 kB = (T0, 0) := by
  unfold mkS
  rw [wr0, if_pos rfl]
  have hb : (ba E0).size = 135 := by rw [ba_size, e0_len]
  have h := seal_snap (ses := 3) (seq := 4) (b := ba E0) (key := kB) (by omega) (by omega)
  rw [hb, if_neg (by omega), show sl (ba E0) = E0 from sl_mk _] at h
  exact h
theorem t0_len : T0.size = 187 := by
  unfold T0
  rw [ba_size, List.length_append, Mac.hmac_len]
  unfold B0
  rw [snB_len, e0_len]
theorem op0 : opS T0 kB = (3, 4, V0, 0) := by
  have hb : (ba E0).size = 135 := by rw [ba_size, e0_len]
  have hs : sl (ba E0) = E0 := sl_mk _
  have h := op_yes (ses := 3) (seq := 4) (b := ba E0) (key := kB) (by omega) (by omega) (by omega) (Mac.hmac_len _ _) (by rw [hs, rd0])
  rw [hs, rd0] at h
  exact h
theorem op0l : opS T0 lB = (0, 0, Vw.zero, 124) := by
  have hb : (ba E0).size = 135 := by rw [ba_size, e0_len]
  have hs : sl (ba E0) = E0 := sl_mk _
  have h := op_tag (ses := 3) (seq := 4) (b := ba E0) (key := lB) (t := Mac.hmac [107] B0) (by omega) (by omega) (Mac.hmac_len _ _) (by omega) (by
    rw [hs]
    intro e
    have := kl
    rw [show Mac.hmac [107] B0 = Mac.hmac [108] B0 from e] at this
    simp at this)
  rw [hs] at h
  exact h
theorem rd_seen {w w' : World} {V : Vw} {a : Option Addr} {c : Nat} (h : RdR w w' V a c) : SeenR w' a V.S := by
  intro q
  rcases h.s with ⟨_, _, e⟩ | ⟨b, e1, _, _, hb⟩
  · exact absurd e q
  · exact ⟨b, 0, e1, fls_snr hb⟩
set_option maxHeartbeats 8000000 in
set_option maxRecDepth 100000 in
theorem alive_c (w : World) (hk : Kc w) : Calls Tryz.prog 4 #[] w fun e w' => e = .returned (.bool true) ∧ w.grownBy w' none := by
  obtain ⟨d, hd, hrw⟩ := underV
  have HK := Keep.mk hk
  have HB := Keep.mk (And.intro bt1 (And.intro bt2 (And.intro bt3 (And.intro bt4 (bt5 w.heap.size)))))
  obtain ⟨wA, hwA⟩ : ∃ q, w.alloc (.cells S0.cs.toArray 38) = q := ⟨_, rfl⟩
  obtain ⟨hA, gA, sA⟩ := hasN hwA
  have HA := Keep.mk (And.intro hA (And.intro gA sA))
  clear hk hA gA sA
  go_enter Tryz.func4, Tryz.ntmps4
  go_wp2_with (first
      | (with_reducible show wpList _ _ _ ({ dst := some 16, op := Op.build 24 _, type := _, pos := _, after := _, guard := _ } :: _) _ _
         refine wpList_build rfl 24 _ rfl _ ((congrArg (Tryz.prog.built 24) (by first | (simp only [List.map_toArray, List.map_cons, List.map_nil, Act.eval]; done) | (simp only [List.map_toArray, List.map_cons, List.map_nil, Act.eval]; with_reducible rfl) | (simp only [List.map_toArray, List.map_cons, List.map_nil, Act.eval]; simp; done))).trans HB.out.1) ?_
         simp only [Act.put, List.setIfInBounds_toArray, List.set_cons_zero, List.set_cons_succ])
      | (with_reducible show wpList _ _ _ ({ dst := some 17, op := Op.build 26 _, type := _, pos := _, after := _, guard := _ } :: _) _ _
         refine wpList_build rfl 26 _ rfl _ ((congrArg (Tryz.prog.built 26) (by first | (simp only [List.map_toArray, List.map_cons, List.map_nil, Act.eval]; done) | (simp only [List.map_toArray, List.map_cons, List.map_nil, Act.eval]; with_reducible rfl) | (simp only [List.map_toArray, List.map_cons, List.map_nil, Act.eval]; simp; done))).trans HB.out.2.1) ?_
         simp only [Act.put, List.setIfInBounds_toArray, List.set_cons_zero, List.set_cons_succ])
      | (with_reducible show wpList _ _ _ ({ dst := some 18, op := Op.build 24 _, type := _, pos := _, after := _, guard := _ } :: _) _ _
         refine wpList_build rfl 24 _ rfl _ ((congrArg (Tryz.prog.built 24) (by first | (simp only [List.map_toArray, List.map_cons, List.map_nil, Act.eval]; done) | (simp only [List.map_toArray, List.map_cons, List.map_nil, Act.eval]; with_reducible rfl) | (simp only [List.map_toArray, List.map_cons, List.map_nil, Act.eval]; simp; done))).trans HB.out.2.2.1) ?_
         simp only [Act.put, List.setIfInBounds_toArray, List.set_cons_zero, List.set_cons_succ])
      | (with_reducible show wpList _ _ _ ({ dst := some 19, op := Op.build 38 _, type := _, pos := _, after := _, guard := _ } :: _) _ _
         refine wpList_build rfl 38 _ rfl _ ((congrArg (Tryz.prog.built 38) (by first | (simp only [List.map_toArray, List.map_cons, List.map_nil, Act.eval]; done) | (simp only [List.map_toArray, List.map_cons, List.map_nil, Act.eval]; with_reducible rfl) | (simp only [List.map_toArray, List.map_cons, List.map_nil, Act.eval]; simp; done))).trans HB.out.2.2.2.1) ?_
         simp only [Act.put, List.setIfInBounds_toArray, List.set_cons_zero, List.set_cons_succ])
      | (with_reducible show wpList _ _ _ ({ dst := some 20, op := Op.buildSlice 27 _ _, type := _, pos := _, after := _, guard := _ } :: _) _ _
         refine wpList_bs_all rfl 27 1 _ rfl #[(0, .agg S0.cs.toArray)] (by first | (simp only [List.map_toArray, List.map_cons, List.map_nil, Act.eval]; done) | (simp only [List.map_toArray, List.map_cons, List.map_nil, Act.eval]; with_reducible rfl) | (simp only [List.map_toArray, List.map_cons, List.map_nil, Act.eval]; simp; done)) (bsN S0 _) ?_
         simp only [Act.put, List.setIfInBounds_toArray, List.set_cons_zero, List.set_cons_succ]
         rw [hwA])
      | (with_reducible show wpList _ _ _ ({ dst := some 21, op := Op.build 29 _, type := _, pos := _, after := _, guard := _ } :: _) _ _
         refine wpList_build rfl 29 _ rfl _ ((congrArg (Tryz.prog.built 29) (by first | (simp only [List.map_toArray, List.map_cons, List.map_nil, Act.eval]; done) | (simp only [List.map_toArray, List.map_cons, List.map_nil, Act.eval]; with_reducible rfl) | (simp only [List.map_toArray, List.map_cons, List.map_nil, Act.eval]; simp; done))).trans HB.out.2.2.2.2) ?_
         simp only [Act.put, List.setIfInBounds_toArray, List.set_cons_zero, List.set_cons_succ])
      | (with_reducible show wpList _ _ _ ({ dst := none, op := Op.store 29 (Operand.tmp 1) _, type := _, pos := _, after := _, guard := _ } :: _) _ _
         refine st_new wA (V0.cs (some ⟨w.heap.size, 0, none⟩) 1) 29 rfl rfl rfl rfl rfl infoV (vw_one _ _ _) ?_
         intro wB h6 g6
         have HV : Keep (Has wB wA.heap.size (V0.cs (some ⟨w.heap.size, 0, none⟩) 1) 29 ∧ wA.grownBy wB none) := ⟨h6, g6⟩
         clear h6 g6)
      | (with_reducible show wpList _ _ _ ({ dst := some 23, op := Op.load 29 _, type := _, pos := _, after := _, guard := _ } :: _) _ _
         refine load_g rfl 29 _ rfl wA.heap.size 0 rfl (V0.cs (some ⟨w.heap.size, 0, none⟩) 1) d HV.out.1.range hd hrw infoV ?_))
  have HSR : Keep (SnR wB w.heap.size 0 V0.S) := by
    refine ⟨fun j s hj i z hz => ?_⟩
    match j, hj with
    | 0, hj =>
      obtain rfl := Option.some.inj hj
      have := HV.out.2.cell (HA.out.1.cellv i z hz) (by simp)
      simpa using this
  have HSE : Keep (SeenR wB (some ⟨w.heap.size, 0, none⟩) V0.S) := ⟨fun _ => ⟨w.heap.size, 0, rfl, HSR.out⟩⟩
  have HGB : Keep (w.grownBy wB none) := ⟨HA.out.2.1.trans HV.out.2⟩
  obtain ⟨s0, hs0⟩ : ∃ q, ba E0 = q := ⟨_, rfl⟩
  have HS0 : Keep (sl s0 = E0 ∧ s0.size = 135) := ⟨by rw [← hs0]; exact sl_mk _, by rw [← hs0, ba_size, e0_len]⟩
  have W1 := write_c V0 (some ⟨w.heap.size, 0, none⟩) 1 wB v0_ok HSE.out
  rw [wr0] at W1
  replace W1 := Keep.mk W1
  rw [show (⟨((E0, (0 : Int)).1).toArray⟩ : ByteArray) = s0 from hs0] at W1
  refine W1.out.mono ?_
  rintro e w2 ⟨rfl, g2⟩
  have HV2 : Keep (Has w2 wA.heap.size (V0.cs (some ⟨w.heap.size, 0, none⟩) 1) 29 ∧ w.grownBy w2 none ∧ SeenR w2 (some ⟨w.heap.size, 0, none⟩) V0.S) := ⟨HV.out.1.kept g2 (by simp), HGB.out.trans g2, HSE.out.kept g2⟩
  clear W1 HV HSR HSE HGB g2 hs0
  go_wp2_with fail
  have R1 := read_c s0 w2
  rw [HS0.out.1, rd0] at R1
  refine R1.mono ?_
  rintro e w3 ⟨a3, c3, rfl, RR3⟩
  have HR3 := Keep.mk RR3
  clear R1 RR3
  go_wp2_with (first
      | (with_reducible show wpList _ _ _ ({ dst := none, op := Op.store 29 (Operand.tmp 4) _, type := _, pos := _, after := _, guard := _ } :: _) _ _
         refine st_new w3 (V0.cs a3 c3) 29 rfl rfl rfl rfl rfl infoV (vw_one _ _ _) ?_
         intro w4 h6 g6
         have HV4 : Keep (Has w4 w3.heap.size (V0.cs a3 c3) 29 ∧ Has w4 wA.heap.size (V0.cs (some ⟨w.heap.size, 0, none⟩) 1) 29 ∧ w.grownBy w4 none ∧ SeenR w4 (some ⟨w.heap.size, 0, none⟩) V0.S ∧ SeenR w4 a3 V0.S) := ⟨h6, (HV2.out.1.kept HR3.out.g (by simp)).kept g6 (by simp), (HV2.out.2.1.trans HR3.out.g).trans g6, (HV2.out.2.2.kept HR3.out.g).kept g6, (rd_seen HR3.out).kept g6⟩
         clear h6 g6)
      | (with_reducible show wpList _ _ _ ({ dst := some 33, op := Op.load 29 _, type := _, pos := _, after := _, guard := _ } :: _) _ _
         refine load_g rfl 29 _ rfl wA.heap.size 0 rfl (V0.cs (some ⟨w.heap.size, 0, none⟩) 1) d HV4.out.2.1.range hd hrw infoV ?_))
  have M1 := make_c 3 4 V0 (some ⟨w.heap.size, 0, none⟩) 1 kB w4 (by omega) (by omega) v0_ok HV4.out.2.2.2.1 (HK.out.kept HV4.out.2.2.1 (by simp)) (by show 1 ≤ _; omega)
  rw [mk0] at M1
  refine M1.mono ?_
  rintro e w5 ⟨rfl, g5⟩
  have HV5 : Keep (Has w5 w3.heap.size (V0.cs a3 c3) 29 ∧ Has w5 wA.heap.size (V0.cs (some ⟨w.heap.size, 0, none⟩) 1) 29 ∧ w.grownBy w5 none ∧ SeenR w5 (some ⟨w.heap.size, 0, none⟩) V0.S ∧ SeenR w5 a3 V0.S) := ⟨HV4.out.1.kept g5 (by simp), HV4.out.2.1.kept g5 (by simp), HV4.out.2.2.1.trans g5, HV4.out.2.2.2.1.kept g5, HV4.out.2.2.2.2.kept g5⟩
  obtain ⟨t0, ht0⟩ : ∃ q, T0 = q := ⟨_, rfl⟩
  have HT0 : Keep (T0 = t0 ∧ t0.size = 187) := ⟨ht0, by rw [← ht0, t0_len]⟩
  rw [ht0]
  clear M1 g5 ht0 HV2 HR3 HV4
  go_wp2_with fail
  have O1 := open_c t0 kB w5 (HK.out.kept HV5.out.2.2.1 (by simp)) (by rw [HT0.out.2]; omega) (by show 1 ≤ _; omega)
  rw [← HT0.out.1, op0, HT0.out.1] at O1
  refine O1.mono ?_
  rintro e w6 ⟨a6, c6, rfl, RR6⟩
  have HR6 := Keep.mk RR6
  clear O1 RR6
  go_wp2_with (first
      | (with_reducible show wpList _ _ _ ({ dst := none, op := Op.store 29 (Operand.tmp 10) _, type := _, pos := _, after := _, guard := _ } :: _) _ _
         refine st_new w6 (V0.cs a6 c6) 29 rfl rfl rfl rfl rfl infoV (vw_one _ _ _) ?_
         intro w7 h6 g6
         have HV7 : Keep (Has w7 w3.heap.size (V0.cs a3 c3) 29 ∧ Has w7 wA.heap.size (V0.cs (some ⟨w.heap.size, 0, none⟩) 1) 29 ∧ w.grownBy w7 none ∧ SeenR w7 (some ⟨w.heap.size, 0, none⟩) V0.S ∧ SeenR w7 a3 V0.S ∧ Has w7 w6.heap.size (V0.cs a6 c6) 29 ∧ SeenR w7 a6 V0.S) := ⟨(HV5.out.1.kept HR6.out.g (by simp)).kept g6 (by simp), (HV5.out.2.1.kept HR6.out.g (by simp)).kept g6 (by simp), (HV5.out.2.2.1.trans HR6.out.g).trans g6, (HV5.out.2.2.2.1.kept HR6.out.g).kept g6, (HV5.out.2.2.2.2.kept HR6.out.g).kept g6, h6, (rd_seen HR6.out).kept g6⟩
         clear h6 g6))
  have O2 := open_c t0 lB w7 (HK.out.kept HV7.out.2.2.1 (by simp)) (by rw [HT0.out.2]; omega) (by show 1 ≤ _; omega)
  rw [← HT0.out.1, op0l, HT0.out.1] at O2
  refine O2.mono ?_
  rintro e w8 ⟨a8, c8, rfl, RR8⟩
  have HR8 := Keep.mk RR8
  clear O2 RR8 HV5 HR6
  have hz0 : s0.size = 135 := HS0.out.2
  have hz1 : t0.size = 187 := HT0.out.2
  have hsl : ∀ W, (Instr.slice 9 (.string s0) none (some (.int .i64 12)) none).run Tryz.prog W = .ok (.string { data := #[0, 0, 0, 0, 0, 0, 1, 2, 1, 2, 97, 98] }) W := fun W => by
    rw [run_slice_string_h W 9 s0 under9 .i64 12 (by omega) (by omega), show ((12 : Int).toNat) = 12 from rfl, ext_to, HS0.out.1, e0_12]
  have hl0 : (sl s0)[134]? = some 0 := by rw [HS0.out.1]; exact e0_last
  have hix : ∀ W, (Instr.index 9 (.string s0) (.int .i64 134)).run Tryz.prog W = .ok (.int .u8 0) W := fun W => idx9 s0 134 0 (by omega) hl0 W
  go_wp2_with (first
      | (with_reducible show wpList _ _ _ ({ dst := none, op := Op.store 29 (Operand.tmp 14) _, type := _, pos := _, after := _, guard := _ } :: _) _ _
         refine st_new w8 (Vw.zero.cs a8 c8) 29 rfl rfl rfl rfl rfl infoV (vw_one _ _ _) ?_
         intro w9 h6 g6
         have HV9 : Keep (Has w9 w3.heap.size (V0.cs a3 c3) 29 ∧ Has w9 wA.heap.size (V0.cs (some ⟨w.heap.size, 0, none⟩) 1) 29 ∧ w.grownBy w9 none ∧ SeenR w9 (some ⟨w.heap.size, 0, none⟩) V0.S ∧ SeenR w9 a3 V0.S ∧ Has w9 w6.heap.size (V0.cs a6 c6) 29 ∧ SeenR w9 a6 V0.S) := ⟨(HV7.out.1.kept HR8.out.g (by simp)).kept g6 (by simp), (HV7.out.2.1.kept HR8.out.g (by simp)).kept g6 (by simp), (HV7.out.2.2.1.trans HR8.out.g).trans g6, (HV7.out.2.2.2.1.kept HR8.out.g).kept g6, (HV7.out.2.2.2.2.1.kept HR8.out.g).kept g6, (HV7.out.2.2.2.2.2.1.kept HR8.out.g (by simp)).kept g6 (by simp), (HV7.out.2.2.2.2.2.2.kept HR8.out.g).kept g6⟩
         clear h6 g6)
      | (with_reducible show wpList _ _ _ ({ dst := some 99, op := Op.load 29 _, type := _, pos := _, after := _, guard := _ } :: _) _ _
         refine load_g rfl 29 _ rfl w3.heap.size 0 rfl (V0.cs a3 c3) d HV9.out.1.range hd hrw infoV ?_)
      | (with_reducible show wpList _ _ _ ({ dst := some 100, op := Op.load 29 _, type := _, pos := _, after := _, guard := _ } :: _) _ _
         refine load_g rfl 29 _ rfl wA.heap.size 0 rfl (V0.cs (some ⟨w.heap.size, 0, none⟩) 1) d HV9.out.2.1.range hd hrw infoV ?_))
  clear hl0
  refine (same_c V0 V0 a3 (some ⟨w.heap.size, 0, none⟩) c3 1 w9 HV9.out.2.2.2.2.1 HV9.out.2.2.2.1 (by show 1 ≤ _; omega)).mono ?_
  rintro e w10 ⟨b, rfl, hb, g10⟩
  obtain rfl : b = true := hb.2 rfl
  have HV10 : Keep (Has w10 wA.heap.size (V0.cs (some ⟨w.heap.size, 0, none⟩) 1) 29 ∧ w.grownBy w10 none ∧ SeenR w10 (some ⟨w.heap.size, 0, none⟩) V0.S ∧ Has w10 w6.heap.size (V0.cs a6 c6) 29 ∧ SeenR w10 a6 V0.S) := ⟨HV9.out.2.1.kept g10 (by simp), HV9.out.2.2.1.trans g10, HV9.out.2.2.2.1.kept g10, HV9.out.2.2.2.2.2.1.kept g10 (by simp), HV9.out.2.2.2.2.2.2.kept g10⟩
  clear hb g10 HV9
  go_wp2_with (first
      | (with_reducible show wpList _ _ _ ({ dst := some 104, op := Op.load 29 _, type := _, pos := _, after := _, guard := _ } :: _) _ _
         refine load_g rfl 29 _ rfl w6.heap.size 0 rfl (V0.cs a6 c6) d HV10.out.2.2.2.1.range hd hrw infoV ?_)
      | (with_reducible show wpList _ _ _ ({ dst := some 105, op := Op.load 29 _, type := _, pos := _, after := _, guard := _ } :: _) _ _
         refine load_g rfl 29 _ rfl wA.heap.size 0 rfl (V0.cs (some ⟨w.heap.size, 0, none⟩) 1) d HV10.out.1.range hd hrw infoV ?_))
  refine (same_c V0 V0 a6 (some ⟨w.heap.size, 0, none⟩) c6 1 w10 HV10.out.2.2.2.2 HV10.out.2.2.1 (by show 1 ≤ _; omega)).mono ?_
  rintro e w11 ⟨b, rfl, hb, g11⟩
  obtain rfl : b = true := hb.2 rfl
  have HGF := Keep.mk (HV10.out.2.1.trans g11)
  clear hb g11 HV10
  go_wp2_with fail
  go_ret
  exact ⟨rfl, HGF.out⟩
end Go.Proofs.YtkdjcknikhgfkabGreatDoor.Pk.Sn

