import Derived.Test.YtjbkoablleneeaaGreatDoorX3
import Derived.Laws.AppendOwnNone
namespace Go.Proofs.YtjbkoablleneeaaGreatDoor
open Go Go.RowKit

/-- append of a slice's bytes to a row of the call's own: its run -/
theorem app28 (w : World) (base : Nat) (v : Value) (n : Nat) (xs : List Value) (a : Option Addr) (m c : Nat) (q : List UInt8) (hown : w.ownsRow base 5 1 v n xs) (hq : BytesOf w a m c q) (hnil : a = none → c = 0) (hsz : n + m ≤ 140737488355328) (hbase : base ≤ w.heap.size) :
    ∃ v' w', (Builtin.append_ #[36, 36] 36 #[v, .slice a m c]).run Tryz.prog w = .ok v' w' ∧ w'.ownsRow base 5 1 v' (n + m) (xs ++ q.map bv) ∧ w.grownBy w' v.ownBlock := by
  have hi : ∃ i, Tryz.prog.info? 5 = some i ∧ i.size = 1 ∧ i.bytes = 1 ∧ i.zero = some (.int .u8 0) := by
    have h : (Tryz.prog.info? 5).map (fun i => (i.size, i.bytes, i.zero)) = some (1, 1, some (.int .u8 0)) := by kernel_rfl
    cases hq : Tryz.prog.info? 5 with
    | none => simp [hq] at h
    | some i =>
      simp only [hq, Option.map_some, Option.some.injEq, Prod.mk.injEq] at h
      exact ⟨i, rfl, h.1, h.2.1, h.2.2⟩
  obtain ⟨i, h1, h2, h3, h4⟩ := hi
  cases a with
  | none =>
    have hc := hnil rfl
    have hm : m = 0 := by
      rcases Nat.eq_zero_or_pos m with h | h
      · exact h
      · obtain ⟨B, o, e, _⟩ := hq.at_ h
        cases e
    have hq0 : q = [] := List.length_eq_zero_iff.1 (by rw [hq.len]; exact hm)
    subst hc hm hq0
    exact ⟨v, w, run_append_owned_none (P := Tryz.prog) w base 36 36 5 i 1 under28 h1 v n xs hown, by simpa using hown, World.grownBy.refl _ _⟩
  | some ad =>
    obtain ⟨v', w', r1, r2, r3, _⟩ := run_append_own (P := Tryz.prog) w base 36 36 5 i (.int .u8 0) 1 1 under28 h1 h4 h2 h3 rfl (by decide) v n xs hown ad m c (q.map bv) (by rw [List.length_map, hq.len, Nat.mul_one]) (fun j u hu => by
        rw [List.getElem?_map] at hu
        cases hx : q[j]? with
        | none => rw [hx] at hu; cases hu
        | some x =>
          rw [hx] at hu
          obtain rfl := Option.some.inj hu
          have hjl := (List.getElem?_eq_some_iff.1 hx).1
          obtain ⟨B, o, e, h⟩ := hq.at_ (by rw [← hq.len]; omega)
          obtain rfl := Option.some.inj e
          rw [Addr.add_mid]; exact h j x hx)
      (fun u hu => by obtain ⟨x, _, rfl⟩ := List.mem_map.1 hu; rfl) (by unfold maxLen; omega) (by omega) hbase
    exact ⟨v', w', r1, r2, r3⟩
/-- a row of the call's own as bytes -/
theorem own_bytes {w : World} {base n : Nat} {v : Value} {q : List UInt8} (h : w.ownsRow base 5 1 v n (q.map bv)) : ∃ a c, v = .slice a n c ∧ BytesOf w a n c q ∧ (a = none → c = 0) := by
  obtain ⟨hl, hc⟩ := h
  have hn : q.length = n := by rw [List.length_map, Nat.mul_one] at hl; exact hl
  rcases hc with ⟨rfl, rfl⟩ | ⟨g, cap, cur, rfl, hb, hheap, h1, h2, h3, h4⟩
  · exact ⟨none, 0, rfl, ⟨hn, Nat.le_refl _, fun h => by omega⟩, fun _ => rfl⟩
  · refine ⟨_, cap, rfl, ⟨hn, h1, fun _ => ⟨g, 0, rfl, fun j x hx => ?_⟩⟩, fun h => by cases h⟩
    have hj : j < n := by rw [← hn]; exact (List.getElem?_eq_some_iff.1 hx).1
    have e : (q.map bv)[j]? = some (bv x) := by rw [List.getElem?_map, hx]; rfl
    rw [← h4, List.getElem?_take, if_pos (by omega)] at e
    simp only [World.cell?, hheap, Nat.zero_add]
    simpa using e
set_option maxRecDepth 100000 in
theorem wpList_append_run {P : Program} (w : World) {ops : Array Oper} {rest : List Oper} {o : Oper} {a : Act} {Q : Exit → Act → World → Prop} (hgd : o.guard = none) (s x : Operand) (t : TypeId)
    (ho : o.op = .call { callee := .builtin .append, args := #[s, x], argTypes := #[t, t] }) (v u : Value) (hs : a.eval s = v) (hx : a.eval x = u) {v' : Value} {w' : World}
    (hr : (Builtin.append_ #[t, t] o.type #[v, u]).run P w = .ok v' w') (h : wpList P ops Q rest (a.put o.dst v') w') : wpList P ops Q (o :: rest) a w :=
  wpList_plain hgd fun _ hK => by
    unfold Oper.wp execOp
    simp only [ho, resolve, invoke, builtin, Sem.run_bind, Sem.run_pure, Result.andThen_ok, List.map_toArray, List.map_cons, List.map_nil, hs, hx, hr]
    exact hK _ _ h
set_option maxRecDepth 100000 in
theorem gr_row {w w1 w2 : World} {row : Option Nat} (h : w.grownBy w1 none) (k : w1.grownBy w2 row) (hr : ∀ j, row = some j → w.heap.size ≤ j) : w.grownBy w2 none :=
  ⟨k.os.trans h.os, k.tape.trans h.tape, k.output.trans h.output, Nat.le_trans h.size k.size, fun i hi _ => by
    rw [k.block i (by have := h.size; omega) (by intro e; have := hr i e.symm; omega), h.block i hi (by simp)]⟩
set_option maxRecDepth 100000 in
theorem BytesOf.keptLt {w w' : World} {a : Option Addr} {n c : Nat} {q : List UInt8} (h : BytesOf w a n c q) (hg : w.grownBy w' none) : BytesOf w' a n c q := h.kept hg

structure ORel (w w' : World) (v : Value) (q : List UInt8) : Prop where
  z : Has w' w.heap.size ((List.replicate 32 (0 : UInt8)).map bv) 76
  o : w'.ownsRow (w.heap.size + 1) 5 1 v q.length (q.map bv)
  g : w.grownBy w' none
set_option maxRecDepth 100000 in
theorem ORel.app {w w' w2 : World} {v v' : Value} {q r : List UInt8} (h : ORel w w' v q) (ho : w2.ownsRow (w.heap.size + 1) 5 1 v' (q.length + r.length) (q.map bv ++ r.map bv)) (hg : w'.grownBy w2 v.ownBlock) : ORel w w2 v' (q ++ r) := by
  have hlt := h.o.lt
  refine ⟨?_, ?_, gr_row h.g hg (fun j hj => by have := (hlt j hj).1; omega)⟩
  · refine h.z.kept hg (fun e => ?_)
    have := (hlt _ e.symm).1
    omega
  · rw [List.length_append, List.map_append]; exact ho

set_option maxRecDepth 100000 in
set_option maxHeartbeats 8000000 in
theorem rof_any (a : Option Addr) (n c : Nat) (ps : List (List UInt8)) (w : World) (hp : Parts w a n ps) (hnil : ∀ B o, a = some ⟨B, o, none⟩ → ∀ j a' n' c', j < n → w.cell? ⟨B, o + j, none⟩ = some (.slice a' n' c') → a' = none → c' = 0)
    (hrk : RK w) (hw3 : 4 ≤ w.heap.size) (hn : n ≤ 4611686018427387904) (hT : ps.flatten.length ≤ 4294967296) :
    Calls Tryz.prog 35 #[.slice a n c] w fun e w' => e = .returned (.agg ((Sha.sha ps.flatten).map bv).toArray) ∧ w.grownBy w' none := by
  have HPS : Keep (Parts w a n ps ∧ ∀ B o, a = some ⟨B, o, none⟩ → ∀ j a' n' c', j < n → w.cell? ⟨B, o + j, none⟩ = some (.slice a' n' c') → a' = none → c' = 0) := ⟨hp, hnil⟩
  have HRK : Keep (RK w) := ⟨hrk⟩
  have HT : Keep (ps.flatten.length ≤ 4294967296) := ⟨hT⟩
  clear hp hrk hT hnil
  go_enter Tryz.func35, Tryz.ntmps35
  go_wp2
  go_loopw [3, 4] (fun v t w' => ∃ (i : Nat) (a' : Option Addr) (m c' : Nat), i ≤ n ∧ t = .int .i64 i ∧ v = .slice a' m c' ∧ Keep (ORel w w' (.slice a' m c') (ps.take i).flatten)) (fun _ t _ => n - (intOf t).toNat)
  case atStart => exact ⟨0, none, 0, 0, by omega, rfl, rfl, ⟨Has.new _ _ _, World.ownsRow_nil _ _ _ _, World.grownBy_alloc _ _ _⟩⟩
  case round =>
    obtain ⟨i, a', m, c', hi, rfl, rfl, hrel⟩ := hrel
    by_cases hli : i < n
    · obtain ⟨B, o, rfl, hat⟩ := HPS.out.1.at_ (by omega)
      have hpl := HPS.out.1.len
      obtain ⟨a2, n2, c2, hcell, hby⟩ := hat i (ps[i]'(by omega)) (List.getElem?_eq_getElem (by omega))
      have hc : wr.cell? ⟨B, o + i, none⟩ = some (.slice a2 n2 c2) := hrel.out.g.cell hcell (by simp)
      have hnl : a2 = none → c2 = 0 := HPS.out.2 B o rfl i a2 n2 c2 hli hcell
      have hle : (ps.take i).flatten.length + (ps[i]'(by omega)).length ≤ 4294967296 := by
        have h1 := flat_le ps (i + 1)
        have h2 := HT.out
        rw [take_flat ps i (by omega), List.length_append] at h1
        omega
      obtain ⟨v', w', hap, hown, hgr⟩ := app28 wr (w.heap.size + 1) _ _ _ a2 n2 c2 (ps[i]'(by omega)) hrel.out.o (hby.kept hrel.out.g) hnl (by rw [← hby.len]; omega) (by have := hrel.out.z.lt; omega)
      have H2 : ORel w w' v' (ps.take (i + 1)).flatten := by
        rw [take_flat ps i (by omega)]
        rw [← hby.len] at hown
        exact hrel.out.app hown hgr
      obtain ⟨a3, c3, rfl, _, _⟩ := own_bytes H2.o
      obtain ⟨m3, hm3⟩ : ∃ x, (ps.take (i + 1)).flatten.length = x := ⟨_, rfl⟩
      have H3 : Keep (ORel w w' (.slice a3 m3 c3) (ps.take (i + 1)).flatten) := ⟨by rw [← hm3]; exact H2⟩
      have HAP : Keep ((Builtin.append_ #[36, 36] 36 #[.slice a' m c', .slice a2 n2 c2]).run Tryz.prog wr = .ok (.slice a3 m3 c3) w') := ⟨by rw [← hm3]; exact hap⟩
      clear hat hcell hby hnl hown hgr H2 hle hrel hap hm3
      go_wp2_with (at_builtin; refine wpList_append_run _ rfl _ _ 36 rfl _ _ rfl rfl HAP.out ?_)
      refine ⟨⟨i + 1, _, _, _, by omega, by go_num, rfl, H3⟩, ?_⟩
      simp [intOf]; omega
    · have HE : Keep (ORel w wr (.slice a' m c') ps.flatten ∧ m = ps.flatten.length) := ⟨by
        have hin : i = ps.length := by rw [HPS.out.1.len]; omega
        have h := hrel.out
        rw [hin, List.take_length] at h
        obtain ⟨a3, c3, e, _, _⟩ := own_bytes h.o
        exact ⟨h, by injection e⟩⟩
      have HB : Keep (BytesOf wr a' m c' ps.flatten) := ⟨by
        obtain ⟨a3, c3, e, h2, _⟩ := own_bytes HE.out.1.o
        injection e with e1 e2 e3
        subst e1 e3
        rw [HE.out.2]; exact h2⟩
      have hm : m ≤ 4294967296 := by rw [HE.out.2]; exact HT.out
      have HKr : Keep (RK wr ∧ 4 ≤ wr.heap.size) := ⟨HRK.out.kept HE.out.1.g, by have := HE.out.1.g.size; omega⟩
      clear hrel
      go_wp2_with (first
        | (go_at_call 63; refine (rsum_any _ _ _ ps.flatten _ HB.out hm HKr.out.1 HKr.out.2).mono ?_; rintro e w3 ⟨rfl, g3⟩
           have hsl : (Sha.sha ps.flatten).length = 32 := by rw [Sha.sha, out_len, Sha.fold_len]; rfl
           generalize hsv : Sha.sha ps.flatten = S at hsl ⊢
           have HSV : Keep (Sha.sha ps.flatten = S) := ⟨hsv⟩
           have H4 : Keep (Has w3 w.heap.size ((List.replicate 32 (0 : UInt8)).map bv) 76 ∧ w.grownBy w3 none) := ⟨HE.out.1.z.kept g3 (by simp), HE.out.1.g.trans g3⟩
           have HSS : Keep ((Tryz.prog.info? 76).map (·.size) = some (S.map bv).length ∧ (S.map bv).length = 32) := ⟨by rw [List.length_map, hsl]; exact ⟨size25, rfl⟩⟩
           clear g3 hsv hsl)
        | (refine wpList_store_mid rfl 76 _ _ rfl _ _ _ rfl rfl (H4.out.1.there 0 _ (by rw [List.size_toArray, HSS.out.2]; simp)) HSS.out.1 (bytes_one _) ?_))
      refine ret_cell (b := w.heap.size) (cs := S.map bv) (t := 76) rfl rfl ?_ under25 rfl HSS.out.1 rfl ⟨by rw [HSV.out], ?_⟩
      · exact H4.out.1.setAll _ (by rw [HSS.out.2]; simp)
      · exact gr_new H4.out.2 (gr_sets _ _ _ _) (Nat.le_refl _)
end Go.Proofs.YtjbkoablleneeaaGreatDoor

