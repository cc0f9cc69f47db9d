/- rows of strings; table: Keys. -/
import Derived.Test.YtkaakbldkicnaaaA7
import Derived.Test.YtkaakbldkicnaaaS1
import Derived.Maps.AppendAt
import Derived.Laws.MakeOwn
import Derived.OwnWalk
namespace Go.Proofs.Ytkaakbldkicnaaa
open Go Go.RowKit Go.Maps

theorem info9 : ∃ i, Try.prog.info? 9 = some i ∧ i.size = 1 ∧ i.bytes = 16 ∧ i.zero = some (.string ⟨#[]⟩) := by
  have h : (Try.prog.info? 9).map (fun i => (i.size, i.bytes, i.zero)) = some (1, 16, some (.string ⟨#[]⟩)) := by kernel_rfl
  cases hq : Try.prog.info? 9 with
  | none => simp [hq] at h
  | some i =>
    simp only [hq, Option.map_some, Option.some.injEq, Prod.mk.injEq] at h
    exact ⟨i, rfl, h.1, h.2.1, h.2.2⟩
theorem under22 : Try.prog.underlying 22 = some (.slice 9) := by kernel_rfl
theorem heap1 (w : World) (o : Obj) : (w.alloc o).heap.size = w.heap.size + 1 := by simp
theorem own_row {w : World} {base n : Nat} {v : Value} {xs : List ByteArray} (h : w.ownsRow base 9 1 v n (xs.map .string)) (hn : 0 < n) : ∃ g cap tl, v = .slice (some ⟨g, 0, none⟩) n cap ∧ base ≤ g ∧ n ≤ cap ∧ Has w g (xs.map .string ++ tl) 9 ∧ xs.length = n := by
  obtain ⟨hl, hc⟩ := h
  rcases hc with ⟨_, e⟩ | ⟨g, cap, cur, rfl, hb, hheap, h1, h2, h3, h4⟩
  · omega
  · refine ⟨g, cap, cur.toList.drop n, rfl, hb, h1, ?_, by rw [List.length_map, Nat.mul_one] at hl; exact hl⟩
    unfold Has
    rw [← h4, Nat.mul_one, List.take_append_drop]
    exact hheap
theorem own_str {w : World} {base n : Nat} {v : Value} {xs : List ByteArray} (h : w.ownsRow base 9 1 v n (xs.map .string)) (hn : 0 < n) : ∃ g cap, v = .slice (some ⟨g, 0, none⟩) n cap ∧ base ≤ g ∧ n ≤ cap ∧ ∀ j x, xs[j]? = some x → w.cell? ⟨g, j, none⟩ = some (.string x) := by
  obtain ⟨g, cap, tl, e, h1, h2, h3, h4⟩ := own_row h hn
  refine ⟨g, cap, e, h1, h2, fun j x hx => h3.cellv j _ ?_⟩
  have hj := (List.getElem?_eq_some_iff.1 hx).1
  rw [List.getElem?_append_left (by rw [List.length_map]; omega), List.getElem?_map, hx]
  rfl
/-- one string more -/
theorem apps1 (w : World) (base : Nat) (v : Value) (n : Nat) (xs : List ByteArray) (x : ByteArray) (hown : w.ownsRow base 9 1 v n (xs.map .string)) (hn : n ≤ 8796093022000) (hbase : base ≤ w.heap.size) :
    ∃ a' c' w', (Builtin.append_ #[22, 22] 22 #[v, .slice (some ⟨w.heap.size, 0, none⟩) 1 1]).run Try.prog (w.alloc (.cells #[.string x] 9)) = .ok (.slice a' (n + 1) c') w' ∧ w'.ownsRow base 9 1 (.slice a' (n + 1) c') (n + 1) ((xs ++ [x]).map .string) ∧ w.grownBy w' v.ownBlock ∧ (Value.ownBlock (.slice a' (n + 1) c') = v.ownBlock ∨ ∃ g, Value.ownBlock (.slice a' (n + 1) c') = some g ∧ w.heap.size ≤ g) := by
  obtain ⟨i, h1, h2, h3, h4⟩ := info9
  have hk := hown.kept (World.grownBy_alloc w (.cells #[.string x] 9) none) (by cases v.ownBlock <;> simp)
  obtain ⟨v', w', r1, r2, r3, _, r5⟩ := run_append_own_at (P := Try.prog) _ base 22 22 9 i (.string ⟨#[]⟩) 1 16 under22 h1 h4 h2 h3 rfl (by decide) v n _ hk ⟨w.heap.size, 0, none⟩ 1 1 [.string x] rfl (fun j u hu => by
      rw [Addr.add_mid, Nat.zero_add]
      refine (Has.newA w #[.string x] 9).cellv j _ ?_
      match j, hu with
      | 0, hu => exact hu
      | j + 1, hu => simp at hu) (fun u hu => by simp at hu; subst hu; rfl) (by unfold maxLen; omega) (by omega) (by rw [heap1]; omega)
  have e : xs.map Value.string ++ [.string x] = (xs ++ [x]).map Value.string := by simp
  rw [e] at r2
  obtain ⟨g, cap, _, rfl, _⟩ := own_row r2 (by omega)
  refine ⟨_, cap, w', r1, r2, (World.grownBy_alloc w (.cells #[.string x] 9) v.ownBlock).trans r3, r5.imp id (fun q => ⟨_, q, by rw [heap1]; omega⟩)⟩
theorem wpList_append_run {P : Program} (w : World) {ops : Array Oper} {rest : List Oper} {o : Oper} {a : Act} {Q : Exit → Act → World → Prop}
    (hg : o.guard = none) (x y : Operand) (t : TypeId) (hop : o.op = Op.call { callee := Callee.builtin Builtin.append, args := #[x, y], argTypes := #[t, t] })
    (vx vy : Value) (hx : a.eval x = vx) (hy : a.eval y = vy) {v' : Value} {w' : World} (hrun : (Builtin.append_ #[t, t] o.type #[vx, vy]).run P w = .ok v' w')
    (hK : wpList P ops Q rest (a.put o.dst v') w') :
    wpList P ops Q (o :: rest) a w := by
  refine wpList_plain hg fun K' hK' => ?_
  unfold Oper.wp
  simp [execOp, hop, resolve, invoke, builtin, hx, hy, hrun, Result.andThen]
  exact hK' _ _ hK
def slen : Value → Nat
  | .slice _ n _ => n
  | _ => 0

theorem mk22 (w : World) (c : Nat) (hc : c ≤ 4096) : ∃ w', (Instr.makeSlice 22 (.int .i64 0) (.int .i64 (c : Nat))).run Try.prog w = .ok (.slice (some ⟨w.heap.size, 0, none⟩) 0 c) w' ∧ w'.ownsRow w.heap.size 9 1 (.slice (some ⟨w.heap.size, 0, none⟩) 0 c) 0 [] ∧ w.grownBy w' none := by
  obtain ⟨i, h1, h2, h3, h4⟩ := info9
  exact run_make_own (P := Try.prog) w w.heap.size 22 9 i _ 1 under22 h1 h4 h2 .i64 .i64 c (by rw [h3]; omega) (by unfold maxLen; omega) (Nat.le_refl _)
theorem TabAt.kept {w w' : World} {tb mb sz : Nat} {E : List Ent} (h : TabAt w tb mb sz E) (g : w.grownBy w' none) : TabAt w' tb mb sz E := h.fr (S := fun _ => False) (Fr.ofNone g) (fun _ _ e => e)
set_option maxHeartbeats 2000000 in
theorem keys_c (w : World) (tb mb sz : Nat) (E : List Ent) (h : TabAt w tb mb sz E) :
    Calls Try.prog 13 #[pt tb] w fun r w' => ∃ v, r = .returned v ∧ w'.ownsRow w.heap.size 9 1 v E.length ((E.map Ent.k).map .string) ∧ w.grownBy w' none := by
  have hle := h.le
  have hhi := h.hi
  obtain ⟨_, t1, _, _, _, _, _⟩ := Has.c4 (v0 := iv sz) (v1 := .map (some mb)) h.hdr
  have hlen := h.map.len
  rw [show (km E).length = E.length by simp [km]] at hlen
  obtain ⟨w1, m1, m2, m3⟩ := mk22 w E.length (by omega)
  have u2 : w1.cell? ⟨tb, 2, none⟩ = some (hd np E) := (Has.c4 (v0 := iv sz) (v1 := .map (some mb)) (h.kept m3).hdr).2.2.1
  have H1 : Keep (w1.ownsRow w.heap.size 9 1 (.slice (some ⟨w.heap.size, 0, none⟩) 0 E.length) 0 ([].map .string) ∧ w.grownBy w1 none ∧ TabAt w tb mb sz E) := ⟨m2, m3, h⟩
  have HE : Keep (E.length ≤ 4096) := ⟨by omega⟩
  clear h m2 m3 hle hhi
  generalize hw : w.heap.size = base at *
  generalize hn : E.length = n at *
  have HN : Keep (E.length = n) := ⟨hn⟩
  clear hn
  go_enter Try.func13, Try.ntmps13
  go_wp2_with fail
  clear m1 hlen t1 u2
  go_loopw [3, 4] (fun u v wr => ∃ A C, E = A ++ C ∧ v = hd np C ∧ slen u = A.length ∧ Keep (wr.ownsRow base 9 1 u A.length ((A.map Ent.k).map .string) ∧ w.grownBy wr none)) (fun u _ _ => n - slen u)
  case atStart => exact ⟨[], E, rfl, rfl, rfl, H1.out.1, H1.out.2.1⟩
  case round =>
    obtain ⟨A, C, hE, hv, hs, hR⟩ := hrel
    cases C with
    | nil =>
      have HR : Keep (∃ v, Ending.returned u3 = .returned v ∧ wr.ownsRow base 9 1 v n ((E.map Ent.k).map .string) ∧ w.grownBy wr none) := by
        rw [List.append_nil] at hE
        subst hE
        exact ⟨u3, rfl, by rw [← HN.out]; exact hR.out.1, hR.out.2⟩
      clear hR hE hs
      change u4 = np at hv
      subst hv
      go_wp2_with fail
      go_ret
      exact HR.out
    | cons e C =>
      have hT := H1.out.2.2
      rw [hE] at hT
      have hB : e.b < base := by rw [← hw]; exact hT.lt e.b (.inr (.inr (by simp)))
      have hk : e.k.size ≤ 281474976710656 := hT.small e.k (by simp)
      have hAn : A.length < n := by rw [← HN.out, hE]; simp
      have c0 : wr.cell? ⟨e.b, 0, none⟩ = some (.string e.k) := (Has.c4 (v0 := .string e.k) (v1 := iv e.x) (hT.kept hR.out.2).entry).1
      have HC : Keep (E = A ++ e :: C ∧ e.b < base ∧ A.length < n) := ⟨hE, hB, hAn⟩
      clear hT hB hE hAn
      change u4 = pt e.b at hv
      subst hv
      generalize hq : e.b = eb at *
      generalize hz : e.k = ek at *
      go_wp2_with fail
      refine (clone_c ek _ hk).mono ?_
      rintro r w2 ⟨rfl, g2⟩
      obtain ⟨hE, hB, hAn⟩ := HC.out
      obtain ⟨a', c', w3, a1, a2, a3, a4⟩ := apps1 w2 base u3 A.length (A.map Ent.k) ek (hR.out.1.kept g2 (by cases u3.ownBlock <;> simp)) (by have := HE.out; omega) (by rw [← hw]; exact (hR.out.2.trans g2).size)
      have gw : w.grownBy w3 none := by
        have g := hR.out.2.trans g2
        refine ⟨a3.os.trans g.os, a3.tape.trans g.tape, a3.output.trans g.output, Nat.le_trans g.size a3.size, fun i hi _ => ?_⟩
        rw [a3.block i (Nat.lt_of_lt_of_le hi g.size) ?_, g.block i hi (by simp)]
        intro q
        obtain ⟨_, q2⟩ := hR.out.1
        rcases q2 with ⟨rfl, _⟩ | ⟨g', cap, cur, rfl, q3, _⟩
        · cases q
        · injection q with q
          have q : i = g' := q
          omega
      have hT := H1.out.2.2
      rw [hE] at hT
      have c3 : w3.cell? ⟨eb, 3, none⟩ = some (hd np C) := by
        rw [← hq]
        exact (Has.c4 (v0 := .string e.k) (v1 := iv e.x) (hT.kept gw).entry).2.2.2.1
      have HR : Keep (∃ A' C', E = A' ++ C' ∧ hd np C = hd np C' ∧ slen (.slice a' (A.length + 1) c') = A'.length ∧ Keep (w3.ownsRow base 9 1 (.slice a' (A.length + 1) c') A'.length ((A'.map Ent.k).map .string) ∧ w.grownBy w3 none)) := by
        refine ⟨⟨A ++ [e], C, by rw [hE]; simp, rfl, by simp [slen], ⟨?_, gw⟩⟩⟩
        rw [List.map_append, List.length_append]
        simp only [List.map_cons, List.map_nil, hz]
        exact a2
      have HD : Keep (n - (A.length + 1) < n - slen u3) := ⟨by rw [hs]; omega⟩
      have A1 : Keep _ := ⟨a1⟩
      clear a1 a2 a3 a4 gw hT hE hB hAn hs hR g2
      go_wp2_with ((first | (at_builtin; refine wpList_append_run _ rfl (.tmp 22) (.tmp 28) 22 rfl _ _ rfl rfl A1.out ?_)))
      exact ⟨HR.out, HD.out⟩
end Go.Proofs.Ytkaakbldkicnaaa
