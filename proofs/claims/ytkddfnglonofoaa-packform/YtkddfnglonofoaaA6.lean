/- pack: the Writer. -/
import Derived.Test.YtkddfnglonofoaaA5
namespace Go.Proofs.Ytkddfnglonofoaa
open Go Go.RowKit

theorem newW_c (w : World) :
    Calls Try.prog 11 #[] w fun e w' => ∃ wb, e = .returned (.pointer (some ⟨wb, 0, none⟩)) ∧ WAt w' wb (.slice none 0 0) (some []) ∧ w.grownBy w' none ∧ wb = w.heap.size := by
  go_enter Try.func11, Try.ntmps11
  go_wp2
  go_ret
  exact ⟨_, rfl, ⟨Has.newA w _ 57, row_nil _, by simp [Value.ownBlock]⟩, World.grownBy_alloc _ _ _, rfl⟩
theorem wNumber_c (wb : Nat) (v : Value) (st : WS) (x : Nat) (size : Int) (w : World) (h : WAt w wb v st) (hx : x < 18446744073709551616) (hl : (st.getD []).length ≤ 179999999999992) :
    Calls Try.prog 12 #[.pointer (some ⟨wb, 0, none⟩), .int .u64 x, .int .i64 size] w fun e w' => e = .returned (.tuple #[]) ∧ ∃ v', WDid w w' wb v (wNum st x size) v' := by
  have HH : Keep (WAt w wb v st ∧ x < 18446744073709551616 ∧ (st.getD []).length ≤ 179999999999992) := ⟨h, hx, hl⟩
  clear h hx hl
  go_enter Try.func12, Try.ntmps12
  go_wp2_with fail
  refine (plain_c w).mono ?_
  rintro e w1 ⟨rfl, g1⟩
  go_wp2_with fail
  refine (wnumber_plain wb v st x size w1 (HH.out.1.kept g1) HH.out.2.1 HH.out.2.2).mono ?_
  rintro e w2 ⟨rfl, v2, d2⟩
  have HD : Keep (WDid w w2 wb v (wNum st x size) v2) := ⟨d2.ahead g1⟩
  clear d2 g1 HH
  go_wp2
  go_end0
  exact ⟨rfl, v2, HD.out⟩
theorem wSigned_c (wb : Nat) (v : Value) (st : WS) (i : Int) (size : Int) (w : World) (h : WAt w wb v st) (hi : -9223372036854775808 ≤ i ∧ i < 9223372036854775808) (hl : (st.getD []).length ≤ 179999999999992) :
    Calls Try.prog 14 #[.pointer (some ⟨wb, 0, none⟩), .int .i64 i, .int .i64 size] w fun e w' => e = .returned (.tuple #[]) ∧ ∃ v', WDid w w' wb v (wSig st i size) v' := by
  have HH : Keep (WAt w wb v st ∧ (-9223372036854775808 ≤ i ∧ i < 9223372036854775808) ∧ (st.getD []).length ≤ 179999999999992) := ⟨h, hi, hl⟩
  clear h hi hl
  go_enter Try.func14, Try.ntmps14
  go_wp2_with fail
  refine (signed_c w).mono ?_
  rintro e w1 ⟨rfl, g1⟩
  have HW : Keep (IntKind.u64.wrap i = (u64 i : Nat)) := ⟨by rw [wu]; unfold u64; omega⟩
  go_wp2_with fail
  rw [HW.out]
  refine (wnumber_signed wb v st i size w1 (HH.out.1.kept g1) HH.out.2.1 HH.out.2.2).mono ?_
  rintro e w2 ⟨rfl, v2, d2⟩
  have HD : Keep (WDid w w2 wb v (wSig st i size) v2) := ⟨d2.ahead g1⟩
  clear d2 g1 HH
  go_wp2
  go_end0
  exact ⟨rfl, v2, HD.out⟩
theorem wpList_append_run2 {P : Program} (w : World) {ops : Array Oper} {rest : List Oper} {o : Oper} {a : Act} {Q : Exit → Act → World → Prop} (hgd : o.guard = none) (s x : Operand) (t u : TypeId)
    (ho : o.op = .call { callee := .builtin .append, args := #[s, x], argTypes := #[t, u] }) (v y : Value) (hs : a.eval s = v) (hx : a.eval x = y) {v' : Value} {w' : World}
    (hr : (Builtin.append_ #[t, u] o.type #[v, y]).run P w = .ok v' w') (h : wpList P ops Q rest (a.put o.dst v') w') : wpList P ops Q (o :: rest) a w :=
  wpList_plain hgd fun _ hK => by
    unfold Oper.wp execOp
    simp only [ho, resolve, invoke, builtin, Sem.run_bind, Sem.run_pure, Result.andThen_ok, List.map_toArray, List.map_cons, List.map_nil, hs, hx, hr]
    exact hK _ _ h
set_option maxRecDepth 100000 in
theorem wBytesW_c (wb : Nat) (v : Value) (st : WS) (s : ByteArray) (w : World) (h : WAt w wb v st) (hl : (st.getD []).length + s.size ≤ 180000000000000) (hs8 : s.size ≤ 140737488355328) :
    Calls Try.prog 16 #[.pointer (some ⟨wb, 0, none⟩), .string s] w fun e w' => e = .returned (.tuple #[]) ∧ ∃ v', WDid w w' wb v (wBytes st (sl s)) v' := by
  have HH : Keep (WAt w wb v st) := ⟨h⟩
  cases st with
  | none =>
    have h1 : w.cell? ⟨wb, 1, none⟩ = some (.int .i64 51) := h.h.cellv 1 _ rfl
    clear h
    go_enter Try.func16, Try.ntmps16
    go_wp2
    go_end0
    exact ⟨rfl, v, WDid.refl HH.out⟩
  | some l =>
    have h1 : w.cell? ⟨wb, 1, none⟩ = some (.int .i64 0) := h.h.cellv 1 _ rfl
    have h0 : w.cell? ⟨wb, 0, none⟩ = some v := h.h.cellv 0 _ rfl
    obtain ⟨v2, w3, r1, r2, r3, r4⟩ := app_str_w h.r s hl hs8
    have hs := h.set r2 r3 r4
    have HR : Keep ((Builtin.append_ #[53, 9] 53 #[v, .string s]).run Try.prog w = .ok v2 w3) := ⟨r1⟩
    obtain ⟨a2, c2, hv2, _⟩ := Row.shape r2
    obtain ⟨n2, hn2⟩ : ∃ q, ((some l).getD [] ++ sl s).length = q := ⟨_, rfl⟩
    rw [hn2] at hv2
    subst hv2
    have HD : Keep (WDid w (w3.setCell ⟨wb, 0, none⟩ (.slice a2 n2 c2)) wb v (wBytes (some l) (sl s)) (.slice a2 n2 c2)) := ⟨hs⟩
    have hh3 : Has w3 wb [v, .int .i64 0] 57 := (show Has w wb [v, .int .i64 0] 57 from h.h).kept r3 (fun e => h.ne e.symm)
    have c0 : w3.cell? ⟨wb, 0, none⟩ = some v := hh3.cellv 0 _ rfl
    have f0 := hh3.frozen 0
    clear hs r2 r3 r4 r1 h hl hn2 hh3 hs8
    go_enter Try.func16, Try.ntmps16
    go_wp2_with (at_builtin; refine wpList_append_run2 _ rfl (.tmp 13) (.tmp 14) 53 9 rfl _ _ rfl rfl HR.out ?_)
    go_end0
    exact ⟨rfl, _, HD.out⟩
theorem wBytes_c (wb : Nat) (v : Value) (st : WS) (s : ByteArray) (w : World) (h : WAt w wb v st) (hl : (st.getD []).length + s.size ≤ 140737488355328) :
    Calls Try.prog 16 #[.pointer (some ⟨wb, 0, none⟩), .string s] w fun e w' => e = .returned (.tuple #[]) ∧ ∃ v', WDid w w' wb v (wBytes st (sl s)) v' :=
  wBytesW_c wb v st s w h (by omega) (by omega)
end Go.Proofs.Ytkddfnglonofoaa
