import Derived.Test.YtiphnlfbgbemfaaGreatDoorX3
import Derived.Defers
import Derived.Recover
/- pack: the Writer. -/
namespace Go.Proofs.YtiphnlfbgbemfaaGreatDoor.Pk
open Go Go.RowKit

theorem newW_c (w : World) :
    Calls Tryz.prog 68 #[] w fun e w' => ∃ wb, e = .returned (.pointer (some ⟨wb, 0, none⟩)) ∧ WAt w' wb (.slice none 0 0) (some []) ∧ w.grownBy w' none ∧ wb = w.heap.size := by
  go_enter Tryz.func68, Tryz.ntmps68
  go_wp2
  go_ret
  exact ⟨_, rfl, ⟨Has.newA w _ 124, row_nil _, by simp [Value.ownBlock]⟩, World.grownBy_alloc _ _ _, rfl⟩
theorem wNumber_c (wb : Nat) (v : Value) (st : WS) (x : Nat) (size : Int) (w : World) (h : WAt w wb v st) (hx : x < 18446744073709551616) (hl : (st.getD []).length ≤ 179999999999992) :
    Calls Tryz.prog 100 #[.pointer (some ⟨wb, 0, none⟩), .int .u64 x, .int .i64 size] w fun e w' => e = .returned (.tuple #[]) ∧ ∃ v', WDid w w' wb v (wNum st x size) v' := by
  have HH : Keep (WAt w wb v st ∧ x < 18446744073709551616 ∧ (st.getD []).length ≤ 179999999999992) := ⟨h, hx, hl⟩
  clear h hx hl
  go_enter Tryz.func100, Tryz.ntmps100
  go_wp2_with fail
  refine (plain_c w).mono ?_
  rintro e w1 ⟨rfl, g1⟩
  go_wp2_with fail
  refine (wnumber_plain wb v st x size w1 (HH.out.1.kept g1) HH.out.2.1 HH.out.2.2).mono ?_
  rintro e w2 ⟨rfl, v2, d2⟩
  have HD : Keep (WDid w w2 wb v (wNum st x size) v2) := ⟨d2.ahead g1⟩
  clear d2 g1 HH
  go_wp2
  go_end0
  exact ⟨rfl, v2, HD.out⟩
theorem wSigned_c (wb : Nat) (v : Value) (st : WS) (i : Int) (size : Int) (w : World) (h : WAt w wb v st) (hi : -9223372036854775808 ≤ i ∧ i < 9223372036854775808) (hl : (st.getD []).length ≤ 179999999999992) :
    Calls Tryz.prog 131 #[.pointer (some ⟨wb, 0, none⟩), .int .i64 i, .int .i64 size] w fun e w' => e = .returned (.tuple #[]) ∧ ∃ v', WDid w w' wb v (wSig st i size) v' := by
  have HH : Keep (WAt w wb v st ∧ (-9223372036854775808 ≤ i ∧ i < 9223372036854775808) ∧ (st.getD []).length ≤ 179999999999992) := ⟨h, hi, hl⟩
  clear h hi hl
  go_enter Tryz.func131, Tryz.ntmps131
  go_wp2_with fail
  refine (signed_c w).mono ?_
  rintro e w1 ⟨rfl, g1⟩
  have HW : Keep (IntKind.u64.wrap i = (u64 i : Nat)) := ⟨by rw [wu]; unfold u64; omega⟩
  go_wp2_with fail
  rw [HW.out]
  refine (wnumber_signed wb v st i size w1 (HH.out.1.kept g1) HH.out.2.1 HH.out.2.2).mono ?_
  rintro e w2 ⟨rfl, v2, d2⟩
  have HD : Keep (WDid w w2 wb v (wSig st i size) v2) := ⟨d2.ahead g1⟩
  clear d2 g1 HH
  go_wp2
  go_end0
  exact ⟨rfl, v2, HD.out⟩
theorem wpList_append_run2 {P : Program} (w : World) {ops : Array Oper} {rest : List Oper} {o : Oper} {a : Act} {Q : Exit → Act → World → Prop} (hgd : o.guard = none) (s x : Operand) (t u : TypeId)
    (ho : o.op = .call { callee := .builtin .append, args := #[s, x], argTypes := #[t, u] }) (v y : Value) (hs : a.eval s = v) (hx : a.eval x = y) {v' : Value} {w' : World}
    (hr : (Builtin.append_ #[t, u] o.type #[v, y]).run P w = .ok v' w') (h : wpList P ops Q rest (a.put o.dst v') w') : wpList P ops Q (o :: rest) a w :=
  wpList_plain hgd fun _ hK => by
    unfold Oper.wp execOp
    simp only [ho, resolve, invoke, builtin, Sem.run_bind, Sem.run_pure, Result.andThen_ok, List.map_toArray, List.map_cons, List.map_nil, hs, hx, hr]
    exact hK _ _ h
set_option maxRecDepth 100000 in
theorem wBytesW_c (wb : Nat) (v : Value) (st : WS) (s : ByteArray) (w : World) (h : WAt w wb v st) (hl : (st.getD []).length + s.size ≤ 180000000000000) (hs8 : s.size ≤ 140737488355328) :
    Calls Tryz.prog 69 #[.pointer (some ⟨wb, 0, none⟩), .string s] w fun e w' => e = .returned (.tuple #[]) ∧ ∃ v', WDid w w' wb v (wBytes st (sl s)) v' := by
  have HH : Keep (WAt w wb v st) := ⟨h⟩
  cases st with
  | none =>
    have h1 : w.cell? ⟨wb, 1, none⟩ = some (.int .i64 51) := h.h.cellv 1 _ rfl
    clear h
    go_enter Tryz.func69, Tryz.ntmps69
    go_wp2
    go_end0
    exact ⟨rfl, v, WDid.refl HH.out⟩
  | some l =>
    have h1 : w.cell? ⟨wb, 1, none⟩ = some (.int .i64 0) := h.h.cellv 1 _ rfl
    have h0 : w.cell? ⟨wb, 0, none⟩ = some v := h.h.cellv 0 _ rfl
    obtain ⟨v2, w3, r1, r2, r3, r4⟩ := app_str_w h.r s hl hs8
    have hs := h.set r2 r3 r4
    have HR : Keep ((Builtin.append_ #[39, 9] 39 #[v, .string s]).run Tryz.prog w = .ok v2 w3) := ⟨r1⟩
    obtain ⟨a2, c2, hv2, _⟩ := Row.shape r2
    obtain ⟨n2, hn2⟩ : ∃ q, ((some l).getD [] ++ sl s).length = q := ⟨_, rfl⟩
    rw [hn2] at hv2
    subst hv2
    have HD : Keep (WDid w (w3.setCell ⟨wb, 0, none⟩ (.slice a2 n2 c2)) wb v (wBytes (some l) (sl s)) (.slice a2 n2 c2)) := ⟨hs⟩
    have hh3 : Has w3 wb [v, .int .i64 0] 124 := (show Has w wb [v, .int .i64 0] 124 from h.h).kept r3 (fun e => h.ne e.symm)
    have c0 : w3.cell? ⟨wb, 0, none⟩ = some v := hh3.cellv 0 _ rfl
    have f0 := hh3.frozen 0
    clear hs r2 r3 r4 r1 h hl hn2 hh3 hs8
    go_enter Tryz.func69, Tryz.ntmps69
    go_wp2_with (at_builtin; refine wpList_append_run2 _ rfl (.tmp 13) (.tmp 14) 39 9 rfl _ _ rfl rfl HR.out ?_)
    go_end0
    exact ⟨rfl, _, HD.out⟩
theorem wBytes_c (wb : Nat) (v : Value) (st : WS) (s : ByteArray) (w : World) (h : WAt w wb v st) (hl : (st.getD []).length + s.size ≤ 140737488355328) :
    Calls Tryz.prog 69 #[.pointer (some ⟨wb, 0, none⟩), .string s] w fun e w' => e = .returned (.tuple #[]) ∧ ∃ v', WDid w w' wb v (wBytes st (sl s)) v' :=
  wBytesW_c wb v st s w h (by omega) (by omega)
end Go.Proofs.YtiphnlfbgbemfaaGreatDoor.Pk

/- pack: the Writer's Text and Done. -/
namespace Go.Proofs.YtiphnlfbgbemfaaGreatDoor.Pk
open Go Go.RowKit

theorem wNum_len (st : WS) (x : Nat) (size : Int) : ((wNum st x size).getD []).length ≤ (st.getD []).length + 8 := by
  unfold wNum
  split
  · rename_i h
    cases st with
    | none => simp
    | some l =>
      have := h.1.2
      simp [be_len]; omega
  · simp
theorem wSig_len (st : WS) (x : Int) (size : Int) : ((wSig st x size).getD []).length ≤ (st.getD []).length + 8 := by
  unfold wSig
  split
  · rename_i h
    cases st with
    | none => simp
    | some l =>
      have := h.1.2
      simp [be_len]; omega
  · simp
theorem wBytes_len (st : WS) (s : List UInt8) : ((wBytes st s).getD []).length ≤ (st.getD []).length + s.length := by
  cases st <;> simp [wBytes]
theorem wText_len (st : WS) (s : List UInt8) : ((wText st s).getD []).length ≤ (st.getD []).length + s.length + 1 := by
  unfold wText
  split
  · cases st <;> simp; omega
  · simp
theorem wTextW_c (wb : Nat) (v : Value) (st : WS) (s : ByteArray) (w : World) (h : WAt w wb v st) (hl : (st.getD []).length + s.size ≤ 179999999999984) (hs8 : s.size ≤ 140737488355328) :
    Calls Tryz.prog 94 #[.pointer (some ⟨wb, 0, none⟩), .string s] w fun e w' => e = .returned (.tuple #[]) ∧ ∃ v', WDid w w' wb v (wText st (sl s)) v' := by
  have HH : Keep (WAt w wb v st) := ⟨h⟩
  have HL : Keep ((st.getD []).length + s.size ≤ 179999999999984 ∧ s.size ≤ 140737488355328) := ⟨hl, hs8⟩
  have HW : Keep (IntKind.u64.wrap (s.size : Int) = (s.size : Nat)) := ⟨by rw [wu]; omega⟩
  clear h hl hs8
  go_enter Tryz.func94, Tryz.ntmps94
  go_wp2_with fail
  try rw [HW.out]
  refine (wNumber_c wb v st s.size 1 w HH.out (by have := HL.out; omega) (by have := HL.out; omega)).mono ?_
  rintro e w1 ⟨rfl, v1, d1⟩
  have HD : Keep (WDid w w1 wb v (wNum st s.size 1) v1) := ⟨d1⟩
  clear d1 HH
  go_wp2_with fail
  refine (wBytesW_c wb v1 _ s w1 HD.out.a (by have := HL.out; have := wNum_len st s.size 1; omega) HL.out.2).mono ?_
  rintro e w2 ⟨rfl, v2, d2⟩
  have HE : Keep (WDid w w2 wb v (wText st (sl s)) v2) := ⟨by
    have := HD.out.trans d2
    rw [← sl_len, wText_eq] at this
    exact this⟩
  clear d2 HD
  go_wp2
  go_end0
  exact ⟨rfl, v2, HE.out⟩
theorem wText_c (wb : Nat) (v : Value) (st : WS) (s : ByteArray) (w : World) (h : WAt w wb v st) (hl : (st.getD []).length + s.size ≤ 140737488355312) :
    Calls Tryz.prog 94 #[.pointer (some ⟨wb, 0, none⟩), .string s] w fun e w' => e = .returned (.tuple #[]) ∧ ∃ v', WDid w w' wb v (wText st (sl s)) v' :=
  wTextW_c wb v st s w h (by omega) (by omega)
/-- 'string(b)' -/
theorem cvt_cells (w : World) (a : Option Addr) (c : Nat) (q : List UInt8) (h0 : a = none → q = []) (hc : ∀ ad, a = some ad → ∀ j x, q[j]? = some x → w.cell? (ad.add j) = some (bv x)) : (convert 39 9 (.slice a q.length c)).run Tryz.prog w = .ok (.string ⟨q.toArray⟩) w := by
  cases a with
  | none =>
    obtain rfl := h0 rfl
    rw [List.length_nil, run_convert_bytes_string w 39 9 5 none 0 c under53 under5 under9]
    simp [Conv.bytesToString]
    rfl
  | some ad => exact run_convert_bytes_back (P := Tryz.prog) w 39 9 5 ad c q under53 under5 under9 (fun j hj => hc ad rfl j _ (List.getElem?_eq_getElem hj))
theorem cvt_row {w : World} {v : Value} {xs : List UInt8} (h : Row w v xs) : (convert 39 9 v).run Tryz.prog w = .ok (.string ⟨xs.toArray⟩) w := by
  obtain ⟨a, c, rfl, h0, hc⟩ := h.shape
  exact cvt_cells w a c xs h0 hc
def werr (st : WS) : Int := if st = none then 51 else 0
set_option maxRecDepth 100000 in
theorem wDone_c (wb : Nat) (v : Value) (st : WS) (w : World) (h : WAt w wb v st) :
    Calls Tryz.prog 70 #[.pointer (some ⟨wb, 0, none⟩)] w fun e w' => e = .returned (.tuple #[.string ⟨(st.getD []).toArray⟩, .int .i64 (werr st)]) ∧ w.grownBy w' none := by
  have h0 : w.cell? ⟨wb, 0, none⟩ = some v := h.h.cellv 0 _ rfl
  have h1 : w.cell? ⟨wb, 1, none⟩ = some (.int .i64 (werr st)) := h.h.cellv 1 _ rfl
  have hc : ∀ k, (convert 39 9 v).run Tryz.prog (w.drewN k) = .ok (.string ⟨(st.getD []).toArray⟩) (w.drewN k) := fun k => cvt_row (h.kept (gr_drewN w k none)).r
  obtain ⟨a, c, hv, _⟩ := h.r.shape
  obtain ⟨n, hn⟩ : ∃ n, (st.getD []).length = n := ⟨_, rfl⟩
  rw [hn] at hv
  subst hv
  clear h hn
  generalize (⟨(st.getD []).toArray⟩ : ByteArray) = s at *
  generalize werr st = er at *
  go_enter Tryz.func70, Tryz.ntmps70
  go_wp2_with fail
  go_quiet (fail)
  go_wp2
  go_ret2
  exact ⟨rfl, gr_drewN _ _ _⟩
end Go.Proofs.YtiphnlfbgbemfaaGreatDoor.Pk

/- pack: the Reader's state; fail, take. -/
namespace Go.Proofs.YtiphnlfbgbemfaaGreatDoor.Pk
open Go Go.RowKit

/-- bytes that lie in block B -/
structure Bs (w : World) (B : Nat) (a : Option Addr) (n c : Nat) (q : List UInt8) : Prop where
  len : q.length = n
  cap : n ≤ c
  nil : a = none → q = []
  at_ : 0 < n → ∃ o, a = some ⟨B, o, none⟩ ∧ ∀ j x, q[j]? = some x → w.cell? ⟨B, o + j, none⟩ = some (bv x)
theorem Bs.fr {S : Nat → Prop} {w w' : World} {B : Nat} {a : Option Addr} {n c : Nat} {q : List UInt8} (h : Bs w B a n c q) (f : Fr S w w') (hs : ¬ S B) : Bs w' B a n c q := by
  refine ⟨h.len, h.cap, h.nil, fun hn => ?_⟩
  obtain ⟨o, e, h3⟩ := h.at_ hn
  refine ⟨o, e, fun j x hx => ?_⟩
  have h4 := h3 j x hx
  have hb : B < w.heap.size := World.block_lt_of_cell? w _ h4
  rw [← h4]
  simp only [World.cell?]
  rw [f.block B hb hs]
theorem Bs.cvt {w : World} {B : Nat} {a : Option Addr} {n c : Nat} {q : List UInt8} (h : Bs w B a n c q) : (convert 39 9 (.slice a n c)).run Tryz.prog w = .ok (.string ⟨q.toArray⟩) w := by
  have := cvt_cells w a c q h.nil (fun ad e j x hx => by
    have hn : 0 < n := by rw [← h.len]; have := (List.getElem?_eq_some_iff.1 hx).1; omega
    obtain ⟨o, e2, h3⟩ := h.at_ hn
    rw [e] at e2
    obtain rfl := Option.some.inj e2
    rw [Addr.add_mid]; exact h3 j x hx)
  rwa [h.len] at this
theorem Bs.none (w : World) (B : Nat) : Bs w B .none 0 0 [] := ⟨rfl, Nat.le_refl _, fun _ => rfl, fun h => by omega⟩
theorem add_zero' (a : Addr) : a.add 0 = a := by
  unfold Addr.add
  split <;> simp_all
theorem sl_h (a : Option Addr) (n c p : Nat) (hp : p ≤ c) (W : World) : (Instr.slice 39 (.slice a n c) none (some (.int .i64 (p : Int))) none).run Tryz.prog W = .ok (.slice a p c) W := by
  have z : (sizeOf (Tryz.prog.elem 39)).run Tryz.prog W = .ok 1 W := by kernel_rfl
  rw [run_slice_h W 39 a n c (by kernel_rfl) .i64 p (by omega) (by omega), z]
  have e : a.map (·.add (0 * 1)) = a := by cases a <;> simp [add_zero']
  simp only [Result.andThen, sliced, e, Int.toNat_natCast, Nat.sub_zero, ite_self]
theorem sl_l (B : Nat) (a : Option Addr) (n c p : Nat) (hp : p ≤ n) (hc : n ≤ c) : ∃ A1, (∀ W : World, (Instr.slice 39 (.slice a n c) (some (.int .i64 (p : Int))) none none).run Tryz.prog W = .ok (.slice A1 (n - p) (c - p)) W) ∧ ∀ (w : World) (q : List UInt8), Bs w B a n c q → Bs w B A1 (n - p) (c - p) (q.drop p) := by
  refine ⟨if c = p then a else a.map (·.add (p * 1)), fun W => ?_, fun w q h => ⟨by rw [List.length_drop, h.len], by omega, fun e => ?_, fun hn => ?_⟩⟩
  · have z : (sizeOf (Tryz.prog.elem 39)).run Tryz.prog W = .ok 1 W := by kernel_rfl
    rw [run_slice_l W 39 a n c (by kernel_rfl) .i64 p (by omega) (by omega), z]
    simp only [Result.andThen, sliced, Int.toNat_natCast]
  · have : a = none := by
      split at e
      · exact e
      · cases a <;> simp_all
    rw [h.nil this]; simp
  · obtain ⟨o, rfl, h3⟩ := h.at_ (by omega)
    rw [if_neg (by omega)]
    refine ⟨o + p, by simp [Addr.add_mid], fun j x hx => ?_⟩
    rw [List.getElem?_drop] at hx
    rw [Nat.add_assoc]; exact h3 _ _ hx
theorem Bs.take {w : World} {B : Nat} {a : Option Addr} {n c p : Nat} {q : List UInt8} (h : Bs w B a n c q) (hp : p ≤ n) : Bs w B a p c (q.take p) := by
  refine ⟨by rw [List.length_take, h.len]; omega, by have := h.cap; omega, fun e => by rw [h.nil e]; simp, fun hn => ?_⟩
  obtain ⟨o, e, h3⟩ := h.at_ (by omega)
  refine ⟨o, e, fun j x hx => ?_⟩
  rw [List.getElem?_take] at hx
  split at hx
  · exact h3 j x hx
  · cases hx
/-- where a Reader stands -/
structure RAt (w : World) (rb B : Nat) (st : RS) : Prop where
  h : ∃ a c, Has w rb [.slice a st.1.length c, .int .i64 st.2] 141 ∧ Bs w B a st.1.length c st.1
  ne : rb ≠ B
  lt : B < w.heap.size
  ok : st.ok
structure RDid (w w' : World) (rb B : Nat) (st : RS) : Prop where
  a : RAt w' rb B st
  f : Fr (fun i => i = rb) w w'
theorem RAt.fr {S : Nat → Prop} {w w' : World} {rb B : Nat} {st : RS} (h : RAt w rb B st) (f : Fr S w w') (hs : ¬ S rb) (hs2 : ¬ S B) : RAt w' rb B st := by
  obtain ⟨⟨a, c, h1, h2⟩, h3, h4, h5⟩ := h
  exact ⟨⟨a, c, h1.fr f hs, h2.fr f hs2⟩, h3, Nat.lt_of_lt_of_le h4 f.size, h5⟩
theorem RAt.kept {w w' : World} {rb B : Nat} {st : RS} (h : RAt w rb B st) (hg : w.grownBy w' none) : RAt w' rb B st :=
  h.fr (S := fun _ => False) (Fr.ofNone hg) (fun e => e) (fun e => e)
theorem RDid.refl {w : World} {rb B : Nat} {st : RS} (h : RAt w rb B st) : RDid w w rb B st := ⟨h, Fr.refl _ _⟩
theorem RDid.trans {w w1 w2 : World} {rb B : Nat} {st st2 : RS} (h : RDid w w1 rb B st) (k : RDid w1 w2 rb B st2) : RDid w w2 rb B st2 := ⟨k.a, h.f.trans k.f⟩
theorem RDid.grown {w w1 w2 : World} {rb B : Nat} {st : RS} (h : RDid w w1 rb B st) (hg : w1.grownBy w2 none) : RDid w w2 rb B st := ⟨h.a.kept hg, h.f.trans (Fr.ofNone hg)⟩
theorem RDid.ahead {w w1 w2 : World} {rb B : Nat} {st : RS} (hg : w.grownBy w1 none) (h : RDid w1 w2 rb B st) : RDid w w2 rb B st := ⟨h.a, (Fr.ofNone hg).trans h.f⟩

theorem rfail_c (rb B : Nat) (st : RS) (e : Int) (w : World) (h : RAt w rb B st) :
    Calls Tryz.prog 151 #[.pointer (some ⟨rb, 0, none⟩), .int .i64 e] w fun en w' => en = .returned (.tuple #[]) ∧ RDid w w' rb B (st.fail e) := by
  obtain ⟨⟨a, c, h1, h2⟩, h3, h4, h5⟩ := h
  obtain ⟨l, er⟩ := st
  have HH : Keep (Has w rb [.slice a l.length c, .int .i64 er] 141 ∧ rb ≠ B ∧ B < w.heap.size) := ⟨h1, h3, h4⟩
  have c0 : w.cell? ⟨rb, 0, none⟩ = some (.slice a l.length c) := h1.cellv 0 _ rfl
  have c1 : w.cell? ⟨rb, 1, none⟩ = some (.int .i64 er) := h1.cellv 1 _ rfl
  have f0 := h1.frozen 0
  have f1 := h1.frozen 1
  clear h1 h2 h3 h4 h5
  generalize l.length = n at *
  go_enter Tryz.func151, Tryz.ntmps151
  by_cases he : er = 0
  · subst he
    go_wp2
    go_end0
    have f2 : Fr (fun i => i = rb) w _ := (Fr.ofSome (S := fun i => i = rb) (gr_set w rb 1 (.int .i64 e)) rfl).trans (Fr.ofSome (S := fun i => i = rb) (gr_set _ rb 0 (.slice none 0 0)) rfl)
    exact ⟨rfl, ⟨⟨none, 0, (HH.out.1.setCell 1 _).setCell 0 _, Bs.none _ _⟩, HH.out.2.1, Nat.lt_of_lt_of_le HH.out.2.2 f2.size, fail_ok _ _⟩, f2⟩
  · go_wp2
    go_end0
    have f2 : Fr (fun i => i = rb) w _ := (Fr.ofSome (S := fun i => i = rb) (gr_set w rb 0 (.slice none 0 0)) rfl)
    have e2 : RS.fail (l, er) e = ([], er) := by unfold RS.fail; rw [if_neg he]
    rw [e2]
    exact ⟨rfl, ⟨⟨none, 0, HH.out.1.setCell 0 _, Bs.none _ _⟩, HH.out.2.1, Nat.lt_of_lt_of_le HH.out.2.2 f2.size, fun _ => rfl⟩, f2⟩

set_option maxRecDepth 100000 in
theorem rtake_c (rb B : Nat) (st : RS) (n : Int) (w : World) (h : RAt w rb B st) :
    Calls Tryz.prog 137 #[.pointer (some ⟨rb, 0, none⟩), .int .i64 n] w fun en w' => ∃ a c, en = .returned (.slice a (rTake st n).1.length c) ∧ Bs w' B a (rTake st n).1.length c (rTake st n).1 ∧ RDid w w' rb B (rTake st n).2 := by
  have HH : Keep (RAt w rb B st) := ⟨h⟩
  obtain ⟨⟨a, c, h1, h2⟩, h3, h4, h5⟩ := h
  obtain ⟨l, er⟩ := st
  have c0 : w.cell? ⟨rb, 0, none⟩ = some (.slice a l.length c) := h1.cellv 0 _ rfl
  have f0 := h1.frozen 0
  have HB : Keep (Has w rb [.slice a l.length c, .int .i64 er] 141 ∧ Bs w B a l.length c l ∧ rb ≠ B ∧ B < w.heap.size ∧ RS.ok (l, er)) := ⟨h1, h2, h3, h4, h5⟩
  clear h1 h2 h3 h4 h5
  go_enter Tryz.func137, Tryz.ntmps137
  by_cases hn : n < 0
  · have HE : Keep (rTake (l, er) n = ([], RS.fail (l, er) 51)) := ⟨by unfold rTake; rw [if_pos hn]⟩
    go_wp2_with fail
    refine (rfail_c rb B _ 51 w HH.out).mono ?_
    rintro e w1 ⟨rfl, d1⟩
    have HD : Keep (RDid w w1 rb B (RS.fail (l, er) 51)) := ⟨d1⟩
    clear d1
    go_wp2
    go_ret
    rw [HE.out]
    exact ⟨none, 0, rfl, Bs.none _ _, HD.out⟩
  · by_cases hl : (l.length : Int) < n
    · have HE : Keep (rTake (l, er) n = ([], RS.fail (l, er) 50)) := ⟨by unfold rTake; rw [if_neg hn, if_pos hl]⟩
      go_wp2_with fail
      refine (rfail_c rb B _ 50 w HH.out).mono ?_
      rintro e w1 ⟨rfl, d1⟩
      have HD : Keep (RDid w w1 rb B (RS.fail (l, er) 50)) := ⟨d1⟩
      clear d1
      go_wp2
      go_ret
      rw [HE.out]
      exact ⟨none, 0, rfl, Bs.none _ _, HD.out⟩
    · obtain ⟨k, rfl⟩ : ∃ k : Nat, n = k := ⟨n.toNat, by omega⟩
      have hk : k ≤ l.length := by omega
      have HE : Keep (rTake (l, er) k = (l.take k, (l.drop k, er))) := ⟨by unfold rTake; rw [if_neg hn, if_neg hl]; rfl⟩
      have s1 := sl_h a l.length c k (by have := HB.out.2.1.cap; omega)
      obtain ⟨A1, s2, s3⟩ := sl_l B a l.length c k hk HB.out.2.1.cap
      have HS : Keep (∀ (w : World) (q : List UInt8), Bs w B a l.length c q → Bs w B A1 (l.length - k) (c - k) (q.drop k)) := ⟨s3⟩
      have HK : Keep (k ≤ l.length) := ⟨hk⟩
      clear s3
      generalize hln : l.length = ln at *
      have HL : Keep (l.length = ln) := ⟨hln⟩
      clear hln
      have hlt : ¬ ((ln : Int) < (k : Int)) := hl
      clear hl hk
      go_wp2_with fail
      go_ret
      have f2 : Fr (fun i => i = rb) w _ := Fr.ofSome (S := fun i => i = rb) (gr_set w rb 0 (.slice A1 (ln - k) (c - k))) rfl
      have e1 : (l.take k).length = k := by rw [List.length_take, HL.out]; have := HK.out; omega
      have e2 : (l.drop k).length = ln - k := by rw [List.length_drop, HL.out]
      obtain ⟨q1, q2, q3, q4, q5⟩ := HB.out
      have hs : ¬ B = rb := fun e => q3 e.symm
      rw [HE.out]
      simp only [e1]
      refine ⟨a, c, rfl, (q2.take HK.out).fr f2 hs, ⟨⟨A1, c - k, ?_, ?_⟩, q3, Nat.lt_of_lt_of_le q4 f2.size, ?_⟩, f2⟩
      · simp only [e2]; exact q1.setCell 0 _
      · simp only [e2]; exact (HS.out _ _ q2).fr f2 hs
      · intro e; have : l = [] := q5 e; simp [this]
end Go.Proofs.YtiphnlfbgbemfaaGreatDoor.Pk

/- pack: the Reader's numbers. -/
namespace Go.Proofs.YtiphnlfbgbemfaaGreatDoor.Pk
open Go Go.RowKit

theorem sx_val (l : List UInt8) (size : Int) (hs : sized size) (hl : l.length = 0 ∨ (l.length : Int) = size) : sx (val l) size.toNat = u64 (sval l) := by
  have h8 : size = 1 ∨ size = 2 ∨ size = 3 ∨ size = 4 ∨ size = 5 ∨ size = 6 ∨ size = 7 ∨ size = 8 := by obtain ⟨h1, h2⟩ := hs; omega
  have hv := val_lt l
  rcases hl with hl | hl
  · have : l = [] := List.eq_nil_of_length_eq_zero hl
    subst this
    rcases h8 with rfl | rfl | rfl | rfl | rfl | rfl | rfl | rfl <;> decide
  · obtain ⟨n, hn⟩ : ∃ n, val l = n := ⟨_, rfl⟩
    obtain ⟨k, hk⟩ : ∃ k, l.length = k := ⟨_, rfl⟩
    have e : size.toNat = k := by omega
    unfold sx sval u64
    rw [hn, hk] at hv
    rw [hn, hk, e]
    have h9 : k = 1 ∨ k = 2 ∨ k = 3 ∨ k = 4 ∨ k = 5 ∨ k = 6 ∨ k = 7 ∨ k = 8 := by omega
    rw [Nat.mod_eq_of_lt hv]
    clear hk hn e hl h8 hs
    rcases h9 with rfl | rfl | rfl | rfl | rfl | rfl | rfl | rfl
    · have hv' : n < 256 := hv
      show (if 2 * n < 256 then n else n + 18446744073709551616 - 256) = ((if 2 * n < 256 then (n : Int) else (n : Int) - ((256 : Nat) : Int)) % 18446744073709551616).toNat
      split <;> omega
    · have hv' : n < 65536 := hv
      show (if 2 * n < 65536 then n else n + 18446744073709551616 - 65536) = ((if 2 * n < 65536 then (n : Int) else (n : Int) - ((65536 : Nat) : Int)) % 18446744073709551616).toNat
      split <;> omega
    · have hv' : n < 16777216 := hv
      show (if 2 * n < 16777216 then n else n + 18446744073709551616 - 16777216) = ((if 2 * n < 16777216 then (n : Int) else (n : Int) - ((16777216 : Nat) : Int)) % 18446744073709551616).toNat
      split <;> omega
    · have hv' : n < 4294967296 := hv
      show (if 2 * n < 4294967296 then n else n + 18446744073709551616 - 4294967296) = ((if 2 * n < 4294967296 then (n : Int) else (n : Int) - ((4294967296 : Nat) : Int)) % 18446744073709551616).toNat
      split <;> omega
    · have hv' : n < 1099511627776 := hv
      show (if 2 * n < 1099511627776 then n else n + 18446744073709551616 - 1099511627776) = ((if 2 * n < 1099511627776 then (n : Int) else (n : Int) - ((1099511627776 : Nat) : Int)) % 18446744073709551616).toNat
      split <;> omega
    · have hv' : n < 281474976710656 := hv
      show (if 2 * n < 281474976710656 then n else n + 18446744073709551616 - 281474976710656) = ((if 2 * n < 281474976710656 then (n : Int) else (n : Int) - ((281474976710656 : Nat) : Int)) % 18446744073709551616).toNat
      split <;> omega
    · have hv' : n < 72057594037927936 := hv
      show (if 2 * n < 72057594037927936 then n else n + 18446744073709551616 - 72057594037927936) = ((if 2 * n < 72057594037927936 then (n : Int) else (n : Int) - ((72057594037927936 : Nat) : Int)) % 18446744073709551616).toNat
      split <;> omega
    · have hv' : n < 18446744073709551616 := hv
      show (if 2 * n < 18446744073709551616 then n else n + 18446744073709551616 - 18446744073709551616) = ((if 2 * n < 18446744073709551616 then (n : Int) else (n : Int) - ((18446744073709551616 : Nat) : Int)) % 18446744073709551616).toNat
      split <;> omega

theorem or_add (x : Nat) (b : UInt8) (hx : x < 72057594037927936) : bits .or .u64 ((x * 256 : Nat) : Int) ((b.toNat : Nat) : Int) = ((x * 256 + b.toNat : Nat) : Int) := by
  have hb : b.toNat < 256 := b.toNat_lt
  rw [u64_or_nat _ _ (by omega) (by omega)]
  congr 1
  have := Nat.two_pow_add_eq_or_of_lt (i := 8) hb x
  rw [Nat.mul_comm] at this
  exact this.symm

set_option maxRecDepth 100000 in
set_option maxHeartbeats 4000000 in
theorem rnumber_plain (rb B : Nat) (st : RS) (size : Int) (w : World) (h : RAt w rb B st) :
    Calls Tryz.prog 138 #[.pointer (some ⟨rb, 0, none⟩), .agg #[fv 141], .int .i64 size] w fun e w' => e = .returned (.int .u64 ((rNum st size).1 : Nat)) ∧ RDid w w' rb B (rNumL st size).2 := by
  have HH : Keep (RAt w rb B st) := ⟨h⟩
  clear h
  go_enter Tryz.func138, Tryz.ntmps138
  by_cases hs : sized size
  · have HS : Keep (sized size) := ⟨hs⟩
    have HC : Keep (∀ W : World, Calls Tryz.prog 152 #[.int .i64 size] W fun e w' => e = .returned (.bool true) ∧ w' = W) := ⟨fun W => by
      have := sized_c size W
      rwa [decide_eq_true hs] at this⟩
    have HR : Keep (rNumL st size = rTake st size) := ⟨by unfold rNumL; rw [if_pos hs]⟩
    clear hs
    go_wp2_with fail
    obtain ⟨w1, hw1⟩ : ∃ w1, w.alloc (.cells #[fv 141] 136) = w1 := ⟨_, rfl⟩
    obtain ⟨kb, hkb⟩ : ∃ kb, w.heap.size = kb := ⟨_, rfl⟩
    have HG : Keep (w.grownBy w1 none ∧ Has w1 kb [fv 141] 136 ∧ rb ≠ kb) := ⟨by rw [← hw1]; exact World.grownBy_alloc _ _ _, by rw [← hw1, ← hkb]; exact Has.newA w #[fv 141] 136, by obtain ⟨⟨a, c, q, _⟩, _⟩ := HH.out; have := q.lt; omega⟩
    rw [hw1]
    simp only [hkb]
    clear hw1 hkb
    refine (HC.out w1).mono ?_
    rintro e w1' ⟨rfl, hw⟩
    subst hw
    go_wp2_with fail
    refine (rtake_c rb B st size w1' (HH.out.kept HG.out.1)).mono ?_
    rintro e w2 ⟨a, c, rfl, hb, d2⟩
    obtain ⟨l, hl⟩ : ∃ l, (rTake st size).1 = l := ⟨_, rfl⟩
    have HL : Keep (l.length = 0 ∨ (l.length : Int) = size) := ⟨by rw [← hl]; exact rTake_len st size⟩
    have H8 : l.length ≤ 8 := by have := HS.out.2; have := HL.out; omega
    have HN : Keep ((rNumL st size).1 = l) := ⟨by rw [HR.out]; exact hl⟩
    rw [hl] at hb ⊢
    have HB : Keep (Bs w2 B a l.length c l) := ⟨hb⟩
    have HD : Keep (RDid w w2 rb B (rNumL st size).2) := ⟨by rw [HR.out]; exact d2.ahead HG.out.1⟩
    have c0 : w2.cell? ⟨kb, 0, none⟩ = some (fv 141) := (HG.out.2.1.fr d2.f (fun e => HG.out.2.2 e.symm)).cellv 0 _ rfl
    clear hb d2 hl HC HH HG HR
    obtain ⟨n, hn⟩ : ∃ n, l.length = n := ⟨_, rfl⟩
    rw [hn] at HB HL H8 ⊢
    have HLN : Keep (l.length = n) := ⟨hn⟩
    clear hn
    go_wp2_with fail
    go_loopw [7, 9, 19] (fun s7 s9 s19 w' => ∃ i : Nat, i ≤ n ∧ s7 = .int .u64 (val (l.take i) : Nat) ∧ (∃ b : UInt8, s9 = .int .u8 b.toNat ∨ s9 = undef) ∧ s19 = .int .i64 i ∧ w' = w2) (fun _ _ s19 _ => n - (intOf s19).toNat)
    case atStart => exact ⟨0, by omega, rfl, ⟨0, .inr rfl⟩, rfl, rfl⟩
    case round =>
      obtain ⟨i, hi, rfl, hb9, rfl, rfl⟩ := hrel
      by_cases hin : i < n
      · have hin2 : (i : Int) < n := by omega
        obtain ⟨o, rfl, hc⟩ := HB.out.at_ (by omega)
        obtain ⟨b, hb⟩ : ∃ b, l[i]? = some b := ⟨_, List.getElem?_eq_getElem (by rw [HLN.out]; exact hin)⟩
        have hcell : wr.cell? ⟨B, o + i, none⟩ = some (.int .u8 b.toNat) := hc i b hb
        have hx : val (l.take i) < 72057594037927936 := by
          have h1 := val_lt (l.take i)
          have h2 : (l.take i).length ≤ 7 := by rw [List.length_take]; omega
          have h3 : 256 ^ (l.take i).length ≤ 256 ^ 7 := Nat.pow_le_pow_right (by omega) h2
          have h4 : (256 : Nat) ^ 7 = 72057594037927936 := by decide
          omega
        have hst : val (l.take (i + 1)) = val (l.take i) * 256 + b.toNat := by
          obtain ⟨q1, q2⟩ := List.getElem?_eq_some_iff.1 hb
          rw [List.take_succ_eq_append_getElem q1, q2, val_snoc]
        obtain ⟨x, hxx⟩ : ∃ x, val (l.take i) = x := ⟨_, rfl⟩
        obtain ⟨y, hyy⟩ : ∃ y, val (l.take (i + 1)) = y := ⟨_, rfl⟩
        rw [hxx] at hx hst
        rw [hyy] at hst
        have HY : Keep (val (l.take (i + 1)) = y) := ⟨hyy⟩
        rw [hxx]
        have ho := or_add x b hx
        rw [← hst] at ho
        have HO : Keep (bits .or .u64 ((x : Int) * 256) (IntKind.u64.wrap (b.toNat : Int)) = (y : Int)) := ⟨by
          have hb' : b.toNat < 256 := b.toNat_lt
          rw [show IntKind.u64.wrap (b.toNat : Int) = (b.toNat : Int) by rw [wu]; omega]
          rw [← ho]; congr 1⟩
        clear ho
        have hm : IntKind.u64.wrap ((x : Int) * 256) = ((x * 256 : Nat) : Int) := by rw [wu]; omega
        have hwi : IntKind.i64.wrap ((i : Int) + 1) = ((i + 1 : Nat) : Int) := by rw [wi _ (by omega) (by omega)]; omega
        clear hc hb hst hxx hyy hb9
        go_wp2
        refine ⟨⟨i + 1, by omega, by rw [HY.out, ← HO.out], ⟨b, .inl rfl⟩, by simp, by trivial⟩, ?_⟩
        simp only [intOf]; omega
      · have hin2 : ¬ (i : Int) < n := by omega
        have he : l.take i = l := List.take_of_length_le (by rw [HLN.out]; omega)
        rw [he]
        have hv : val l < 18446744073709551616 := by
          have h1 := val_lt l
          have h3 : 256 ^ l.length ≤ 256 ^ 8 := Nat.pow_le_pow_right (by omega) (by rw [HLN.out]; exact H8)
          have h4 : (256 : Nat) ^ 8 = 18446744073709551616 := by decide
          omega
        have HW : Keep (∀ W : World, Calls Tryz.prog 141 #[.int .u64 (val l : Nat), .int .i64 (8 * (8 - size))] W fun e w' => e = .returned (.int .u64 ((rNum st size).1 : Nat)) ∧ w' = W) := ⟨fun W => by
          have := plain1_c (val l) size W hv HS.out
          have e : val l % 256 ^ size.toNat = (rNum st size).1 := by
            unfold rNum
            rw [HN.out]
            refine Nat.mod_eq_of_lt ?_
            have h1 := val_lt l
            have h3 : 256 ^ l.length ≤ 256 ^ size.toNat := Nat.pow_le_pow_right (by omega) (by have := HL.out; have := HLN.out; omega)
            omega
          rwa [e] at this⟩
        obtain ⟨x, hxx⟩ : ∃ x, val l = x := ⟨_, rfl⟩
        obtain ⟨y, hyy⟩ : ∃ y, (rNum st size).1 = y := ⟨_, rfl⟩
        rw [hxx, hyy] at HW
        rw [hxx]
        have HYY : Keep (((rNum st size).1 : Nat) = y) := ⟨hyy⟩
        clear hxx hyy hv he hb9
        go_wp2_with fail
        go_quiet (first | (go_at_call 153; exact Calls.quiet_of_same (spare_c size _ HS.out)) | (go_at_call 141; exact Calls.quiet_of_same (HW.out _)))
        go_wp2
        go_ret
        exact ⟨by rw [HYY.out]; rfl, HD.out.grown (gr_drewN _ _ _)⟩
  · have HC : Keep (∀ W : World, Calls Tryz.prog 152 #[.int .i64 size] W fun e w' => e = .returned (.bool false) ∧ w' = W) := ⟨fun W => by
      have := sized_c size W
      rwa [decide_eq_false hs] at this⟩
    have HR : Keep (rNumL st size = ([], st.fail 51)) := ⟨by unfold rNumL; rw [if_neg hs]⟩
    clear hs
    go_wp2_with fail
    obtain ⟨w1, hw1⟩ : ∃ w1, w.alloc (.cells #[fv 141] 136) = w1 := ⟨_, rfl⟩
    have HG : Keep (w.grownBy w1 none) := ⟨by rw [← hw1]; exact World.grownBy_alloc _ _ _⟩
    rw [hw1]
    clear hw1
    refine (HC.out w1).mono ?_
    rintro e w1' ⟨rfl, hw⟩
    subst hw
    go_wp2_with fail
    refine (rfail_c rb B st 51 w1' (HH.out.kept HG.out)).mono ?_
    rintro e w2 ⟨rfl, d2⟩
    have HD : Keep (RDid w w2 rb B (st.fail 51)) := ⟨d2.ahead HG.out⟩
    clear d2
    go_wp2
    go_ret
    have e0 : (rNum st size).1 = 0 := by
      unfold rNum; rw [HR.out]; rfl
    rw [e0, HR.out]
    exact ⟨rfl, HD.out⟩

set_option maxRecDepth 100000 in
set_option maxHeartbeats 4000000 in
theorem rnumber_signed (rb B : Nat) (st : RS) (size : Int) (w : World) (h : RAt w rb B st) :
    Calls Tryz.prog 138 #[.pointer (some ⟨rb, 0, none⟩), .agg #[fv 154], .int .i64 size] w fun e w' => e = .returned (.int .u64 (u64 (rSig st size).1 : Nat)) ∧ RDid w w' rb B (rNumL st size).2 := by
  have HH : Keep (RAt w rb B st) := ⟨h⟩
  clear h
  go_enter Tryz.func138, Tryz.ntmps138
  by_cases hs : sized size
  · have HS : Keep (sized size) := ⟨hs⟩
    have HC : Keep (∀ W : World, Calls Tryz.prog 152 #[.int .i64 size] W fun e w' => e = .returned (.bool true) ∧ w' = W) := ⟨fun W => by
      have := sized_c size W
      rwa [decide_eq_true hs] at this⟩
    have HR : Keep (rNumL st size = rTake st size) := ⟨by unfold rNumL; rw [if_pos hs]⟩
    clear hs
    go_wp2_with fail
    obtain ⟨w1, hw1⟩ : ∃ w1, w.alloc (.cells #[fv 154] 136) = w1 := ⟨_, rfl⟩
    obtain ⟨kb, hkb⟩ : ∃ kb, w.heap.size = kb := ⟨_, rfl⟩
    have HG : Keep (w.grownBy w1 none ∧ Has w1 kb [fv 154] 136 ∧ rb ≠ kb) := ⟨by rw [← hw1]; exact World.grownBy_alloc _ _ _, by rw [← hw1, ← hkb]; exact Has.newA w #[fv 154] 136, by obtain ⟨⟨a, c, q, _⟩, _⟩ := HH.out; have := q.lt; omega⟩
    rw [hw1]
    simp only [hkb]
    clear hw1 hkb
    refine (HC.out w1).mono ?_
    rintro e w1' ⟨rfl, hw⟩
    subst hw
    go_wp2_with fail
    refine (rtake_c rb B st size w1' (HH.out.kept HG.out.1)).mono ?_
    rintro e w2 ⟨a, c, rfl, hb, d2⟩
    obtain ⟨l, hl⟩ : ∃ l, (rTake st size).1 = l := ⟨_, rfl⟩
    have HL : Keep (l.length = 0 ∨ (l.length : Int) = size) := ⟨by rw [← hl]; exact rTake_len st size⟩
    have H8 : l.length ≤ 8 := by have := HS.out.2; have := HL.out; omega
    have HN : Keep ((rNumL st size).1 = l) := ⟨by rw [HR.out]; exact hl⟩
    rw [hl] at hb ⊢
    have HB : Keep (Bs w2 B a l.length c l) := ⟨hb⟩
    have HD : Keep (RDid w w2 rb B (rNumL st size).2) := ⟨by rw [HR.out]; exact d2.ahead HG.out.1⟩
    have c0 : w2.cell? ⟨kb, 0, none⟩ = some (fv 154) := (HG.out.2.1.fr d2.f (fun e => HG.out.2.2 e.symm)).cellv 0 _ rfl
    clear hb d2 hl HC HH HG HR
    obtain ⟨n, hn⟩ : ∃ n, l.length = n := ⟨_, rfl⟩
    rw [hn] at HB HL H8 ⊢
    have HLN : Keep (l.length = n) := ⟨hn⟩
    clear hn
    go_wp2_with fail
    go_loopw [7, 9, 19] (fun s7 s9 s19 w' => ∃ i : Nat, i ≤ n ∧ s7 = .int .u64 (val (l.take i) : Nat) ∧ (∃ b : UInt8, s9 = .int .u8 b.toNat ∨ s9 = undef) ∧ s19 = .int .i64 i ∧ w' = w2) (fun _ _ s19 _ => n - (intOf s19).toNat)
    case atStart => exact ⟨0, by omega, rfl, ⟨0, .inr rfl⟩, rfl, rfl⟩
    case round =>
      obtain ⟨i, hi, rfl, hb9, rfl, rfl⟩ := hrel
      by_cases hin : i < n
      · have hin2 : (i : Int) < n := by omega
        obtain ⟨o, rfl, hc⟩ := HB.out.at_ (by omega)
        obtain ⟨b, hb⟩ : ∃ b, l[i]? = some b := ⟨_, List.getElem?_eq_getElem (by rw [HLN.out]; exact hin)⟩
        have hcell : wr.cell? ⟨B, o + i, none⟩ = some (.int .u8 b.toNat) := hc i b hb
        have hx : val (l.take i) < 72057594037927936 := by
          have h1 := val_lt (l.take i)
          have h2 : (l.take i).length ≤ 7 := by rw [List.length_take]; omega
          have h3 : 256 ^ (l.take i).length ≤ 256 ^ 7 := Nat.pow_le_pow_right (by omega) h2
          have h4 : (256 : Nat) ^ 7 = 72057594037927936 := by decide
          omega
        have hst : val (l.take (i + 1)) = val (l.take i) * 256 + b.toNat := by
          obtain ⟨q1, q2⟩ := List.getElem?_eq_some_iff.1 hb
          rw [List.take_succ_eq_append_getElem q1, q2, val_snoc]
        obtain ⟨x, hxx⟩ : ∃ x, val (l.take i) = x := ⟨_, rfl⟩
        obtain ⟨y, hyy⟩ : ∃ y, val (l.take (i + 1)) = y := ⟨_, rfl⟩
        rw [hxx] at hx hst
        rw [hyy] at hst
        have HY : Keep (val (l.take (i + 1)) = y) := ⟨hyy⟩
        rw [hxx]
        have ho := or_add x b hx
        rw [← hst] at ho
        have HO : Keep (bits .or .u64 ((x : Int) * 256) (IntKind.u64.wrap (b.toNat : Int)) = (y : Int)) := ⟨by
          have hb' : b.toNat < 256 := b.toNat_lt
          rw [show IntKind.u64.wrap (b.toNat : Int) = (b.toNat : Int) by rw [wu]; omega]
          rw [← ho]; congr 1⟩
        clear ho
        have hm : IntKind.u64.wrap ((x : Int) * 256) = ((x * 256 : Nat) : Int) := by rw [wu]; omega
        have hwi : IntKind.i64.wrap ((i : Int) + 1) = ((i + 1 : Nat) : Int) := by rw [wi _ (by omega) (by omega)]; omega
        clear hc hb hst hxx hyy hb9
        go_wp2
        refine ⟨⟨i + 1, by omega, by rw [HY.out, ← HO.out], ⟨b, .inl rfl⟩, by simp, by trivial⟩, ?_⟩
        simp only [intOf]; omega
      · have hin2 : ¬ (i : Int) < n := by omega
        have he : l.take i = l := List.take_of_length_le (by rw [HLN.out]; omega)
        rw [he]
        have hv : val l < 18446744073709551616 := by
          have h1 := val_lt l
          have h3 : 256 ^ l.length ≤ 256 ^ 8 := Nat.pow_le_pow_right (by omega) (by rw [HLN.out]; exact H8)
          have h4 : (256 : Nat) ^ 8 = 18446744073709551616 := by decide
          omega
        have HW : Keep (∀ W : World, Calls Tryz.prog 154 #[.int .u64 (val l : Nat), .int .i64 (8 * (8 - size))] W fun e w' => e = .returned (.int .u64 (u64 (rSig st size).1 : Nat)) ∧ w' = W) := ⟨fun W => by
          have := signed1_c (val l) size W hv HS.out
          have e : sx (val l) size.toNat = u64 (rSig st size).1 := by
            unfold rSig
            rw [HN.out]
            exact sx_val l size HS.out (by rw [HLN.out]; exact HL.out)
          rwa [e] at this⟩
        obtain ⟨x, hxx⟩ : ∃ x, val l = x := ⟨_, rfl⟩
        obtain ⟨y, hyy⟩ : ∃ y, u64 (rSig st size).1 = y := ⟨_, rfl⟩
        rw [hxx, hyy] at HW
        rw [hxx]
        have HYY : Keep ((u64 (rSig st size).1 : Nat) = y) := ⟨hyy⟩
        clear hxx hyy hv he hb9
        go_wp2_with fail
        go_quiet (first | (go_at_call 153; exact Calls.quiet_of_same (spare_c size _ HS.out)) | (go_at_call 154; exact Calls.quiet_of_same (HW.out _)))
        go_wp2
        go_ret
        exact ⟨by rw [HYY.out]; rfl, HD.out.grown (gr_drewN _ _ _)⟩
  · have HC : Keep (∀ W : World, Calls Tryz.prog 152 #[.int .i64 size] W fun e w' => e = .returned (.bool false) ∧ w' = W) := ⟨fun W => by
      have := sized_c size W
      rwa [decide_eq_false hs] at this⟩
    have HR : Keep (rNumL st size = ([], st.fail 51)) := ⟨by unfold rNumL; rw [if_neg hs]⟩
    clear hs
    go_wp2_with fail
    obtain ⟨w1, hw1⟩ : ∃ w1, w.alloc (.cells #[fv 154] 136) = w1 := ⟨_, rfl⟩
    have HG : Keep (w.grownBy w1 none) := ⟨by rw [← hw1]; exact World.grownBy_alloc _ _ _⟩
    rw [hw1]
    clear hw1
    refine (HC.out w1).mono ?_
    rintro e w1' ⟨rfl, hw⟩
    subst hw
    go_wp2_with fail
    refine (rfail_c rb B st 51 w1' (HH.out.kept HG.out)).mono ?_
    rintro e w2 ⟨rfl, d2⟩
    have HD : Keep (RDid w w2 rb B (st.fail 51)) := ⟨d2.ahead HG.out⟩
    clear d2
    go_wp2
    go_ret
    have e0 : u64 (rSig st size).1 = 0 := by
      unfold rSig; rw [HR.out]; rfl
    rw [e0, HR.out]
    exact ⟨rfl, HD.out⟩
end Go.Proofs.YtiphnlfbgbemfaaGreatDoor.Pk

/- pack: the Reader. -/
namespace Go.Proofs.YtiphnlfbgbemfaaGreatDoor.Pk
open Go Go.RowKit

theorem rNumL_len (st : RS) (size : Int) : (rNumL st size).1.length ≤ 8 := by
  unfold rNumL
  split
  · rename_i h
    have := rTake_len st size
    have := h.2
    omega
  · simp
theorem val8 (l : List UInt8) (h : l.length ≤ 8) : val l < 18446744073709551616 := by
  have h1 := val_lt l
  have h3 : 256 ^ l.length ≤ 256 ^ 8 := Nat.pow_le_pow_right (by omega) h
  have h4 : (256 : Nat) ^ 8 = 18446744073709551616 := by decide
  omega
theorem sval8 (l : List UInt8) (h : l.length ≤ 8) : -9223372036854775808 ≤ sval l ∧ sval l < 9223372036854775808 := by
  have h1 := val_lt l
  unfold sval
  obtain ⟨n, hn⟩ : ∃ n, val l = n := ⟨_, rfl⟩
  obtain ⟨k, hk⟩ : ∃ k, l.length = k := ⟨_, rfl⟩
  rw [hn, hk] at h1 ⊢
  have h9 : k = 0 ∨ k = 1 ∨ k = 2 ∨ k = 3 ∨ k = 4 ∨ k = 5 ∨ k = 6 ∨ k = 7 ∨ k = 8 := by omega
  clear hk hn h
  have key : ∀ p : Nat, p ≤ 18446744073709551616 → n < p → -9223372036854775808 ≤ (if 2 * n < p then (n : Int) else (n : Int) - (p : Nat)) ∧ (if 2 * n < p then (n : Int) else (n : Int) - (p : Nat)) < 9223372036854775808 := fun p hp hn => by
    split <;> omega
  refine key _ ?_ h1
  have h3 : 256 ^ k ≤ 256 ^ 8 := Nat.pow_le_pow_right (by omega) (by omega)
  have h4 : (256 : Nat) ^ 8 = 18446744073709551616 := by decide
  omega
theorem rNum_lt (st : RS) (size : Int) : (rNum st size).1 < 18446744073709551616 := val8 _ (rNumL_len st size)
theorem rNum_lt1 (st : RS) : (rNum st 1).1 < 256 := by
  have h1 := val_lt (rNumL st 1).1
  have h2 : (rNumL st 1).1.length ≤ 1 := by
    unfold rNumL
    split
    · have := rTake_len st 1; omega
    · simp
  have h3 : 256 ^ (rNumL st 1).1.length ≤ 256 ^ 1 := Nat.pow_le_pow_right (by omega) h2
  show val (rNumL st 1).1 < 256
  omega
theorem newR_c (s : ByteArray) (w : World) :
    Calls Tryz.prog 111 #[.string s] w fun e w' => ∃ rb B, e = .returned (.pointer (some ⟨rb, 0, none⟩)) ∧ RAt w' rb B (sl s, 0) ∧ w.grownBy w' none ∧ w.heap.size ≤ rb ∧ w.heap.size ≤ B := by
  have hcv : ∀ W : World, (convert 9 39 (.string s)).run Tryz.prog W = .ok (.slice (some ⟨W.heap.size, 0, none⟩) s.size (grownCap W s.size 0 5)) (Lib.bytesWorld W 5 s) := fun W => Lib.run_convert_string_bytes (P := Tryz.prog) W 9 39 5 s (u := .string) under9 under53 under5
  have g1 : w.grownBy (Lib.bytesWorld w 5 s) none := ⟨rfl, rfl, rfl, by rw [Lib.bytesWorld_size]; omega, fun k hk _ => Lib.bytesWorld_at_old _ _ _ _ hk⟩
  have hb : Bs (Lib.bytesWorld w 5 s) w.heap.size (some ⟨w.heap.size, 0, none⟩) s.size (grownCap w s.size 0 5) (sl s) := by
    refine ⟨sl_len s, grownCap_ge w s.size 0 5, fun e => (by cases e), fun _ => ⟨0, rfl, fun j x hx => ?_⟩⟩
    have hj : j < s.size := by rw [← sl_len]; exact (List.getElem?_eq_some_iff.1 hx).1
    rw [Nat.zero_add, Lib.bytesWorld_cell _ _ _ j hj]
    unfold sl at hx
    simp [List.getD, hx]
  have hz : w.heap.size < (Lib.bytesWorld w 5 s).heap.size := by rw [Lib.bytesWorld_size]; omega
  have HG : Keep (w.grownBy (Lib.bytesWorld w 5 s) none ∧ Bs (Lib.bytesWorld w 5 s) w.heap.size (some ⟨w.heap.size, 0, none⟩) s.size (grownCap w s.size 0 5) (sl s) ∧ w.heap.size < (Lib.bytesWorld w 5 s).heap.size) := ⟨g1, hb, hz⟩
  clear g1 hb hz
  have hcw := hcv w
  clear hcv
  obtain ⟨w1, hw1⟩ : ∃ w1, Lib.bytesWorld w 5 s = w1 := ⟨_, rfl⟩
  obtain ⟨B, hB⟩ : ∃ B, w.heap.size = B := ⟨_, rfl⟩
  obtain ⟨c, hc⟩ : ∃ c, grownCap w s.size 0 5 = c := ⟨_, rfl⟩
  rw [hw1, hB, hc] at HG hcw
  clear hw1 hc
  go_enter Tryz.func111, Tryz.ntmps111
  go_wp2
  go_ret
  obtain ⟨q1, q2, q3⟩ := HG.out
  have g2 := World.grownBy_alloc w1 (.cells #[.slice (some ⟨B, 0, none⟩) s.size c, .int .i64 0] 141) none
  refine ⟨_, B, rfl, ⟨⟨some ⟨B, 0, none⟩, c, ?_, ?_⟩, by omega, Nat.lt_of_lt_of_le q3 g2.size, fun e => absurd rfl e⟩, q1.trans g2, by omega, by omega⟩
  · simp only [sl_len]; exact Has.newA w1 _ 141
  · simp only [sl_len]; exact q2.fr (S := fun _ => False) (Fr.ofNone g2) (fun e => e)
theorem rNumber_c (rb B : Nat) (st : RS) (size : Int) (w : World) (h : RAt w rb B st) :
    Calls Tryz.prog 125 #[.pointer (some ⟨rb, 0, none⟩), .int .i64 size] w fun e w' => e = .returned (.int .u64 ((rNum st size).1 : Nat)) ∧ RDid w w' rb B (rNum st size).2 := by
  have HH : Keep (RAt w rb B st) := ⟨h⟩
  clear h
  go_enter Tryz.func125, Tryz.ntmps125
  go_wp2_with fail
  refine (plain_c w).mono ?_
  rintro e w1 ⟨rfl, g1⟩
  go_wp2_with fail
  refine (rnumber_plain rb B st size w1 (HH.out.kept g1)).mono ?_
  rintro e w2 ⟨rfl, d2⟩
  have HD : Keep (RDid w w2 rb B (rNum st size).2) := ⟨d2.ahead g1⟩
  clear d2 g1 HH
  go_wp2
  go_ret
  exact ⟨rfl, HD.out⟩
theorem rSigned_c (rb B : Nat) (st : RS) (size : Int) (w : World) (h : RAt w rb B st) :
    Calls Tryz.prog 142 #[.pointer (some ⟨rb, 0, none⟩), .int .i64 size] w fun e w' => e = .returned (.int .i64 (rSig st size).1) ∧ RDid w w' rb B (rSig st size).2 := by
  have HH : Keep (RAt w rb B st) := ⟨h⟩
  have HW : Keep (wrap64 (u64 (rSig st size).1 : Nat) = (rSig st size).1) := ⟨by
    have := sval8 _ (rNumL_len st size)
    have e : (rSig st size).1 = sval (rNumL st size).1 := rfl
    rw [e]
    unfold u64 wrap64
    omega⟩
  clear h
  go_enter Tryz.func142, Tryz.ntmps142
  go_wp2_with fail
  refine (signed_c w).mono ?_
  rintro e w1 ⟨rfl, g1⟩
  go_wp2_with fail
  refine (rnumber_signed rb B st size w1 (HH.out.kept g1)).mono ?_
  rintro e w2 ⟨rfl, d2⟩
  have HD : Keep (RDid w w2 rb B (rSig st size).2) := ⟨d2.ahead g1⟩
  clear d2 g1 HH
  go_wp2
  go_ret
  exact ⟨congrArg (fun z => Ending.returned (.int .i64 z)) HW.out, HD.out⟩
theorem rBytes_c (rb B : Nat) (st : RS) (n : Int) (w : World) (h : RAt w rb B st) :
    Calls Tryz.prog 122 #[.pointer (some ⟨rb, 0, none⟩), .int .i64 n] w fun e w' => e = .returned (.string ⟨(rTake st n).1.toArray⟩) ∧ RDid w w' rb B (rTake st n).2 := by
  have HH : Keep (RAt w rb B st) := ⟨h⟩
  clear h
  go_enter Tryz.func122, Tryz.ntmps122
  go_wp2_with fail
  refine (rtake_c rb B st n w HH.out).mono ?_
  rintro e w1 ⟨a, c, rfl, hb, d1⟩
  have hcv := hb.cvt
  have HD : Keep (RDid w w1 rb B (rTake st n).2) := ⟨d1⟩
  obtain ⟨s, hs⟩ : ∃ s, (⟨(rTake st n).1.toArray⟩ : ByteArray) = s := ⟨_, rfl⟩
  rw [hs] at hcv
  have HS : Keep ((⟨(rTake st n).1.toArray⟩ : ByteArray) = s) := ⟨hs⟩
  clear d1 hb HH hs
  generalize (rTake st n).1.length = k at *
  go_wp2
  go_ret
  exact ⟨by rw [HS.out]; rfl, HD.out⟩
theorem rTake_rest (st : RS) : rTake st st.1.length = (st.1, ([], st.2)) := by
  unfold rTake
  rw [if_neg (by omega), if_neg (by omega)]
  simp
theorem rLeft_c (rb B : Nat) (st : RS) (w : World) (h : RAt w rb B st) :
    Calls Tryz.prog 132 #[.pointer (some ⟨rb, 0, none⟩)] w fun e w' => e = .returned (.int .i64 (st.1.length : Nat)) ∧ w' = w := by
  obtain ⟨⟨a, c, h1, _⟩, _⟩ := h
  have c0 : w.cell? ⟨rb, 0, none⟩ = some (.slice a st.1.length c) := h1.cellv 0 _ rfl
  clear h1
  go_enter Tryz.func132, Tryz.ntmps132
  go_wp2
  go_ret
  exact ⟨rfl, rfl⟩
end Go.Proofs.YtiphnlfbgbemfaaGreatDoor.Pk

/- things that lie apart; Writers and Readers among them. -/
namespace Go.Proofs.YtiphnlfbgbemfaaGreatDoor.Pk
open Go Go.RowKit

/-- a thing: its blocks, what is said of it; other blocks don't touch it -/
structure Ob where
  F : Nat → Prop
  P : World → Prop
  st : ∀ (S : Nat → Prop) (W W' : World), P W → Fr S W W' → (∀ i, F i → ¬ S i) → P W'
  lt : ∀ W, P W → ∀ i, F i → i < W.heap.size
/-- they hold, they lie apart, above lo -/
structure Sep (lo : Nat) (W : World) (l : List Ob) : Prop where
  p : ∀ o ∈ l, o.P W
  lo : ∀ o ∈ l, ∀ i, o.F i → lo ≤ i
  ap : l.Pairwise (fun a b => ∀ i, a.F i → ¬ b.F i)
theorem Sep.sub {lo : Nat} {W : World} {l l' : List Ob} (h : Sep lo W l) (hs : l'.Sublist l) : Sep lo W l' :=
  ⟨fun o ho => h.p o (hs.subset ho), fun o ho => h.lo o (hs.subset ho), h.ap.sublist hs⟩
theorem Sep.tail {lo : Nat} {W : World} {o : Ob} {l : List Ob} (h : Sep lo W (o :: l)) : Sep lo W l := h.sub (List.sublist_cons_self _ _)
theorem Sep.perm {lo : Nat} {W : World} {l l' : List Ob} (h : Sep lo W l) (hp : l.Perm l') : Sep lo W l' :=
  ⟨fun o ho => h.p o (hp.mem_iff.2 ho), fun o ho => h.lo o (hp.mem_iff.2 ho), (hp.pairwise_iff (fun {_ _} q i hi e => q i e hi)).1 h.ap⟩
theorem Sep.fr {lo : Nat} {W W' : World} {l : List Ob} {S : Nat → Prop} (h : Sep lo W l) (f : Fr S W W') (hs : ∀ o ∈ l, ∀ i, o.F i → ¬ S i) : Sep lo W' l :=
  ⟨fun o ho => o.st S W W' (h.p o ho) f (hs o ho), h.lo, h.ap⟩
theorem Sep.grown {lo : Nat} {W W' : World} {l : List Ob} (h : Sep lo W l) (hg : W.grownBy W' none) : Sep lo W' l :=
  h.fr (S := fun _ => False) (Fr.ofNone hg) (fun _ _ _ _ e => e)
theorem Sep.lt {lo : Nat} {W : World} {l : List Ob} (h : Sep lo W l) : ∀ o ∈ l, ∀ i, o.F i → i < W.heap.size := fun o ho => o.lt W (h.p o ho)
/-- one of them turned, within its blocks and new ones; a new thing came beside -/
theorem Sep.updAdd {lo : Nat} {W W' : World} {A B : List Ob} {o o' n : Ob} (h : Sep lo W (A ++ o :: B)) (hlo : lo ≤ W.heap.size) (f : Fr o.F W W') (hp : o'.P W') (hF : ∀ i, o'.F i → o.F i ∨ W.heap.size ≤ i) (hn : n.P W') (hnF : ∀ i, n.F i → W.heap.size ≤ i) (hno : ∀ i, n.F i → ¬ o'.F i) : Sep lo W' (n :: (A ++ o' :: B)) := by
  have hap := List.pairwise_append.1 h.ap
  have hap2 := List.pairwise_cons.1 hap.2.1
  have hAo : ∀ x ∈ A, ∀ i, x.F i → ¬ o.F i := fun x hx => hap.2.2 x hx o (by simp)
  have hBo : ∀ x ∈ B, ∀ i, x.F i → ¬ o.F i := fun x hx i hi e => hap2.1 x hx i e hi
  have hA : ∀ x ∈ A, x ∈ A ++ o :: B := fun x hx => by simp [hx]
  have hB : ∀ x ∈ B, x ∈ A ++ o :: B := fun x hx => by simp [hx]
  have key : ∀ x ∈ A ++ o :: B, (∀ i, x.F i → ¬ o.F i) → ∀ i, x.F i → ¬ o'.F i := fun x hx hq i hi e => by
    rcases hF i e with q | q
    · exact hq i hi q
    · have := h.lt x hx i hi; omega
  refine ⟨fun x hx => ?_, fun x hx i hi => ?_, ?_⟩
  · rcases List.mem_cons.1 hx with rfl | hx
    · exact hn
    rcases List.mem_append.1 hx with hx | hx
    · exact x.st _ _ _ (h.p x (hA x hx)) f (hAo x hx)
    rcases List.mem_cons.1 hx with rfl | hx
    · exact hp
    · exact x.st _ _ _ (h.p x (hB x hx)) f (hBo x hx)
  · rcases List.mem_cons.1 hx with rfl | hx
    · exact Nat.le_trans hlo (hnF i hi)
    rcases List.mem_append.1 hx with hx | hx
    · exact h.lo x (hA x hx) i hi
    rcases List.mem_cons.1 hx with rfl | hx
    · rcases hF i hi with q | q
      · exact h.lo o (by simp) i q
      · omega
    · exact h.lo x (hB x hx) i hi
  · refine List.pairwise_cons.2 ⟨fun x hx i hi e => ?_, List.pairwise_append.2 ⟨hap.1, List.pairwise_cons.2 ⟨fun x hx i hi e => ?_, hap2.2⟩, fun x hx y hy i hi e => ?_⟩⟩
    · have q := hnF i hi
      rcases List.mem_append.1 hx with hx | hx
      · have := h.lt x (hA x hx) i e; omega
      rcases List.mem_cons.1 hx with rfl | hx
      · exact hno i hi e
      · have := h.lt x (hB x hx) i e; omega
    · exact key x (hB x hx) (hBo x hx) i e hi
    · rcases List.mem_cons.1 hy with rfl | hy
      · exact key x (hA x hx) (hAo x hx) i hi e
      · exact hap.2.2 x hx y (by simp [hy]) i hi e
def Ob.none : Ob := ⟨fun _ => False, fun _ => True, fun _ _ _ _ _ _ => trivial, fun _ _ _ e => e.elim⟩
theorem Sep.upd {lo : Nat} {W W' : World} {A B : List Ob} {o o' : Ob} (h : Sep lo W (A ++ o :: B)) (hlo : lo ≤ W.heap.size) (f : Fr o.F W W') (hp : o'.P W') (hF : ∀ i, o'.F i → o.F i ∨ W.heap.size ≤ i) : Sep lo W' (A ++ o' :: B) :=
  (h.updAdd (n := Ob.none) hlo f hp hF trivial (fun _ e => e.elim) (fun _ e => e.elim)).tail
theorem Sep.add {lo : Nat} {W W' : World} {l : List Ob} {n : Ob} (h : Sep lo W l) (hlo : lo ≤ W.heap.size) (hg : W.grownBy W' .none) (hn : n.P W') (hnF : ∀ i, n.F i → W.heap.size ≤ i) : Sep lo W' (n :: l) := by
  have h' := h.grown hg
  refine ⟨fun x hx => ?_, fun x hx i hi => ?_, List.pairwise_cons.2 ⟨fun x hx i hi e => ?_, h.ap⟩⟩
  · rcases List.mem_cons.1 hx with rfl | hx
    · exact hn
    · exact h'.p x hx
  · rcases List.mem_cons.1 hx with rfl | hx
    · exact Nat.le_trans hlo (hnF i hi)
    · exact h'.lo x hx i hi
  · have := hnF i hi
    have := h.lt x hx i e
    omega
def Ob.both (a b : Ob) : Ob := ⟨fun i => a.F i ∨ b.F i, fun W => a.P W ∧ b.P W ∧ ∀ i, a.F i → ¬ b.F i, fun S W W' h f hs => ⟨a.st S W W' h.1 f (fun i hi => hs i (.inl hi)), b.st S W W' h.2.1 f (fun i hi => hs i (.inr hi)), h.2.2⟩, fun W h i hi => hi.elim (a.lt W h.1 i) (b.lt W h.2.1 i)⟩
theorem Sep.merge {lo : Nat} {W : World} {a b : Ob} {l : List Ob} (h : Sep lo W (a :: b :: l)) : Sep lo W (a.both b :: l) := by
  have h1 := List.pairwise_cons.1 h.ap
  have h2 := List.pairwise_cons.1 h1.2
  refine ⟨fun x hx => ?_, fun x hx i hi => ?_, List.pairwise_cons.2 ⟨fun x hx i hi e => ?_, h2.2⟩⟩
  · rcases List.mem_cons.1 hx with rfl | hx
    · exact ⟨h.p a (by simp), h.p b (by simp), h1.1 b (by simp)⟩
    · exact h.p x (by simp [hx])
  · rcases List.mem_cons.1 hx with rfl | hx
    · exact hi.elim (h.lo a (by simp) i) (h.lo b (by simp) i)
    · exact h.lo x (by simp [hx]) i hi
  · rcases hi with hi | hi
    · exact h1.1 x (by simp [hx]) i hi e
    · exact h2.1 x hx i hi e
theorem Sep.nil (lo : Nat) (W : World) : Sep lo W [] := ⟨fun _ h => (by cases h), fun _ h => (by cases h), List.Pairwise.nil⟩


theorem fr_mine {S : Nat → Prop} {w w1 w2 : World} (h : w.grownBy w1 none) (f : Fr S w1 w2) (hs : ∀ i, S i → w.heap.size ≤ i) : w.grownBy w2 none :=
  ((Fr.ofNone (S := S) h).trans f).none hs
/-- a Writer -/
def wO (wb : Nat) (v : Value) (st : WS) : Ob := ⟨WF wb v, fun W => WAt W wb v st, fun _ _ _ h f hs => h.fr f hs, fun _ h => h.lt⟩
/-- a Reader -/
def rO (rb B : Nat) (st : RS) : Ob := ⟨fun i => i = rb ∨ i = B, fun W => RAt W rb B st, fun _ _ _ h f hs => h.fr f (hs _ (.inl rfl)) (hs _ (.inr rfl)), fun _ h i hi => by
  rcases hi with rfl | rfl
  · obtain ⟨⟨a, c, q, _⟩, _⟩ := h; exact q.lt
  · exact h.lt⟩
theorem Sep.wdid {lo : Nat} {W W' : World} {A X : List Ob} {wb : Nat} {v v' : Value} {st st' : WS} (h : Sep lo W (A ++ wO wb v st :: X)) (hlo : lo ≤ W.heap.size) (d : WDid W W' wb v st' v') : Sep lo W' (A ++ wO wb v' st' :: X) :=
  h.upd hlo d.f d.a (fun i hi => by
    rcases hi with e | e
    · exact .inl (.inl e)
    · exact (d.n i e).imp_left .inr)
theorem Sep.rdid {lo : Nat} {W W' : World} {A X : List Ob} {rb B : Nat} {st st' : RS} (h : Sep lo W (A ++ rO rb B st :: X)) (hlo : lo ≤ W.heap.size) (d : RDid W W' rb B st') : Sep lo W' (A ++ rO rb B st' :: X) :=
  h.upd hlo (d.f.mono (fun _ e => .inl (.inl e))) d.a (fun _ hi => .inl hi)
/-- things of the call's own: they lie apart, and nothing elder has turned -/
structure Mine (w W : World) (l : List Ob) : Prop where
  g : w.grownBy W none
  s : Sep w.heap.size W l
theorem Mine.start (w : World) : Mine w w [] := ⟨World.grownBy.refl _ _, Sep.nil _ _⟩
theorem Mine.grown {w W W' : World} {l : List Ob} (h : Mine w W l) (hg : W.grownBy W' none) : Mine w W' l := ⟨h.g.trans hg, h.s.grown hg⟩
theorem Mine.perm {w W : World} {l l' : List Ob} (h : Mine w W l) (hp : l.Perm l') : Mine w W l' := ⟨h.g, h.s.perm hp⟩
theorem Mine.sub {w W : World} {l l' : List Ob} (h : Mine w W l) (hp : l'.Sublist l) : Mine w W l' := ⟨h.g, h.s.sub hp⟩
theorem Mine.newW {w W W' : World} {l : List Ob} {wb : Nat} (h : Mine w W l) (a : WAt W' wb (.slice none 0 0) (some [])) (hg : W.grownBy W' none) (hb : W.heap.size ≤ wb) : Mine w W' (wO wb (.slice none 0 0) (some []) :: l) :=
  ⟨h.g.trans hg, h.s.add h.g.size hg a (fun i hi => by
    rcases hi with e | e
    · omega
    · cases e)⟩
theorem Mine.newR {w W W' : World} {l : List Ob} {rb B : Nat} {st : RS} (h : Mine w W l) (a : RAt W' rb B st) (hg : W.grownBy W' none) (hb : W.heap.size ≤ rb) (hB : W.heap.size ≤ B) : Mine w W' (rO rb B st :: l) :=
  ⟨h.g.trans hg, h.s.add h.g.size hg a (fun i hi => by
    rcases hi with e | e <;> omega)⟩
theorem Mine.wdid {w W W' : World} {A X : List Ob} {wb : Nat} {v v' : Value} {st st' : WS} (h : Mine w W (A ++ wO wb v st :: X)) (d : WDid W W' wb v st' v') : Mine w W' (A ++ wO wb v' st' :: X) :=
  ⟨fr_mine h.g d.f (fun i hi => h.s.lo (wO wb v st) (by simp) i hi), h.s.wdid h.g.size d⟩
theorem Mine.rdid {w W W' : World} {A X : List Ob} {rb B : Nat} {st st' : RS} (h : Mine w W (A ++ rO rb B st :: X)) (d : RDid W W' rb B st') : Mine w W' (A ++ rO rb B st' :: X) :=
  ⟨fr_mine h.g d.f (fun i hi => h.s.lo (rO rb B st) (by simp) i (.inl hi)), h.s.rdid h.g.size d⟩
theorem Mine.w {w W : World} {A X : List Ob} {wb : Nat} {v : Value} {st : WS} (h : Mine w W (A ++ wO wb v st :: X)) : WAt W wb v st := h.s.p (wO wb v st) (by simp)
theorem Mine.r {w W : World} {A X : List Ob} {rb B : Nat} {st : RS} (h : Mine w W (A ++ rO rb B st :: X)) : RAt W rb B st := h.s.p (rO rb B st) (by simp)
end Go.Proofs.YtiphnlfbgbemfaaGreatDoor.Pk

/- frame, over lists: datagrams, fields, how they are taken and laid -/
namespace Go.Proofs.YtiphnlfbgbemfaaGreatDoor.Pk
open Go Go.RowKit

@[ext] structure Dg where
  kind : Int
  nonce : ByteArray
  epoch : Nat
  cookie : ByteArray
  name : ByteArray
  session : Nat
  player : Int
  salt : ByteArray
  seq : Nat
  thr : Int
  turn : Int
  fire : Bool
  boost : Bool
  data : ByteArray
  tag : ByteArray
def Dg.cells (d : Dg) : List Value := [.int .i64 d.kind, .string d.nonce, .int .u64 d.epoch, .string d.cookie, .string d.name, .int .u64 d.session, .int .i64 d.player, .string d.salt, .int .u64 d.seq, .int .i64 d.thr, .int .i64 d.turn, .bool d.fire, .bool d.boost, .string d.data, .string d.tag]
def Dg.val (d : Dg) : Value := .agg #[.int .i64 d.kind, .string d.nonce, .int .u64 d.epoch, .string d.cookie, .string d.name, .int .u64 d.session, .int .i64 d.player, .string d.salt, .int .u64 d.seq, .agg #[.int .i64 d.thr, .int .i64 d.turn, .bool d.fire, .bool d.boost], .string d.data, .string d.tag]
/-- what a datagram's numbers are -/
structure Dg.fine (d : Dg) : Prop where
  k : -9223372036854775808 ≤ d.kind ∧ d.kind < 9223372036854775808
  e : d.epoch < 18446744073709551616
  s : d.session < 18446744073709551616
  p : -9223372036854775808 ≤ d.player ∧ d.player < 9223372036854775808
  q : d.seq < 18446744073709551616
  h : -9223372036854775808 ≤ d.thr ∧ d.thr < 9223372036854775808
  t : -9223372036854775808 ≤ d.turn ∧ d.turn < 9223372036854775808
def nob : ByteArray := { data := #[] }
def Dg.zero (k : Int) : Dg := ⟨k, nob, 0, nob, nob, 0, 0, nob, 0, 0, 0, false, false, nob, nob⟩

inductive Fd where
  | nonce | zeros | epoch | cookie | name | tag | session | player | salt | seq | thr | turn | flags | view
def fieldsL (k : Int) : List Fd :=
  if k = 1 then [.nonce, .zeros] else if k = 2 then [.nonce, .epoch, .cookie] else if k = 3 then [.nonce, .epoch, .cookie, .name, .tag]
  else if k = 4 then [.nonce, .session, .player, .salt, .tag] else if k = 5 then [.session, .seq, .thr, .turn, .flags, .tag]
  else if k = 6 then [.session, .seq, .view, .tag] else if k = 7 then [.session, .seq, .tag] else []

abbrev TS := Dg × List UInt8 × Bool
def need (L : List UInt8) (n : Int) : Option (List UInt8 × List UInt8) := if n < 0 ∨ (L.length : Int) < n then none else some (L.take n.toNat, L.drop n.toNat)
abbrev ba (l : List UInt8) : ByteArray := ⟨l.toArray⟩
def zero76 : List UInt8 := List.replicate 76 0
def tk : Fd → TS → Option TS
  | .nonce, (d, L, r) => (need L 16).map fun p => ({ d with nonce := ba p.1 }, p.2, r)
  | .salt, (d, L, r) => (need L 16).map fun p => ({ d with salt := ba p.1 }, p.2, r)
  | .cookie, (d, L, r) => (need L 32).map fun p => ({ d with cookie := ba p.1 }, p.2, r)
  | .tag, (d, L, r) => (need L 32).map fun p => ({ d with tag := ba p.1 }, p.2, r)
  | .epoch, (d, L, r) => (need L 8).map fun p => ({ d with epoch := val p.1 }, p.2, r)
  | .session, (d, L, r) => (need L 8).map fun p => ({ d with session := val p.1 }, p.2, r)
  | .seq, (d, L, r) => (need L 8).map fun p => ({ d with seq := val p.1 }, p.2, r)
  | .thr, (d, L, r) => (need L 1).map fun p => ({ d with thr := sval p.1 }, p.2, r)
  | .turn, (d, L, r) => (need L 1).map fun p => ({ d with turn := sval p.1 }, p.2, r)
  | .player, (d, L, r) => (need L 1).map fun p => ({ d with player := (val p.1 : Nat) }, p.2, r)
  | .flags, (d, L, r) => (need L 1).map fun p => ({ d with fire := decide (val p.1 % 2 = 1), boost := decide (val p.1 / 2 % 2 = 1) }, p.2, r || !decide (val p.1 ≤ 3))
  | .name, (d, L, r) => (need L 1).bind fun p => (need p.2 (val p.1 : Nat)).map fun q => ({ d with name := ba q.1 }, q.2, r)
  | .view, (d, L, r) => (need L ((L.length : Int) - 32)).map fun p => ({ d with data := ba p.1 }, p.2, r)
  | .zeros, (d, L, r) => (need L 76).map fun p => (d, p.2, r || !decide (p.1 = zero76))
def takes : List Fd → TS → Option TS
  | [], s => some s
  | f :: fs, s => (tk f s).bind (takes fs)
def magic : List UInt8 := [74, 48, 49]
def kindL (s : List UInt8) : Int := if s.length < 4 ∨ s.take 3 ≠ magic then 0 else ((s.getD 3 0).toNat : Int)
def ended : Option TS → Dg × Int
  | none => (Dg.zero 0, 72)
  | some (d, L, r) => if 0 < L.length then (Dg.zero 0, 72) else if r then (Dg.zero 0, 73) else (d, 0)
def dec (s : List UInt8) : Dg × Int :=
  if 1200 < s.length then (Dg.zero 0, 72) else if s.take 3 ≠ magic then (Dg.zero 0, 70) else if fieldsL (kindL s) = [] then (Dg.zero 0, 71)
  else ended (takes (fieldsL (kindL s)) (Dg.zero (kindL s), s.drop 4, false))

abbrev LS := WS × Bool
def flagsN (d : Dg) : Nat := (if d.fire then 1 else 0) + (if d.boost then 2 else 0)
def ly (d : Dg) : Fd → LS → LS
  | .nonce, (st, r) => (wBytes st (sl d.nonce), r || !decide (d.nonce.size = 16))
  | .salt, (st, r) => (wBytes st (sl d.salt), r || !decide (d.salt.size = 16))
  | .cookie, (st, r) => (wBytes st (sl d.cookie), r || !decide (d.cookie.size = 32))
  | .tag, (st, r) => (wBytes st (sl d.tag), r || !decide (d.tag.size = 32))
  | .epoch, (st, r) => (wNum st d.epoch 8, r)
  | .session, (st, r) => (wNum st d.session 8, r)
  | .seq, (st, r) => (wNum st d.seq 8, r)
  | .thr, (st, r) => (wSig st d.thr 1, r)
  | .turn, (st, r) => (wSig st d.turn 1, r)
  | .player, (st, r) => (wNum st (Pk.u64 d.player) 1, r)
  | .flags, (st, r) => (wNum st (flagsN d) 1, r)
  | .name, (st, r) => (wText st (sl d.name), r)
  | .view, (st, r) => (wBytes st (sl d.data), r)
  | .zeros, (st, r) => (wBytes st zero76, r)
def lays (d : Dg) (fs : List Fd) (s : LS) : LS := fs.foldl (fun s f => ly d f s) s
def finish : LS → List UInt8 × Int
  | (none, _) => ([], 73)
  | (some L, r) => if r then ([], 73) else if 1200 < L.length then ([], 72) else (L, 0)
def headL (d : Dg) : List UInt8 := magic ++ [UInt8.ofNat (Pk.u64 d.kind % 256)]
def enc (d : Dg) : List UInt8 × Int := if fieldsL d.kind = [] then ([], 71) else finish (lays d (fieldsL d.kind) (some (headL d), false))
def bodyL (s : List UInt8) : List UInt8 := if s.length < 36 ∨ ¬ (3 ≤ kindL s ∧ kindL s ≤ 7) then [] else s.take (s.length - 32)
end Go.Proofs.YtiphnlfbgbemfaaGreatDoor.Pk

/- frame.input: left, need, bytes, number, signed, text, allow, done, newInput -/
namespace Go.Proofs.YtiphnlfbgbemfaaGreatDoor.Pk
open Go Go.RowKit

abbrev pv (b : Nat) : Value := .pointer (some ⟨b, 0, none⟩)
/-- where an input stands -/
structure In (w : World) (ib rb B : Nat) (L : List UInt8) (r : Bool) : Prop where
  h : Has w ib [pv rb, .bool r] 122
  a : RAt w rb B (L, 0)
  n1 : ib ≠ rb
  n2 : ib ≠ B
def IF (ib rb : Nat) (i : Nat) : Prop := i = ib ∨ i = rb
theorem In.lt {w : World} {ib rb B : Nat} {L : List UInt8} {r : Bool} (h : In w ib rb B L r) : ∀ i, IF ib rb i → i < w.heap.size := fun i hi => by
  obtain ⟨_, _, h2, _⟩ := h.a.h
  rcases hi with rfl | rfl
  · exact h.h.lt
  · exact h2.lt
theorem In.fr {S : Nat → Prop} {w w' : World} {ib rb B : Nat} {L : List UInt8} {r : Bool} (h : In w ib rb B L r) (f : Fr S w w') (h1 : ¬ S ib) (h2 : ¬ S rb) (h3 : ¬ S B) : In w' ib rb B L r :=
  ⟨h.h.fr f h1, h.a.fr f h2 h3, h.n1, h.n2⟩
theorem In.kept {w w' : World} {ib rb B : Nat} {L : List UInt8} {r : Bool} (h : In w ib rb B L r) (hg : w.grownBy w' none) : In w' ib rb B L r :=
  h.fr (S := fun _ => False) (Fr.ofNone hg) (fun e => e) (fun e => e) (fun e => e)
theorem In.did {w w' : World} {ib rb B : Nat} {L L' : List UInt8} {r : Bool} (h : In w ib rb B L r) (d : RDid w w' rb B (L', 0)) : In w' ib rb B L' r :=
  ⟨h.h.fr d.f (fun e => h.n1 e), d.a, h.n1, h.n2⟩

def give : List PanicEntry := [{ v := .iface 28 (.int .i64 72), recovered := false }]

theorem left_c (ib rb B : Nat) (L : List UInt8) (r : Bool) (w : World) (h : In w ib rb B L r) :
    Calls Tryz.prog 109 #[pv ib] w fun e w' => e = .returned (.int .i64 (L.length : Nat)) ∧ w' = w := by
  have c0 : w.cell? ⟨ib, 0, none⟩ = some (pv rb) := h.h.cellv 0 _ rfl
  have HA : Keep (RAt w rb B (L, 0)) := ⟨h.a⟩
  clear h
  go_enter Tryz.func109, Tryz.ntmps109
  go_wp2_with fail
  refine (rLeft_c rb B (L, 0) w HA.out).mono ?_
  rintro e w1 ⟨rfl, rfl⟩
  go_wp2
  go_ret
  exact ⟨rfl, rfl⟩

set_option maxHeartbeats 4000000 in
set_option maxRecDepth 100000 in
theorem need_ok (ib rb B : Nat) (L : List UInt8) (r : Bool) (n : Int) (w : World) (h : In w ib rb B L r) (h0 : 0 ≤ n) (h1 : n ≤ (L.length : Int)) :
    Calls Tryz.prog 121 #[pv ib, .int .i64 n] w fun e w' => e = .returned (.tuple #[]) ∧ w.grownBy w' none := by
  have HA : Keep (In w ib rb B L r) := ⟨h⟩
  have hd : decide (n < 0) = false := by simp; omega
  have hd2 : decide ((L.length : Int) < n) = false := by simp; omega
  clear h
  go_enter Tryz.func121, Tryz.ntmps121
  go_wp2_with fail
  refine (left_c ib rb B L r w HA.out).mono ?_
  rintro e w1 ⟨rfl, rfl⟩
  go_wp2
  go_end0
  exact ⟨rfl, World.grownBy.refl _ _⟩

set_option maxHeartbeats 4000000 in
set_option maxRecDepth 100000 in
theorem need_no (ib rb B : Nat) (L : List UInt8) (r : Bool) (n : Int) (w : World) (h : In w ib rb B L r) (hn : n < 0 ∨ (L.length : Int) < n) :
    Calls Tryz.prog 121 #[pv ib, .int .i64 n] w fun e w' => e = .panicked give ∧ w.grownBy w' none := by
  have HA : Keep (In w ib rb B L r) := ⟨h⟩
  clear h
  by_cases h0 : n < 0
  · have hd : decide (n < 0) = true := by simpa using h0
    clear h0 hn
    go_enter Tryz.func121, Tryz.ntmps121
    go_wp2
    exact ⟨rfl, rfl, World.grownBy.refl _ _⟩
  · have hd : decide (n < 0) = false := by simpa using h0
    have hd2 : decide ((L.length : Int) < n) = true := by simp; omega
    clear h0 hn
    go_enter Tryz.func121, Tryz.ntmps121
    go_wp2_with fail
    refine (left_c ib rb B L r w HA.out).mono ?_
    rintro e w1 ⟨rfl, rfl⟩
    go_wp2
    exact ⟨rfl, rfl, World.grownBy.refl _ _⟩

theorem need_some {L : List UInt8} {n : Int} {p : List UInt8 × List UInt8} (h : need L n = some p) : 0 ≤ n ∧ n ≤ (L.length : Int) ∧ p = (L.take n.toNat, L.drop n.toNat) := by
  unfold need at h
  split at h
  · cases h
  · rename_i hc
    injection h with h
    exact ⟨by omega, by omega, h.symm⟩
theorem need_none {L : List UInt8} {n : Int} (h : need L n = none) : n < 0 ∨ (L.length : Int) < n := by
  unfold need at h
  split at h
  · assumption
  · cases h
theorem rTake_need {L : List UInt8} {n : Int} {p : List UInt8 × List UInt8} (h : need L n = some p) : rTake (L, 0) n = (p.1, (p.2, 0)) := by
  obtain ⟨h0, h1, rfl⟩ := need_some h
  unfold rTake
  dsimp only
  rw [if_neg (by omega), if_neg (by omega)]
theorem rNumL_need {L : List UInt8} {n : Int} {p : List UInt8 × List UInt8} (hs : sized n) (h : need L n = some p) : rNumL (L, 0) n = (p.1, (p.2, 0)) := by
  unfold rNumL
  rw [if_pos hs, rTake_need h]

set_option maxHeartbeats 4000000 in
set_option maxRecDepth 100000 in
theorem bytes_ok (ib rb B : Nat) (L : List UInt8) (r : Bool) (n : Int) (p : List UInt8 × List UInt8) (w : World) (h : In w ib rb B L r) (hp : need L n = some p) :
    Calls Tryz.prog 86 #[pv ib, .int .i64 n] w fun e w' => e = .returned (.string (ba p.1)) ∧ RDid w w' rb B (p.2, 0) := by
  have HA : Keep (In w ib rb B L r ∧ need L n = some p) := ⟨h, hp⟩
  clear h hp
  go_enter Tryz.func86, Tryz.ntmps86
  go_wp2_with fail
  refine (need_ok ib rb B L r n w HA.out.1 (need_some HA.out.2).1 (need_some HA.out.2).2.1).mono ?_
  rintro e w1 ⟨rfl, g1⟩
  have c0 : w1.cell? ⟨ib, 0, none⟩ = some (pv rb) := (HA.out.1.kept g1).h.cellv 0 _ rfl
  have HB : Keep (w.grownBy w1 none ∧ RAt w1 rb B (L, 0)) := ⟨g1, (HA.out.1.kept g1).a⟩
  clear g1
  go_wp2_with fail
  refine (rBytes_c rb B (L, 0) n w1 HB.out.2).mono ?_
  rintro e w2 ⟨rfl, d2⟩
  rw [rTake_need HA.out.2] at d2 ⊢
  have HD : Keep (RDid w w2 rb B (p.2, 0)) := ⟨d2.ahead HB.out.1⟩
  clear d2
  go_wp2
  go_ret
  exact ⟨rfl, HD.out⟩
set_option maxHeartbeats 4000000 in
set_option maxRecDepth 100000 in
theorem bytes_no (ib rb B : Nat) (L : List UInt8) (r : Bool) (n : Int) (w : World) (h : In w ib rb B L r) (hp : need L n = none) :
    Calls Tryz.prog 86 #[pv ib, .int .i64 n] w fun e w' => e = .panicked give ∧ w.grownBy w' none := by
  go_enter Tryz.func86, Tryz.ntmps86
  go_wp2_with fail
  refine (need_no ib rb B L r n w h (need_none hp)).mono ?_
  rintro e w1 ⟨rfl, g1⟩
  exact ⟨rfl, rfl, g1⟩

set_option maxHeartbeats 4000000 in
set_option maxRecDepth 100000 in
theorem number_ok (ib rb B : Nat) (L : List UInt8) (r : Bool) (n : Int) (p : List UInt8 × List UInt8) (w : World) (h : In w ib rb B L r) (hs : sized n) (hp : need L n = some p) :
    Calls Tryz.prog 98 #[pv ib, .int .i64 n] w fun e w' => e = .returned (.int .u64 (val p.1 : Nat)) ∧ RDid w w' rb B (p.2, 0) := by
  have HA : Keep (In w ib rb B L r ∧ need L n = some p ∧ sized n) := ⟨h, hp, hs⟩
  clear h hp hs
  go_enter Tryz.func98, Tryz.ntmps98
  go_wp2_with fail
  refine (need_ok ib rb B L r n w HA.out.1 (need_some HA.out.2.1).1 (need_some HA.out.2.1).2.1).mono ?_
  rintro e w1 ⟨rfl, g1⟩
  have c0 : w1.cell? ⟨ib, 0, none⟩ = some (pv rb) := (HA.out.1.kept g1).h.cellv 0 _ rfl
  have HB : Keep (w.grownBy w1 none ∧ RAt w1 rb B (L, 0)) := ⟨g1, (HA.out.1.kept g1).a⟩
  clear g1
  go_wp2_with fail
  refine (rNumber_c rb B (L, 0) n w1 HB.out.2).mono ?_
  rintro e w2 ⟨rfl, d2⟩
  rw [rNum, rNumL_need HA.out.2.2 HA.out.2.1] at d2 ⊢
  have HD : Keep (RDid w w2 rb B (p.2, 0)) := ⟨d2.ahead HB.out.1⟩
  clear d2
  dsimp only
  generalize hq : val p.1 = q
  have HQ : Keep (val p.1 = q) := ⟨hq⟩
  clear hq
  go_wp2
  go_ret
  exact ⟨by rw [HQ.out]; rfl, HD.out⟩
set_option maxHeartbeats 4000000 in
set_option maxRecDepth 100000 in
theorem number_no (ib rb B : Nat) (L : List UInt8) (r : Bool) (n : Int) (w : World) (h : In w ib rb B L r) (hp : need L n = none) :
    Calls Tryz.prog 98 #[pv ib, .int .i64 n] w fun e w' => e = .panicked give ∧ w.grownBy w' none := by
  go_enter Tryz.func98, Tryz.ntmps98
  go_wp2_with fail
  refine (need_no ib rb B L r n w h (need_none hp)).mono ?_
  rintro e w1 ⟨rfl, g1⟩
  exact ⟨rfl, rfl, g1⟩

set_option maxHeartbeats 4000000 in
set_option maxRecDepth 100000 in
theorem signed_ok (ib rb B : Nat) (L : List UInt8) (r : Bool) (n : Int) (p : List UInt8 × List UInt8) (w : World) (h : In w ib rb B L r) (hs : sized n) (hp : need L n = some p) :
    Calls Tryz.prog 129 #[pv ib, .int .i64 n] w fun e w' => e = .returned (.int .i64 (sval p.1)) ∧ RDid w w' rb B (p.2, 0) := by
  have HA : Keep (In w ib rb B L r ∧ need L n = some p ∧ sized n) := ⟨h, hp, hs⟩
  clear h hp hs
  go_enter Tryz.func129, Tryz.ntmps129
  go_wp2_with fail
  refine (need_ok ib rb B L r n w HA.out.1 (need_some HA.out.2.1).1 (need_some HA.out.2.1).2.1).mono ?_
  rintro e w1 ⟨rfl, g1⟩
  have c0 : w1.cell? ⟨ib, 0, none⟩ = some (pv rb) := (HA.out.1.kept g1).h.cellv 0 _ rfl
  have HB : Keep (w.grownBy w1 none ∧ RAt w1 rb B (L, 0)) := ⟨g1, (HA.out.1.kept g1).a⟩
  clear g1
  go_wp2_with fail
  refine (rSigned_c rb B (L, 0) n w1 HB.out.2).mono ?_
  rintro e w2 ⟨rfl, d2⟩
  rw [rSig, rNumL_need HA.out.2.2 HA.out.2.1] at d2 ⊢
  have HD : Keep (RDid w w2 rb B (p.2, 0)) := ⟨d2.ahead HB.out.1⟩
  clear d2
  dsimp only
  generalize hq : sval p.1 = q
  have HQ : Keep (sval p.1 = q) := ⟨hq⟩
  clear hq
  go_wp2
  go_ret
  exact ⟨by rw [HQ.out]; rfl, HD.out⟩
set_option maxHeartbeats 4000000 in
set_option maxRecDepth 100000 in
theorem signed_no (ib rb B : Nat) (L : List UInt8) (r : Bool) (n : Int) (w : World) (h : In w ib rb B L r) (hp : need L n = none) :
    Calls Tryz.prog 129 #[pv ib, .int .i64 n] w fun e w' => e = .panicked give ∧ w.grownBy w' none := by
  go_enter Tryz.func129, Tryz.ntmps129
  go_wp2_with fail
  refine (need_no ib rb B L r n w h (need_none hp)).mono ?_
  rintro e w1 ⟨rfl, g1⟩
  exact ⟨rfl, rfl, g1⟩

theorem val1 {l : List UInt8} (h : l.length ≤ 1) : val l < 256 := by
  have := val_lt l
  have : 256 ^ l.length ≤ 256 ^ 1 := Nat.pow_le_pow_right (by decide) h
  omega
theorem need_len {L : List UInt8} {n : Int} {p : List UInt8 × List UInt8} (h : need L n = some p) : (p.1.length : Int) = n ∧ L = p.1 ++ p.2 := by
  obtain ⟨h0, h1, rfl⟩ := need_some h
  refine ⟨?_, (List.take_append_drop _ _).symm⟩
  rw [List.length_take]; omega

set_option maxHeartbeats 4000000 in
set_option maxRecDepth 100000 in
theorem text_ok (ib rb B : Nat) (L : List UInt8) (r : Bool) (p q : List UInt8 × List UInt8) (w : World) (h : In w ib rb B L r) (hp : need L 1 = some p) (hq : need p.2 (val p.1 : Nat) = some q) :
    Calls Tryz.prog 92 #[pv ib] w fun e w' => e = .returned (.string (ba q.1)) ∧ RDid w w' rb B (q.2, 0) := by
  have HA : Keep (In w ib rb B L r ∧ need L 1 = some p ∧ need p.2 (val p.1 : Nat) = some q) := ⟨h, hp, hq⟩
  have hv : val p.1 < 256 := val1 (by have := (need_len hp).1; omega)
  clear h hp hq
  go_enter Tryz.func92, Tryz.ntmps92
  go_wp2_with fail
  refine (number_ok ib rb B L r 1 p w HA.out.1 (by decide) HA.out.2.1).mono ?_
  rintro e w1 ⟨rfl, d1⟩
  have HB : Keep (RDid w w1 rb B (p.2, 0) ∧ In w1 ib rb B p.2 r) := ⟨d1, HA.out.1.did d1⟩
  clear d1
  generalize hm : val p.1 = m at hv HA
  go_wp2_with fail
  refine (bytes_ok ib rb B p.2 r (m : Nat) q w1 HB.out.2 HA.out.2.2).mono ?_
  rintro e w2 ⟨rfl, d2⟩
  have HD : Keep (RDid w w2 rb B (q.2, 0)) := ⟨HB.out.1.trans d2⟩
  clear d2
  generalize hq : ba q.1 = q1
  have HQ : Keep (ba q.1 = q1) := ⟨hq⟩
  clear hq
  go_wp2
  go_ret
  exact ⟨by rw [HQ.out]; rfl, HD.out⟩
set_option maxHeartbeats 4000000 in
set_option maxRecDepth 100000 in
theorem text_no (ib rb B : Nat) (L : List UInt8) (r : Bool) (w : World) (h : In w ib rb B L r) (hn : ((need L 1).bind fun p => need p.2 (val p.1 : Nat)) = none) :
    Calls Tryz.prog 92 #[pv ib] w fun e w' => e = .panicked give ∧ Fr (fun i => i = rb) w w' := by
  cases hp : need L 1 with
  | none =>
    go_enter Tryz.func92, Tryz.ntmps92
    go_wp2_with fail
    refine (number_no ib rb B L r 1 w h hp).mono ?_
    rintro e w1 ⟨rfl, g1⟩
    exact ⟨rfl, rfl, Fr.ofNone g1⟩
  | some p =>
    rw [hp] at hn
    have HA : Keep (In w ib rb B L r ∧ need L 1 = some p ∧ need p.2 (val p.1 : Nat) = none) := ⟨h, hp, hn⟩
    have hv : val p.1 < 256 := val1 (by have := (need_len hp).1; omega)
    clear h hp hn
    go_enter Tryz.func92, Tryz.ntmps92
    go_wp2_with fail
    refine (number_ok ib rb B L r 1 p w HA.out.1 (by decide) HA.out.2.1).mono ?_
    rintro e w1 ⟨rfl, d1⟩
    have HB : Keep (RDid w w1 rb B (p.2, 0) ∧ In w1 ib rb B p.2 r) := ⟨d1, HA.out.1.did d1⟩
    clear d1
    generalize hm : val p.1 = m at hv HA
    go_wp2_with fail
    refine (bytes_no ib rb B p.2 r (m : Nat) w1 HB.out.2 HA.out.2.2).mono ?_
    rintro e w2 ⟨rfl, g2⟩
    exact ⟨rfl, rfl, HB.out.1.f.trans (Fr.ofNone g2)⟩

set_option maxHeartbeats 4000000 in
set_option maxRecDepth 100000 in
theorem iallow_c (ib rb B : Nat) (L : List UInt8) (r ok : Bool) (w : World) (h : In w ib rb B L r) :
    Calls Tryz.prog 85 #[pv ib, .bool ok] w fun e w' => e = .returned (.tuple #[]) ∧ In w' ib rb B L (r || !ok) ∧ Fr (fun i => i = ib) w w' := by
  have c1 : w.cell? ⟨ib, 1, none⟩ = some (.bool r) := h.h.cellv 1 _ rfl
  have z1 : w.frozen? ⟨ib, 1, none⟩ = false := h.h.frozen 1
  have HA : Keep (∀ x, In (w.setCell ⟨ib, 1, none⟩ (.bool x)) ib rb B L x ∧ Fr (fun i => i = ib) w (w.setCell ⟨ib, 1, none⟩ (.bool x))) := ⟨fun x => by
    have f : Fr (fun i => i = ib) w (w.setCell ⟨ib, 1, none⟩ (.bool x)) := Fr.ofSome (gr_set w ib 1 (.bool x)) rfl
    exact ⟨⟨h.h.setCell 1 (.bool x), h.a.fr f (fun e => h.n1 e.symm) (fun e => h.n2 e.symm), h.n1, h.n2⟩, f⟩⟩
  clear h
  cases r
  all_goals
    go_enter Tryz.func85, Tryz.ntmps85
    go_wp2
    go_end0
    exact ⟨rfl, by simpa using HA.out _⟩
set_option maxHeartbeats 4000000 in
set_option maxRecDepth 100000 in
theorem idone_c (ib rb B : Nat) (L : List UInt8) (r : Bool) (w : World) (h : In w ib rb B L r) :
    Calls Tryz.prog 67 #[pv ib] w fun e w' => e = .returned (.int .i64 (if 0 < L.length then 72 else if r then 73 else 0)) ∧ w' = w := by
  have c1 : w.cell? ⟨ib, 1, none⟩ = some (.bool r) := h.h.cellv 1 _ rfl
  have HA : Keep (In w ib rb B L r) := ⟨h⟩
  clear h
  by_cases h0 : 0 < L.length
  · rw [if_pos h0]
    have hd : decide (0 < L.length) = true := decide_eq_true h0
    clear h0
    go_enter Tryz.func67, Tryz.ntmps67
    go_wp2_with fail
    refine (left_c ib rb B L r w HA.out).mono ?_
    rintro e w1 ⟨rfl, rfl⟩
    go_wp2
    go_ret
    exact ⟨rfl, rfl⟩
  · rw [if_neg h0]
    have hd : decide (0 < L.length) = false := decide_eq_false h0
    clear h0
    cases r
    all_goals
      go_enter Tryz.func67, Tryz.ntmps67
      go_wp2_with fail
      refine (left_c ib rb B L _ w HA.out).mono ?_
      rintro e w1 ⟨rfl, rfl⟩
      go_wp2
      go_ret
      exact ⟨rfl, rfl⟩
set_option maxHeartbeats 4000000 in
set_option maxRecDepth 100000 in
theorem newI_c (s : ByteArray) (w : World) :
    Calls Tryz.prog 66 #[.string s] w fun e w' => ∃ ib rb B, e = .returned (pv ib) ∧ In w' ib rb B (sl s) false ∧ w.grownBy w' none ∧ w.heap.size ≤ ib ∧ w.heap.size ≤ rb ∧ w.heap.size ≤ B := by
  go_enter Tryz.func66, Tryz.ntmps66
  go_wp2_with fail
  refine (newR_c s w).mono ?_
  rintro e w1 ⟨rb, B, rfl, a1, g1, h1, h2⟩
  have HB : Keep (RAt w1 rb B (sl s, 0) ∧ w.grownBy w1 none ∧ w.heap.size ≤ rb ∧ w.heap.size ≤ B) := ⟨a1, g1, h1, h2⟩
  clear a1 g1 h1 h2
  go_wp2
  go_ret
  obtain ⟨a1, g1, h1, h2⟩ := HB.out
  have g2 := World.grownBy_alloc w1 (.cells #[pv rb, .bool false] 122) none
  refine ⟨_, rb, B, rfl, ⟨Has.newA w1 _ 122, a1.kept g2, ?_, ?_⟩, g1.trans g2, g1.size, h1, h2⟩
  · obtain ⟨_, _, h3, _⟩ := a1.h
    have := h3.lt; omega
  · have := a1.lt; omega
end Go.Proofs.YtiphnlfbgbemfaaGreatDoor.Pk

