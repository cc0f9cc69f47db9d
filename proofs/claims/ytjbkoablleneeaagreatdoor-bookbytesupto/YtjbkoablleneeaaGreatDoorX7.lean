import Derived.Test.YtjbkoablleneeaaGreatDoorX6
/- pack: the Writer. -/
namespace Go.Proofs.YtjbkoablleneeaaGreatDoor.Pk
open Go Go.RowKit

set_option maxRecDepth 100000 in
theorem newW_c (w : World) :
    Calls Tryz.prog 28 #[] w fun e w' => ∃ wb, e = .returned (.pointer (some ⟨wb, 0, none⟩)) ∧ WAt w' wb (.slice none 0 0) (some []) ∧ w.grownBy w' none ∧ wb = w.heap.size := by
  go_enter Tryz.func28, Tryz.ntmps28
  go_wp2
  go_ret
  exact ⟨_, rfl, ⟨Has.newA w _ 136, row_nil _, by simp [Value.ownBlock]⟩, World.grownBy_alloc _ _ _, rfl⟩
set_option maxRecDepth 100000 in
theorem wNumber_c (wb : Nat) (v : Value) (st : WS) (x : Nat) (size : Int) (w : World) (h : WAt w wb v st) (hx : x < 18446744073709551616) (hl : (st.getD []).length ≤ 179999999999992) :
    Calls Tryz.prog 30 #[.pointer (some ⟨wb, 0, none⟩), .int .u64 x, .int .i64 size] w fun e w' => e = .returned (.tuple #[]) ∧ ∃ v', WDid w w' wb v (wNum st x size) v' := by
  have HH : Keep (WAt w wb v st ∧ x < 18446744073709551616 ∧ (st.getD []).length ≤ 179999999999992) := ⟨h, hx, hl⟩
  clear h hx hl
  go_enter Tryz.func30, Tryz.ntmps30
  go_wp2_with fail
  refine (plain_c w).mono ?_
  rintro e w1 ⟨rfl, g1⟩
  go_wp2_with fail
  refine (wnumber_plain wb v st x size w1 (HH.out.1.kept g1) HH.out.2.1 HH.out.2.2).mono ?_
  rintro e w2 ⟨rfl, v2, d2⟩
  have HD : Keep (WDid w w2 wb v (wNum st x size) v2) := ⟨d2.ahead g1⟩
  clear d2 g1 HH
  go_wp2
  go_end0
  exact ⟨rfl, v2, HD.out⟩
set_option maxRecDepth 100000 in
theorem wSigned_c (wb : Nat) (v : Value) (st : WS) (i : Int) (size : Int) (w : World) (h : WAt w wb v st) (hi : -9223372036854775808 ≤ i ∧ i < 9223372036854775808) (hl : (st.getD []).length ≤ 179999999999992) :
    Calls Tryz.prog 237 #[.pointer (some ⟨wb, 0, none⟩), .int .i64 i, .int .i64 size] w fun e w' => e = .returned (.tuple #[]) ∧ ∃ v', WDid w w' wb v (wSig st i size) v' := by
  have HH : Keep (WAt w wb v st ∧ (-9223372036854775808 ≤ i ∧ i < 9223372036854775808) ∧ (st.getD []).length ≤ 179999999999992) := ⟨h, hi, hl⟩
  clear h hi hl
  go_enter Tryz.func237, Tryz.ntmps237
  go_wp2_with fail
  refine (signed_c w).mono ?_
  rintro e w1 ⟨rfl, g1⟩
  have HW : Keep (IntKind.u64.wrap i = (u64 i : Nat)) := ⟨by rw [wu]; unfold u64; omega⟩
  go_wp2_with fail
  rw [HW.out]
  refine (wnumber_signed wb v st i size w1 (HH.out.1.kept g1) HH.out.2.1 HH.out.2.2).mono ?_
  rintro e w2 ⟨rfl, v2, d2⟩
  have HD : Keep (WDid w w2 wb v (wSig st i size) v2) := ⟨d2.ahead g1⟩
  clear d2 g1 HH
  go_wp2
  go_end0
  exact ⟨rfl, v2, HD.out⟩
set_option maxRecDepth 100000 in
theorem wpList_append_run2 {P : Program} (w : World) {ops : Array Oper} {rest : List Oper} {o : Oper} {a : Act} {Q : Exit → Act → World → Prop} (hgd : o.guard = none) (s x : Operand) (t u : TypeId)
    (ho : o.op = .call { callee := .builtin .append, args := #[s, x], argTypes := #[t, u] }) (v y : Value) (hs : a.eval s = v) (hx : a.eval x = y) {v' : Value} {w' : World}
    (hr : (Builtin.append_ #[t, u] o.type #[v, y]).run P w = .ok v' w') (h : wpList P ops Q rest (a.put o.dst v') w') : wpList P ops Q (o :: rest) a w :=
  wpList_plain hgd fun _ hK => by
    unfold Oper.wp execOp
    simp only [ho, resolve, invoke, builtin, Sem.run_bind, Sem.run_pure, Result.andThen_ok, List.map_toArray, List.map_cons, List.map_nil, hs, hx, hr]
    exact hK _ _ h
set_option maxRecDepth 100000 in
theorem wBytesW_c (wb : Nat) (v : Value) (st : WS) (s : ByteArray) (w : World) (h : WAt w wb v st) (hl : (st.getD []).length + s.size ≤ 180000000000000) (hs8 : s.size ≤ 140737488355328) :
    Calls Tryz.prog 29 #[.pointer (some ⟨wb, 0, none⟩), .string s] w fun e w' => e = .returned (.tuple #[]) ∧ ∃ v', WDid w w' wb v (wBytes st (sl s)) v' := by
  have HH : Keep (WAt w wb v st) := ⟨h⟩
  cases st with
  | none =>
    have h1 : w.cell? ⟨wb, 1, none⟩ = some (.int .i64 51) := h.h.cellv 1 _ rfl
    clear h
    go_enter Tryz.func29, Tryz.ntmps29
    go_wp2
    go_end0
    exact ⟨rfl, v, WDid.refl HH.out⟩
  | some l =>
    have h1 : w.cell? ⟨wb, 1, none⟩ = some (.int .i64 0) := h.h.cellv 1 _ rfl
    have h0 : w.cell? ⟨wb, 0, none⟩ = some v := h.h.cellv 0 _ rfl
    obtain ⟨v2, w3, r1, r2, r3, r4⟩ := app_str_w h.r s hl hs8
    have hs := h.set r2 r3 r4
    have HR : Keep ((Builtin.append_ #[36, 9] 36 #[v, .string s]).run Tryz.prog w = .ok v2 w3) := ⟨r1⟩
    obtain ⟨a2, c2, hv2, _⟩ := Row.shape r2
    obtain ⟨n2, hn2⟩ : ∃ q, ((some l).getD [] ++ sl s).length = q := ⟨_, rfl⟩
    rw [hn2] at hv2
    subst hv2
    have HD : Keep (WDid w (w3.setCell ⟨wb, 0, none⟩ (.slice a2 n2 c2)) wb v (wBytes (some l) (sl s)) (.slice a2 n2 c2)) := ⟨hs⟩
    have hh3 : Has w3 wb [v, .int .i64 0] 136 := (show Has w wb [v, .int .i64 0] 136 from h.h).kept r3 (fun e => h.ne e.symm)
    have c0 : w3.cell? ⟨wb, 0, none⟩ = some v := hh3.cellv 0 _ rfl
    have f0 := hh3.frozen 0
    clear hs r2 r3 r4 r1 h hl hn2 hh3 hs8
    go_enter Tryz.func29, Tryz.ntmps29
    go_wp2_with (at_builtin; refine wpList_append_run2 _ rfl (.tmp 13) (.tmp 14) 36 9 rfl _ _ rfl rfl HR.out ?_)
    go_end0
    exact ⟨rfl, _, HD.out⟩
set_option maxRecDepth 100000 in
theorem wBytes_c (wb : Nat) (v : Value) (st : WS) (s : ByteArray) (w : World) (h : WAt w wb v st) (hl : (st.getD []).length + s.size ≤ 140737488355328) :
    Calls Tryz.prog 29 #[.pointer (some ⟨wb, 0, none⟩), .string s] w fun e w' => e = .returned (.tuple #[]) ∧ ∃ v', WDid w w' wb v (wBytes st (sl s)) v' :=
  wBytesW_c wb v st s w h (by omega) (by omega)
end Go.Proofs.YtjbkoablleneeaaGreatDoor.Pk

/- pack: the Writer's Text and Done. -/
namespace Go.Proofs.YtjbkoablleneeaaGreatDoor.Pk
open Go Go.RowKit

set_option maxRecDepth 100000 in
theorem wNum_len (st : WS) (x : Nat) (size : Int) : ((wNum st x size).getD []).length ≤ (st.getD []).length + 8 := by
  unfold wNum
  split
  · rename_i h
    cases st with
    | none => simp
    | some l =>
      have := h.1.2
      simp [be_len]; omega
  · simp
set_option maxRecDepth 100000 in
theorem wSig_len (st : WS) (x : Int) (size : Int) : ((wSig st x size).getD []).length ≤ (st.getD []).length + 8 := by
  unfold wSig
  split
  · rename_i h
    cases st with
    | none => simp
    | some l =>
      have := h.1.2
      simp [be_len]; omega
  · simp
set_option maxRecDepth 100000 in
theorem wBytes_len (st : WS) (s : List UInt8) : ((wBytes st s).getD []).length ≤ (st.getD []).length + s.length := by
  cases st <;> simp [wBytes]
set_option maxRecDepth 100000 in
theorem wText_len (st : WS) (s : List UInt8) : ((wText st s).getD []).length ≤ (st.getD []).length + s.length + 1 := by
  unfold wText
  split
  · cases st <;> simp; omega
  · simp
set_option maxRecDepth 100000 in
theorem wTextW_c (wb : Nat) (v : Value) (st : WS) (s : ByteArray) (w : World) (h : WAt w wb v st) (hl : (st.getD []).length + s.size ≤ 179999999999984) (hs8 : s.size ≤ 140737488355328) :
    Calls Tryz.prog 60 #[.pointer (some ⟨wb, 0, none⟩), .string s] w fun e w' => e = .returned (.tuple #[]) ∧ ∃ v', WDid w w' wb v (wText st (sl s)) v' := by
  have HH : Keep (WAt w wb v st) := ⟨h⟩
  have HL : Keep ((st.getD []).length + s.size ≤ 179999999999984 ∧ s.size ≤ 140737488355328) := ⟨hl, hs8⟩
  have HW : Keep (IntKind.u64.wrap (s.size : Int) = (s.size : Nat)) := ⟨by rw [wu]; omega⟩
  clear h hl hs8
  go_enter Tryz.func60, Tryz.ntmps60
  go_wp2_with fail
  try rw [HW.out]
  refine (wNumber_c wb v st s.size 1 w HH.out (by have := HL.out; omega) (by have := HL.out; omega)).mono ?_
  rintro e w1 ⟨rfl, v1, d1⟩
  have HD : Keep (WDid w w1 wb v (wNum st s.size 1) v1) := ⟨d1⟩
  clear d1 HH
  go_wp2_with fail
  refine (wBytesW_c wb v1 _ s w1 HD.out.a (by have := HL.out; have := wNum_len st s.size 1; omega) HL.out.2).mono ?_
  rintro e w2 ⟨rfl, v2, d2⟩
  have HE : Keep (WDid w w2 wb v (wText st (sl s)) v2) := ⟨by
    have := HD.out.trans d2
    rw [← sl_len, wText_eq] at this
    exact this⟩
  clear d2 HD
  go_wp2
  go_end0
  exact ⟨rfl, v2, HE.out⟩
set_option maxRecDepth 100000 in
theorem wText_c (wb : Nat) (v : Value) (st : WS) (s : ByteArray) (w : World) (h : WAt w wb v st) (hl : (st.getD []).length + s.size ≤ 140737488355312) :
    Calls Tryz.prog 60 #[.pointer (some ⟨wb, 0, none⟩), .string s] w fun e w' => e = .returned (.tuple #[]) ∧ ∃ v', WDid w w' wb v (wText st (sl s)) v' :=
  wTextW_c wb v st s w h (by omega) (by omega)
/-- 'string(b)' -/
theorem cvt_cells (w : World) (a : Option Addr) (c : Nat) (q : List UInt8) (h0 : a = none → q = []) (hc : ∀ ad, a = some ad → ∀ j x, q[j]? = some x → w.cell? (ad.add j) = some (bv x)) : (convert 36 9 (.slice a q.length c)).run Tryz.prog w = .ok (.string ⟨q.toArray⟩) w := by
  cases a with
  | none =>
    obtain rfl := h0 rfl
    rw [List.length_nil, run_convert_bytes_string w 36 9 5 none 0 c under53 under5 under9]
    simp [Conv.bytesToString]
    rfl
  | some ad => exact run_convert_bytes_back (P := Tryz.prog) w 36 9 5 ad c q under53 under5 under9 (fun j hj => hc ad rfl j _ (List.getElem?_eq_getElem hj))
set_option maxRecDepth 100000 in
theorem cvt_row {w : World} {v : Value} {xs : List UInt8} (h : Row w v xs) : (convert 36 9 v).run Tryz.prog w = .ok (.string ⟨xs.toArray⟩) w := by
  obtain ⟨a, c, rfl, h0, hc⟩ := h.shape
  exact cvt_cells w a c xs h0 hc
def werr (st : WS) : Int := if st = none then 51 else 0
set_option maxRecDepth 100000 in
theorem wDone_c (wb : Nat) (v : Value) (st : WS) (w : World) (h : WAt w wb v st) :
    Calls Tryz.prog 32 #[.pointer (some ⟨wb, 0, none⟩)] w fun e w' => e = .returned (.tuple #[.string ⟨(st.getD []).toArray⟩, .int .i64 (werr st)]) ∧ w.grownBy w' none := by
  have h0 : w.cell? ⟨wb, 0, none⟩ = some v := h.h.cellv 0 _ rfl
  have h1 : w.cell? ⟨wb, 1, none⟩ = some (.int .i64 (werr st)) := h.h.cellv 1 _ rfl
  have hc : ∀ k, (convert 36 9 v).run Tryz.prog (w.drewN k) = .ok (.string ⟨(st.getD []).toArray⟩) (w.drewN k) := fun k => cvt_row (h.kept (gr_drewN w k none)).r
  obtain ⟨a, c, hv, _⟩ := h.r.shape
  obtain ⟨n, hn⟩ : ∃ n, (st.getD []).length = n := ⟨_, rfl⟩
  rw [hn] at hv
  subst hv
  clear h hn
  generalize (⟨(st.getD []).toArray⟩ : ByteArray) = s at *
  generalize werr st = er at *
  go_enter Tryz.func32, Tryz.ntmps32
  go_wp2_with fail
  go_quiet (fail)
  go_wp2
  go_ret2
  exact ⟨rfl, gr_drewN _ _ _⟩
end Go.Proofs.YtjbkoablleneeaaGreatDoor.Pk

/- pack: the Reader's state; fail, take. -/
namespace Go.Proofs.YtjbkoablleneeaaGreatDoor.Pk
open Go Go.RowKit

/-- bytes that lie in block B -/
structure Bs (w : World) (B : Nat) (a : Option Addr) (n c : Nat) (q : List UInt8) : Prop where
  len : q.length = n
  cap : n ≤ c
  nil : a = none → q = []
  at_ : 0 < n → ∃ o, a = some ⟨B, o, none⟩ ∧ ∀ j x, q[j]? = some x → w.cell? ⟨B, o + j, none⟩ = some (bv x)
set_option maxRecDepth 100000 in
theorem Bs.fr {S : Nat → Prop} {w w' : World} {B : Nat} {a : Option Addr} {n c : Nat} {q : List UInt8} (h : Bs w B a n c q) (f : Fr S w w') (hs : ¬ S B) : Bs w' B a n c q := by
  refine ⟨h.len, h.cap, h.nil, fun hn => ?_⟩
  obtain ⟨o, e, h3⟩ := h.at_ hn
  refine ⟨o, e, fun j x hx => ?_⟩
  have h4 := h3 j x hx
  have hb : B < w.heap.size := World.block_lt_of_cell? w _ h4
  rw [← h4]
  simp only [World.cell?]
  rw [f.block B hb hs]
set_option maxRecDepth 100000 in
theorem Bs.cvt {w : World} {B : Nat} {a : Option Addr} {n c : Nat} {q : List UInt8} (h : Bs w B a n c q) : (convert 36 9 (.slice a n c)).run Tryz.prog w = .ok (.string ⟨q.toArray⟩) w := by
  have := cvt_cells w a c q h.nil (fun ad e j x hx => by
    have hn : 0 < n := by rw [← h.len]; have := (List.getElem?_eq_some_iff.1 hx).1; omega
    obtain ⟨o, e2, h3⟩ := h.at_ hn
    rw [e] at e2
    obtain rfl := Option.some.inj e2
    rw [Addr.add_mid]; exact h3 j x hx)
  rwa [h.len] at this
set_option maxRecDepth 100000 in
theorem Bs.none (w : World) (B : Nat) : Bs w B .none 0 0 [] := ⟨rfl, Nat.le_refl _, fun _ => rfl, fun h => by omega⟩
set_option maxRecDepth 100000 in
theorem add_zero' (a : Addr) : a.add 0 = a := by
  unfold Addr.add
  split <;> simp_all
set_option maxRecDepth 100000 in
theorem sl_h (a : Option Addr) (n c p : Nat) (hp : p ≤ c) (W : World) : (Instr.slice 36 (.slice a n c) none (some (.int .i64 (p : Int))) none).run Tryz.prog W = .ok (.slice a p c) W := by
  have z : (sizeOf (Tryz.prog.elem 36)).run Tryz.prog W = .ok 1 W := by kernel_rfl
  rw [run_slice_h W 36 a n c (by kernel_rfl) .i64 p (by omega) (by omega), z]
  have e : a.map (·.add (0 * 1)) = a := by cases a <;> simp [add_zero']
  simp only [Result.andThen, sliced, e, Int.toNat_natCast, Nat.sub_zero, ite_self]
set_option maxRecDepth 100000 in
theorem sl_l (B : Nat) (a : Option Addr) (n c p : Nat) (hp : p ≤ n) (hc : n ≤ c) : ∃ A1, (∀ W : World, (Instr.slice 36 (.slice a n c) (some (.int .i64 (p : Int))) none none).run Tryz.prog W = .ok (.slice A1 (n - p) (c - p)) W) ∧ ∀ (w : World) (q : List UInt8), Bs w B a n c q → Bs w B A1 (n - p) (c - p) (q.drop p) := by
  refine ⟨if c = p then a else a.map (·.add (p * 1)), fun W => ?_, fun w q h => ⟨by rw [List.length_drop, h.len], by omega, fun e => ?_, fun hn => ?_⟩⟩
  · have z : (sizeOf (Tryz.prog.elem 36)).run Tryz.prog W = .ok 1 W := by kernel_rfl
    rw [run_slice_l W 36 a n c (by kernel_rfl) .i64 p (by omega) (by omega), z]
    simp only [Result.andThen, sliced, Int.toNat_natCast]
  · have : a = none := by
      split at e
      · exact e
      · cases a <;> simp_all
    rw [h.nil this]; simp
  · obtain ⟨o, rfl, h3⟩ := h.at_ (by omega)
    rw [if_neg (by omega)]
    refine ⟨o + p, by simp [Addr.add_mid], fun j x hx => ?_⟩
    rw [List.getElem?_drop] at hx
    rw [Nat.add_assoc]; exact h3 _ _ hx
set_option maxRecDepth 100000 in
theorem Bs.take {w : World} {B : Nat} {a : Option Addr} {n c p : Nat} {q : List UInt8} (h : Bs w B a n c q) (hp : p ≤ n) : Bs w B a p c (q.take p) := by
  refine ⟨by rw [List.length_take, h.len]; omega, by have := h.cap; omega, fun e => by rw [h.nil e]; simp, fun hn => ?_⟩
  obtain ⟨o, e, h3⟩ := h.at_ (by omega)
  refine ⟨o, e, fun j x hx => ?_⟩
  rw [List.getElem?_take] at hx
  split at hx
  · exact h3 j x hx
  · cases hx
/-- where a Reader stands -/
structure RAt (w : World) (rb B : Nat) (st : RS) : Prop where
  h : ∃ a c, Has w rb [.slice a st.1.length c, .int .i64 st.2] 148 ∧ Bs w B a st.1.length c st.1
  ne : rb ≠ B
  lt : B < w.heap.size
  ok : st.ok
structure RDid (w w' : World) (rb B : Nat) (st : RS) : Prop where
  a : RAt w' rb B st
  f : Fr (fun i => i = rb) w w'
set_option maxRecDepth 100000 in
theorem RAt.fr {S : Nat → Prop} {w w' : World} {rb B : Nat} {st : RS} (h : RAt w rb B st) (f : Fr S w w') (hs : ¬ S rb) (hs2 : ¬ S B) : RAt w' rb B st := by
  obtain ⟨⟨a, c, h1, h2⟩, h3, h4, h5⟩ := h
  exact ⟨⟨a, c, h1.fr f hs, h2.fr f hs2⟩, h3, Nat.lt_of_lt_of_le h4 f.size, h5⟩
set_option maxRecDepth 100000 in
theorem RAt.kept {w w' : World} {rb B : Nat} {st : RS} (h : RAt w rb B st) (hg : w.grownBy w' none) : RAt w' rb B st :=
  h.fr (S := fun _ => False) (Fr.ofNone hg) (fun e => e) (fun e => e)
set_option maxRecDepth 100000 in
theorem RDid.refl {w : World} {rb B : Nat} {st : RS} (h : RAt w rb B st) : RDid w w rb B st := ⟨h, Fr.refl _ _⟩
set_option maxRecDepth 100000 in
theorem RDid.trans {w w1 w2 : World} {rb B : Nat} {st st2 : RS} (h : RDid w w1 rb B st) (k : RDid w1 w2 rb B st2) : RDid w w2 rb B st2 := ⟨k.a, h.f.trans k.f⟩
set_option maxRecDepth 100000 in
theorem RDid.grown {w w1 w2 : World} {rb B : Nat} {st : RS} (h : RDid w w1 rb B st) (hg : w1.grownBy w2 none) : RDid w w2 rb B st := ⟨h.a.kept hg, h.f.trans (Fr.ofNone hg)⟩
set_option maxRecDepth 100000 in
theorem RDid.ahead {w w1 w2 : World} {rb B : Nat} {st : RS} (hg : w.grownBy w1 none) (h : RDid w1 w2 rb B st) : RDid w w2 rb B st := ⟨h.a, (Fr.ofNone hg).trans h.f⟩

set_option maxRecDepth 100000 in
theorem rfail_c (rb B : Nat) (st : RS) (e : Int) (w : World) (h : RAt w rb B st) :
    Calls Tryz.prog 136 #[.pointer (some ⟨rb, 0, none⟩), .int .i64 e] w fun en w' => en = .returned (.tuple #[]) ∧ RDid w w' rb B (st.fail e) := by
  obtain ⟨⟨a, c, h1, h2⟩, h3, h4, h5⟩ := h
  obtain ⟨l, er⟩ := st
  have HH : Keep (Has w rb [.slice a l.length c, .int .i64 er] 148 ∧ rb ≠ B ∧ B < w.heap.size) := ⟨h1, h3, h4⟩
  have c0 : w.cell? ⟨rb, 0, none⟩ = some (.slice a l.length c) := h1.cellv 0 _ rfl
  have c1 : w.cell? ⟨rb, 1, none⟩ = some (.int .i64 er) := h1.cellv 1 _ rfl
  have f0 := h1.frozen 0
  have f1 := h1.frozen 1
  clear h1 h2 h3 h4 h5
  generalize l.length = n at *
  go_enter Tryz.func136, Tryz.ntmps136
  by_cases he : er = 0
  · subst he
    go_wp2
    go_end0
    have f2 : Fr (fun i => i = rb) w _ := (Fr.ofSome (S := fun i => i = rb) (gr_set w rb 1 (.int .i64 e)) rfl).trans (Fr.ofSome (S := fun i => i = rb) (gr_set _ rb 0 (.slice none 0 0)) rfl)
    exact ⟨rfl, ⟨⟨none, 0, (HH.out.1.setCell 1 _).setCell 0 _, Bs.none _ _⟩, HH.out.2.1, Nat.lt_of_lt_of_le HH.out.2.2 f2.size, fail_ok _ _⟩, f2⟩
  · go_wp2
    go_end0
    have f2 : Fr (fun i => i = rb) w _ := (Fr.ofSome (S := fun i => i = rb) (gr_set w rb 0 (.slice none 0 0)) rfl)
    have e2 : RS.fail (l, er) e = ([], er) := by unfold RS.fail; rw [if_neg he]
    rw [e2]
    exact ⟨rfl, ⟨⟨none, 0, HH.out.1.setCell 0 _, Bs.none _ _⟩, HH.out.2.1, Nat.lt_of_lt_of_le HH.out.2.2 f2.size, fun _ => rfl⟩, f2⟩

set_option maxRecDepth 100000 in
theorem rtake_c (rb B : Nat) (st : RS) (n : Int) (w : World) (h : RAt w rb B st) :
    Calls Tryz.prog 137 #[.pointer (some ⟨rb, 0, none⟩), .int .i64 n] w fun en w' => ∃ a c, en = .returned (.slice a (rTake st n).1.length c) ∧ Bs w' B a (rTake st n).1.length c (rTake st n).1 ∧ RDid w w' rb B (rTake st n).2 := by
  have HH : Keep (RAt w rb B st) := ⟨h⟩
  obtain ⟨⟨a, c, h1, h2⟩, h3, h4, h5⟩ := h
  obtain ⟨l, er⟩ := st
  have c0 : w.cell? ⟨rb, 0, none⟩ = some (.slice a l.length c) := h1.cellv 0 _ rfl
  have f0 := h1.frozen 0
  have HB : Keep (Has w rb [.slice a l.length c, .int .i64 er] 148 ∧ Bs w B a l.length c l ∧ rb ≠ B ∧ B < w.heap.size ∧ RS.ok (l, er)) := ⟨h1, h2, h3, h4, h5⟩
  clear h1 h2 h3 h4 h5
  go_enter Tryz.func137, Tryz.ntmps137
  by_cases hn : n < 0
  · have HE : Keep (rTake (l, er) n = ([], RS.fail (l, er) 51)) := ⟨by unfold rTake; rw [if_pos hn]⟩
    go_wp2_with fail
    refine (rfail_c rb B _ 51 w HH.out).mono ?_
    rintro e w1 ⟨rfl, d1⟩
    have HD : Keep (RDid w w1 rb B (RS.fail (l, er) 51)) := ⟨d1⟩
    clear d1
    go_wp2
    go_ret
    rw [HE.out]
    exact ⟨none, 0, rfl, Bs.none _ _, HD.out⟩
  · by_cases hl : (l.length : Int) < n
    · have HE : Keep (rTake (l, er) n = ([], RS.fail (l, er) 50)) := ⟨by unfold rTake; rw [if_neg hn, if_pos hl]⟩
      go_wp2_with fail
      refine (rfail_c rb B _ 50 w HH.out).mono ?_
      rintro e w1 ⟨rfl, d1⟩
      have HD : Keep (RDid w w1 rb B (RS.fail (l, er) 50)) := ⟨d1⟩
      clear d1
      go_wp2
      go_ret
      rw [HE.out]
      exact ⟨none, 0, rfl, Bs.none _ _, HD.out⟩
    · obtain ⟨k, rfl⟩ : ∃ k : Nat, n = k := ⟨n.toNat, by omega⟩
      have hk : k ≤ l.length := by omega
      have HE : Keep (rTake (l, er) k = (l.take k, (l.drop k, er))) := ⟨by unfold rTake; rw [if_neg hn, if_neg hl]; rfl⟩
      have s1 := sl_h a l.length c k (by have := HB.out.2.1.cap; omega)
      obtain ⟨A1, s2, s3⟩ := sl_l B a l.length c k hk HB.out.2.1.cap
      have HS : Keep (∀ (w : World) (q : List UInt8), Bs w B a l.length c q → Bs w B A1 (l.length - k) (c - k) (q.drop k)) := ⟨s3⟩
      have HK : Keep (k ≤ l.length) := ⟨hk⟩
      clear s3
      generalize hln : l.length = ln at *
      have HL : Keep (l.length = ln) := ⟨hln⟩
      clear hln
      have hlt : ¬ ((ln : Int) < (k : Int)) := hl
      clear hl hk
      go_wp2_with fail
      go_ret
      have f2 : Fr (fun i => i = rb) w _ := Fr.ofSome (S := fun i => i = rb) (gr_set w rb 0 (.slice A1 (ln - k) (c - k))) rfl
      have e1 : (l.take k).length = k := by rw [List.length_take, HL.out]; have := HK.out; omega
      have e2 : (l.drop k).length = ln - k := by rw [List.length_drop, HL.out]
      obtain ⟨q1, q2, q3, q4, q5⟩ := HB.out
      have hs : ¬ B = rb := fun e => q3 e.symm
      rw [HE.out]
      simp only [e1]
      refine ⟨a, c, rfl, (q2.take HK.out).fr f2 hs, ⟨⟨A1, c - k, ?_, ?_⟩, q3, Nat.lt_of_lt_of_le q4 f2.size, ?_⟩, f2⟩
      · simp only [e2]; exact q1.setCell 0 _
      · simp only [e2]; exact (HS.out _ _ q2).fr f2 hs
      · intro e; have : l = [] := q5 e; simp [this]
end Go.Proofs.YtjbkoablleneeaaGreatDoor.Pk

/- pack: the Reader's numbers. -/
namespace Go.Proofs.YtjbkoablleneeaaGreatDoor.Pk
open Go Go.RowKit

set_option maxRecDepth 100000 in
theorem sx_val (l : List UInt8) (size : Int) (hs : sized size) (hl : l.length = 0 ∨ (l.length : Int) = size) : sx (val l) size.toNat = u64 (sval l) := by
  have h8 : size = 1 ∨ size = 2 ∨ size = 3 ∨ size = 4 ∨ size = 5 ∨ size = 6 ∨ size = 7 ∨ size = 8 := by obtain ⟨h1, h2⟩ := hs; omega
  have hv := val_lt l
  rcases hl with hl | hl
  · have : l = [] := List.eq_nil_of_length_eq_zero hl
    subst this
    rcases h8 with rfl | rfl | rfl | rfl | rfl | rfl | rfl | rfl <;> decide
  · obtain ⟨n, hn⟩ : ∃ n, val l = n := ⟨_, rfl⟩
    obtain ⟨k, hk⟩ : ∃ k, l.length = k := ⟨_, rfl⟩
    have e : size.toNat = k := by omega
    unfold sx sval u64
    rw [hn, hk] at hv
    rw [hn, hk, e]
    have h9 : k = 1 ∨ k = 2 ∨ k = 3 ∨ k = 4 ∨ k = 5 ∨ k = 6 ∨ k = 7 ∨ k = 8 := by omega
    rw [Nat.mod_eq_of_lt hv]
    clear hk hn e hl h8 hs
    rcases h9 with rfl | rfl | rfl | rfl | rfl | rfl | rfl | rfl
    · have hv' : n < 256 := hv
      show (if 2 * n < 256 then n else n + 18446744073709551616 - 256) = ((if 2 * n < 256 then (n : Int) else (n : Int) - ((256 : Nat) : Int)) % 18446744073709551616).toNat
      split <;> omega
    · have hv' : n < 65536 := hv
      show (if 2 * n < 65536 then n else n + 18446744073709551616 - 65536) = ((if 2 * n < 65536 then (n : Int) else (n : Int) - ((65536 : Nat) : Int)) % 18446744073709551616).toNat
      split <;> omega
    · have hv' : n < 16777216 := hv
      show (if 2 * n < 16777216 then n else n + 18446744073709551616 - 16777216) = ((if 2 * n < 16777216 then (n : Int) else (n : Int) - ((16777216 : Nat) : Int)) % 18446744073709551616).toNat
      split <;> omega
    · have hv' : n < 4294967296 := hv
      show (if 2 * n < 4294967296 then n else n + 18446744073709551616 - 4294967296) = ((if 2 * n < 4294967296 then (n : Int) else (n : Int) - ((4294967296 : Nat) : Int)) % 18446744073709551616).toNat
      split <;> omega
    · have hv' : n < 1099511627776 := hv
      show (if 2 * n < 1099511627776 then n else n + 18446744073709551616 - 1099511627776) = ((if 2 * n < 1099511627776 then (n : Int) else (n : Int) - ((1099511627776 : Nat) : Int)) % 18446744073709551616).toNat
      split <;> omega
    · have hv' : n < 281474976710656 := hv
      show (if 2 * n < 281474976710656 then n else n + 18446744073709551616 - 281474976710656) = ((if 2 * n < 281474976710656 then (n : Int) else (n : Int) - ((281474976710656 : Nat) : Int)) % 18446744073709551616).toNat
      split <;> omega
    · have hv' : n < 72057594037927936 := hv
      show (if 2 * n < 72057594037927936 then n else n + 18446744073709551616 - 72057594037927936) = ((if 2 * n < 72057594037927936 then (n : Int) else (n : Int) - ((72057594037927936 : Nat) : Int)) % 18446744073709551616).toNat
      split <;> omega
    · have hv' : n < 18446744073709551616 := hv
      show (if 2 * n < 18446744073709551616 then n else n + 18446744073709551616 - 18446744073709551616) = ((if 2 * n < 18446744073709551616 then (n : Int) else (n : Int) - ((18446744073709551616 : Nat) : Int)) % 18446744073709551616).toNat
      split <;> omega

set_option maxRecDepth 100000 in
theorem or_add (x : Nat) (b : UInt8) (hx : x < 72057594037927936) : bits .or .u64 ((x * 256 : Nat) : Int) ((b.toNat : Nat) : Int) = ((x * 256 + b.toNat : Nat) : Int) := by
  have hb : b.toNat < 256 := b.toNat_lt
  rw [u64_or_nat _ _ (by omega) (by omega)]
  congr 1
  have := Nat.two_pow_add_eq_or_of_lt (i := 8) hb x
  rw [Nat.mul_comm] at this
  exact this.symm

set_option maxRecDepth 100000 in
set_option maxHeartbeats 4000000 in
theorem rnumber_plain (rb B : Nat) (st : RS) (size : Int) (w : World) (h : RAt w rb B st) :
    Calls Tryz.prog 106 #[.pointer (some ⟨rb, 0, none⟩), .agg #[fv 98], .int .i64 size] w fun e w' => e = .returned (.int .u64 ((rNum st size).1 : Nat)) ∧ RDid w w' rb B (rNumL st size).2 := by
  have HH : Keep (RAt w rb B st) := ⟨h⟩
  clear h
  go_enter Tryz.func106, Tryz.ntmps106
  by_cases hs : sized size
  · have HS : Keep (sized size) := ⟨hs⟩
    have HC : Keep (∀ W : World, Calls Tryz.prog 131 #[.int .i64 size] W fun e w' => e = .returned (.bool true) ∧ w' = W) := ⟨fun W => by
      have := sized_c size W
      rwa [decide_eq_true hs] at this⟩
    have HR : Keep (rNumL st size = rTake st size) := ⟨by unfold rNumL; rw [if_pos hs]⟩
    clear hs
    go_wp2_with fail
    obtain ⟨w1, hw1⟩ : ∃ w1, w.alloc (.cells #[fv 98] 140) = w1 := ⟨_, rfl⟩
    obtain ⟨kb, hkb⟩ : ∃ kb, w.heap.size = kb := ⟨_, rfl⟩
    have HG : Keep (w.grownBy w1 none ∧ Has w1 kb [fv 98] 140 ∧ rb ≠ kb) := ⟨by rw [← hw1]; exact World.grownBy_alloc _ _ _, by rw [← hw1, ← hkb]; exact Has.newA w #[fv 98] 140, by obtain ⟨⟨a, c, q, _⟩, _⟩ := HH.out; have := q.lt; omega⟩
    rw [hw1]
    simp only [hkb]
    clear hw1 hkb
    refine (HC.out w1).mono ?_
    rintro e w1' ⟨rfl, hw⟩
    subst hw
    go_wp2_with fail
    refine (rtake_c rb B st size w1' (HH.out.kept HG.out.1)).mono ?_
    rintro e w2 ⟨a, c, rfl, hb, d2⟩
    obtain ⟨l, hl⟩ : ∃ l, (rTake st size).1 = l := ⟨_, rfl⟩
    have HL : Keep (l.length = 0 ∨ (l.length : Int) = size) := ⟨by rw [← hl]; exact rTake_len st size⟩
    have H8 : l.length ≤ 8 := by have := HS.out.2; have := HL.out; omega
    have HN : Keep ((rNumL st size).1 = l) := ⟨by rw [HR.out]; exact hl⟩
    rw [hl] at hb ⊢
    have HB : Keep (Bs w2 B a l.length c l) := ⟨hb⟩
    have HD : Keep (RDid w w2 rb B (rNumL st size).2) := ⟨by rw [HR.out]; exact d2.ahead HG.out.1⟩
    have c0 : w2.cell? ⟨kb, 0, none⟩ = some (fv 98) := (HG.out.2.1.fr d2.f (fun e => HG.out.2.2 e.symm)).cellv 0 _ rfl
    clear hb d2 hl HC HH HG HR
    obtain ⟨n, hn⟩ : ∃ n, l.length = n := ⟨_, rfl⟩
    rw [hn] at HB HL H8 ⊢
    have HLN : Keep (l.length = n) := ⟨hn⟩
    clear hn
    go_wp2_with fail
    go_loopw [7, 9, 19] (fun s7 s9 s19 w' => ∃ i : Nat, i ≤ n ∧ s7 = .int .u64 (val (l.take i) : Nat) ∧ (∃ b : UInt8, s9 = .int .u8 b.toNat ∨ s9 = undef) ∧ s19 = .int .i64 i ∧ w' = w2) (fun _ _ s19 _ => n - (intOf s19).toNat)
    case atStart => exact ⟨0, by omega, rfl, ⟨0, .inr rfl⟩, rfl, rfl⟩
    case round =>
      obtain ⟨i, hi, rfl, hb9, rfl, rfl⟩ := hrel
      by_cases hin : i < n
      · have hin2 : (i : Int) < n := by omega
        obtain ⟨o, rfl, hc⟩ := HB.out.at_ (by omega)
        obtain ⟨b, hb⟩ : ∃ b, l[i]? = some b := ⟨_, List.getElem?_eq_getElem (by rw [HLN.out]; exact hin)⟩
        have hcell : wr.cell? ⟨B, o + i, none⟩ = some (.int .u8 b.toNat) := hc i b hb
        have hx : val (l.take i) < 72057594037927936 := by
          have h1 := val_lt (l.take i)
          have h2 : (l.take i).length ≤ 7 := by rw [List.length_take]; omega
          have h3 : 256 ^ (l.take i).length ≤ 256 ^ 7 := Nat.pow_le_pow_right (by omega) h2
          have h4 : (256 : Nat) ^ 7 = 72057594037927936 := by decide
          omega
        have hst : val (l.take (i + 1)) = val (l.take i) * 256 + b.toNat := by
          obtain ⟨q1, q2⟩ := List.getElem?_eq_some_iff.1 hb
          rw [List.take_succ_eq_append_getElem q1, q2, val_snoc]
        obtain ⟨x, hxx⟩ : ∃ x, val (l.take i) = x := ⟨_, rfl⟩
        obtain ⟨y, hyy⟩ : ∃ y, val (l.take (i + 1)) = y := ⟨_, rfl⟩
        rw [hxx] at hx hst
        rw [hyy] at hst
        have HY : Keep (val (l.take (i + 1)) = y) := ⟨hyy⟩
        rw [hxx]
        have ho := or_add x b hx
        rw [← hst] at ho
        have HO : Keep (bits .or .u64 ((x : Int) * 256) (IntKind.u64.wrap (b.toNat : Int)) = (y : Int)) := ⟨by
          have hb' : b.toNat < 256 := b.toNat_lt
          rw [show IntKind.u64.wrap (b.toNat : Int) = (b.toNat : Int) by rw [wu]; omega]
          rw [← ho]; congr 1⟩
        clear ho
        have hm : IntKind.u64.wrap ((x : Int) * 256) = ((x * 256 : Nat) : Int) := by rw [wu]; omega
        have hwi : IntKind.i64.wrap ((i : Int) + 1) = ((i + 1 : Nat) : Int) := by rw [wi _ (by omega) (by omega)]; omega
        clear hc hb hst hxx hyy hb9
        go_wp2
        refine ⟨⟨i + 1, by omega, by rw [HY.out, ← HO.out], ⟨b, .inl rfl⟩, by simp, by trivial⟩, ?_⟩
        simp only [intOf]; omega
      · have hin2 : ¬ (i : Int) < n := by omega
        have he : l.take i = l := List.take_of_length_le (by rw [HLN.out]; omega)
        rw [he]
        have hv : val l < 18446744073709551616 := by
          have h1 := val_lt l
          have h3 : 256 ^ l.length ≤ 256 ^ 8 := Nat.pow_le_pow_right (by omega) (by rw [HLN.out]; exact H8)
          have h4 : (256 : Nat) ^ 8 = 18446744073709551616 := by decide
          omega
        have HW : Keep (∀ W : World, Calls Tryz.prog 98 #[.int .u64 (val l : Nat), .int .i64 (8 * (8 - size))] W fun e w' => e = .returned (.int .u64 ((rNum st size).1 : Nat)) ∧ w' = W) := ⟨fun W => by
          have := plain1_c (val l) size W hv HS.out
          have e : val l % 256 ^ size.toNat = (rNum st size).1 := by
            unfold rNum
            rw [HN.out]
            refine Nat.mod_eq_of_lt ?_
            have h1 := val_lt l
            have h3 : 256 ^ l.length ≤ 256 ^ size.toNat := Nat.pow_le_pow_right (by omega) (by have := HL.out; have := HLN.out; omega)
            omega
          rwa [e] at this⟩
        obtain ⟨x, hxx⟩ : ∃ x, val l = x := ⟨_, rfl⟩
        obtain ⟨y, hyy⟩ : ∃ y, (rNum st size).1 = y := ⟨_, rfl⟩
        rw [hxx, hyy] at HW
        rw [hxx]
        have HYY : Keep (((rNum st size).1 : Nat) = y) := ⟨hyy⟩
        clear hxx hyy hv he hb9
        go_wp2_with fail
        go_quiet (first | (go_at_call 132; exact Calls.quiet_of_same (spare_c size _ HS.out)) | (go_at_call 98; exact Calls.quiet_of_same (HW.out _)))
        go_wp2
        go_ret
        exact ⟨by rw [HYY.out]; rfl, HD.out.grown (gr_drewN _ _ _)⟩
  · have HC : Keep (∀ W : World, Calls Tryz.prog 131 #[.int .i64 size] W fun e w' => e = .returned (.bool false) ∧ w' = W) := ⟨fun W => by
      have := sized_c size W
      rwa [decide_eq_false hs] at this⟩
    have HR : Keep (rNumL st size = ([], st.fail 51)) := ⟨by unfold rNumL; rw [if_neg hs]⟩
    clear hs
    go_wp2_with fail
    obtain ⟨w1, hw1⟩ : ∃ w1, w.alloc (.cells #[fv 98] 140) = w1 := ⟨_, rfl⟩
    have HG : Keep (w.grownBy w1 none) := ⟨by rw [← hw1]; exact World.grownBy_alloc _ _ _⟩
    rw [hw1]
    clear hw1
    refine (HC.out w1).mono ?_
    rintro e w1' ⟨rfl, hw⟩
    subst hw
    go_wp2_with fail
    refine (rfail_c rb B st 51 w1' (HH.out.kept HG.out)).mono ?_
    rintro e w2 ⟨rfl, d2⟩
    have HD : Keep (RDid w w2 rb B (st.fail 51)) := ⟨d2.ahead HG.out⟩
    clear d2
    go_wp2
    go_ret
    have e0 : (rNum st size).1 = 0 := by
      unfold rNum; rw [HR.out]; rfl
    rw [e0, HR.out]
    exact ⟨rfl, HD.out⟩

set_option maxRecDepth 100000 in
set_option maxHeartbeats 4000000 in
theorem rnumber_signed (rb B : Nat) (st : RS) (size : Int) (w : World) (h : RAt w rb B st) :
    Calls Tryz.prog 106 #[.pointer (some ⟨rb, 0, none⟩), .agg #[fv 268], .int .i64 size] w fun e w' => e = .returned (.int .u64 (u64 (rSig st size).1 : Nat)) ∧ RDid w w' rb B (rNumL st size).2 := by
  have HH : Keep (RAt w rb B st) := ⟨h⟩
  clear h
  go_enter Tryz.func106, Tryz.ntmps106
  by_cases hs : sized size
  · have HS : Keep (sized size) := ⟨hs⟩
    have HC : Keep (∀ W : World, Calls Tryz.prog 131 #[.int .i64 size] W fun e w' => e = .returned (.bool true) ∧ w' = W) := ⟨fun W => by
      have := sized_c size W
      rwa [decide_eq_true hs] at this⟩
    have HR : Keep (rNumL st size = rTake st size) := ⟨by unfold rNumL; rw [if_pos hs]⟩
    clear hs
    go_wp2_with fail
    obtain ⟨w1, hw1⟩ : ∃ w1, w.alloc (.cells #[fv 268] 140) = w1 := ⟨_, rfl⟩
    obtain ⟨kb, hkb⟩ : ∃ kb, w.heap.size = kb := ⟨_, rfl⟩
    have HG : Keep (w.grownBy w1 none ∧ Has w1 kb [fv 268] 140 ∧ rb ≠ kb) := ⟨by rw [← hw1]; exact World.grownBy_alloc _ _ _, by rw [← hw1, ← hkb]; exact Has.newA w #[fv 268] 140, by obtain ⟨⟨a, c, q, _⟩, _⟩ := HH.out; have := q.lt; omega⟩
    rw [hw1]
    simp only [hkb]
    clear hw1 hkb
    refine (HC.out w1).mono ?_
    rintro e w1' ⟨rfl, hw⟩
    subst hw
    go_wp2_with fail
    refine (rtake_c rb B st size w1' (HH.out.kept HG.out.1)).mono ?_
    rintro e w2 ⟨a, c, rfl, hb, d2⟩
    obtain ⟨l, hl⟩ : ∃ l, (rTake st size).1 = l := ⟨_, rfl⟩
    have HL : Keep (l.length = 0 ∨ (l.length : Int) = size) := ⟨by rw [← hl]; exact rTake_len st size⟩
    have H8 : l.length ≤ 8 := by have := HS.out.2; have := HL.out; omega
    have HN : Keep ((rNumL st size).1 = l) := ⟨by rw [HR.out]; exact hl⟩
    rw [hl] at hb ⊢
    have HB : Keep (Bs w2 B a l.length c l) := ⟨hb⟩
    have HD : Keep (RDid w w2 rb B (rNumL st size).2) := ⟨by rw [HR.out]; exact d2.ahead HG.out.1⟩
    have c0 : w2.cell? ⟨kb, 0, none⟩ = some (fv 268) := (HG.out.2.1.fr d2.f (fun e => HG.out.2.2 e.symm)).cellv 0 _ rfl
    clear hb d2 hl HC HH HG HR
    obtain ⟨n, hn⟩ : ∃ n, l.length = n := ⟨_, rfl⟩
    rw [hn] at HB HL H8 ⊢
    have HLN : Keep (l.length = n) := ⟨hn⟩
    clear hn
    go_wp2_with fail
    go_loopw [7, 9, 19] (fun s7 s9 s19 w' => ∃ i : Nat, i ≤ n ∧ s7 = .int .u64 (val (l.take i) : Nat) ∧ (∃ b : UInt8, s9 = .int .u8 b.toNat ∨ s9 = undef) ∧ s19 = .int .i64 i ∧ w' = w2) (fun _ _ s19 _ => n - (intOf s19).toNat)
    case atStart => exact ⟨0, by omega, rfl, ⟨0, .inr rfl⟩, rfl, rfl⟩
    case round =>
      obtain ⟨i, hi, rfl, hb9, rfl, rfl⟩ := hrel
      by_cases hin : i < n
      · have hin2 : (i : Int) < n := by omega
        obtain ⟨o, rfl, hc⟩ := HB.out.at_ (by omega)
        obtain ⟨b, hb⟩ : ∃ b, l[i]? = some b := ⟨_, List.getElem?_eq_getElem (by rw [HLN.out]; exact hin)⟩
        have hcell : wr.cell? ⟨B, o + i, none⟩ = some (.int .u8 b.toNat) := hc i b hb
        have hx : val (l.take i) < 72057594037927936 := by
          have h1 := val_lt (l.take i)
          have h2 : (l.take i).length ≤ 7 := by rw [List.length_take]; omega
          have h3 : 256 ^ (l.take i).length ≤ 256 ^ 7 := Nat.pow_le_pow_right (by omega) h2
          have h4 : (256 : Nat) ^ 7 = 72057594037927936 := by decide
          omega
        have hst : val (l.take (i + 1)) = val (l.take i) * 256 + b.toNat := by
          obtain ⟨q1, q2⟩ := List.getElem?_eq_some_iff.1 hb
          rw [List.take_succ_eq_append_getElem q1, q2, val_snoc]
        obtain ⟨x, hxx⟩ : ∃ x, val (l.take i) = x := ⟨_, rfl⟩
        obtain ⟨y, hyy⟩ : ∃ y, val (l.take (i + 1)) = y := ⟨_, rfl⟩
        rw [hxx] at hx hst
        rw [hyy] at hst
        have HY : Keep (val (l.take (i + 1)) = y) := ⟨hyy⟩
        rw [hxx]
        have ho := or_add x b hx
        rw [← hst] at ho
        have HO : Keep (bits .or .u64 ((x : Int) * 256) (IntKind.u64.wrap (b.toNat : Int)) = (y : Int)) := ⟨by
          have hb' : b.toNat < 256 := b.toNat_lt
          rw [show IntKind.u64.wrap (b.toNat : Int) = (b.toNat : Int) by rw [wu]; omega]
          rw [← ho]; congr 1⟩
        clear ho
        have hm : IntKind.u64.wrap ((x : Int) * 256) = ((x * 256 : Nat) : Int) := by rw [wu]; omega
        have hwi : IntKind.i64.wrap ((i : Int) + 1) = ((i + 1 : Nat) : Int) := by rw [wi _ (by omega) (by omega)]; omega
        clear hc hb hst hxx hyy hb9
        go_wp2
        refine ⟨⟨i + 1, by omega, by rw [HY.out, ← HO.out], ⟨b, .inl rfl⟩, by simp, by trivial⟩, ?_⟩
        simp only [intOf]; omega
      · have hin2 : ¬ (i : Int) < n := by omega
        have he : l.take i = l := List.take_of_length_le (by rw [HLN.out]; omega)
        rw [he]
        have hv : val l < 18446744073709551616 := by
          have h1 := val_lt l
          have h3 : 256 ^ l.length ≤ 256 ^ 8 := Nat.pow_le_pow_right (by omega) (by rw [HLN.out]; exact H8)
          have h4 : (256 : Nat) ^ 8 = 18446744073709551616 := by decide
          omega
        have HW : Keep (∀ W : World, Calls Tryz.prog 268 #[.int .u64 (val l : Nat), .int .i64 (8 * (8 - size))] W fun e w' => e = .returned (.int .u64 (u64 (rSig st size).1 : Nat)) ∧ w' = W) := ⟨fun W => by
          have := signed1_c (val l) size W hv HS.out
          have e : sx (val l) size.toNat = u64 (rSig st size).1 := by
            unfold rSig
            rw [HN.out]
            exact sx_val l size HS.out (by rw [HLN.out]; exact HL.out)
          rwa [e] at this⟩
        obtain ⟨x, hxx⟩ : ∃ x, val l = x := ⟨_, rfl⟩
        obtain ⟨y, hyy⟩ : ∃ y, u64 (rSig st size).1 = y := ⟨_, rfl⟩
        rw [hxx, hyy] at HW
        rw [hxx]
        have HYY : Keep ((u64 (rSig st size).1 : Nat) = y) := ⟨hyy⟩
        clear hxx hyy hv he hb9
        go_wp2_with fail
        go_quiet (first | (go_at_call 132; exact Calls.quiet_of_same (spare_c size _ HS.out)) | (go_at_call 268; exact Calls.quiet_of_same (HW.out _)))
        go_wp2
        go_ret
        exact ⟨by rw [HYY.out]; rfl, HD.out.grown (gr_drewN _ _ _)⟩
  · have HC : Keep (∀ W : World, Calls Tryz.prog 131 #[.int .i64 size] W fun e w' => e = .returned (.bool false) ∧ w' = W) := ⟨fun W => by
      have := sized_c size W
      rwa [decide_eq_false hs] at this⟩
    have HR : Keep (rNumL st size = ([], st.fail 51)) := ⟨by unfold rNumL; rw [if_neg hs]⟩
    clear hs
    go_wp2_with fail
    obtain ⟨w1, hw1⟩ : ∃ w1, w.alloc (.cells #[fv 268] 140) = w1 := ⟨_, rfl⟩
    have HG : Keep (w.grownBy w1 none) := ⟨by rw [← hw1]; exact World.grownBy_alloc _ _ _⟩
    rw [hw1]
    clear hw1
    refine (HC.out w1).mono ?_
    rintro e w1' ⟨rfl, hw⟩
    subst hw
    go_wp2_with fail
    refine (rfail_c rb B st 51 w1' (HH.out.kept HG.out)).mono ?_
    rintro e w2 ⟨rfl, d2⟩
    have HD : Keep (RDid w w2 rb B (st.fail 51)) := ⟨d2.ahead HG.out⟩
    clear d2
    go_wp2
    go_ret
    have e0 : u64 (rSig st size).1 = 0 := by
      unfold rSig; rw [HR.out]; rfl
    rw [e0, HR.out]
    exact ⟨rfl, HD.out⟩
end Go.Proofs.YtjbkoablleneeaaGreatDoor.Pk

