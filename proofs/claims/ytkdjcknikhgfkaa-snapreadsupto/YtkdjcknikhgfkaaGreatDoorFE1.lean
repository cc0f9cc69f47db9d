import Derived.Test.YtkdjcknikhgfkaaGreatDoorFD1
/- frame.take: what it leaves -/
namespace Go.Proofs.YtkdjcknikhgfkaaGreatDoor.Pk
open Go Go.RowKit

set_option maxRecDepth 100000 in
theorem takes_app : ∀ (xs bs : List Fd) (s : TS), takes (xs ++ bs) s = (takes xs s).bind (takes bs)
  | [], bs, s => rfl
  | f :: xs, bs, s => by
    show (tk f s).bind (takes (xs ++ bs)) = ((tk f s).bind (takes xs)).bind (takes bs)
    rw [Option.bind_assoc]
    congr 1
    funext x
    exact takes_app xs bs x
set_option maxRecDepth 100000 in
theorem takes_take {fs : List Fd} {s : TS} {k : Nat} {f : Fd} (h : fs[k]? = some f) : takes (fs.take (k + 1)) s = (takes (fs.take k) s).bind (tk f) := by
  obtain ⟨hk, rfl⟩ := List.getElem?_eq_some_iff.1 h
  rw [List.take_succ_eq_append_getElem hk, takes_app]
  congr 1
  funext x
  show (tk _ x).bind (takes []) = _
  cases tk _ x <;> rfl
set_option maxRecDepth 100000 in
theorem takes_none {fs : List Fd} {s t : TS} {k : Nat} {f : Fd} (h : fs[k]? = some f) (h1 : takes (fs.take k) s = some t) (h2 : tk f t = none) : takes fs s = none := by
  have e : takes (fs.take (k + 1)) s = none := by rw [takes_take h, h1]; exact h2
  rw [← List.take_append_drop (k + 1) fs, takes_app, e]; rfl
set_option maxRecDepth 100000 in
theorem results_ct {fn : Func} {p q : Tmp} {ty : TypeId} (h : fn.results = #[.cell p ty, .tmp q]) (tmps : Array Value) (P : Program) (w : World) :
    (results fn tmps).run P w = ((asAddr (tmps.getD p undef)).run P w).andThen fun a w₁ => ((loadVar ty a).run P w₁).andThen fun v w₂ => .ok (.tuple #[v, tmps.getD q undef]) w₂ := by
  simp only [results, h]
  simp [Sem.run_bind, Result.andThen]
set_option maxRecDepth 100000 in
theorem ret_ct {P : Program} {fn : Func} {R : Ending → World → Prop} {a : Act} {w : World} {p q : Tmp} {ty t : TypeId} {b : Nat} {cs : List Value} {d : TypeDesc}
    (hr : fn.results = #[.cell p ty, .tmp q]) (hp : a.tmps.getD p undef = .pointer (some ⟨b, 0, none⟩)) (hh : Has w b cs t) (hu : P.underlying ty = some d) (hd : d.isRow = true)
    (hi : (P.info? ty).map (·.size) = some cs.length) (hdf : a.defers = []) (h : R (.returned (.tuple #[.agg cs.toArray, a.tmps.getD q undef])) w) : bodyPost P fn R .ret a w := by
  refine bodyPost_ret (v := .tuple #[.agg cs.toArray, a.tmps.getD q undef]) ?_ hdf h
  rw [results_ct hr, hp]
  simp [asAddr, Result.andThen, run_loadVar_mid w b 0 ty cs d hh.range hu hd hi]
set_option maxRecDepth 100000 in
theorem under26 : ∃ d, Tryz.prog.underlying 50 = some d ∧ d.isRow = true := ⟨_, Tryz.underlying50, rfl⟩
set_option maxRecDepth 100000 in
theorem info26 : (Tryz.prog.info? 50).map (·.size) = some 15 := by kernel_rfl
/-- where take's loop stands -/
structure TL (w wr : World) (db ib rb B : Nat) (fs : List Fd) (s0 : TS) (k : Nat) (s : TS) : Prop where
  g : w.grownBy wr none
  z : Has wr w.heap.size (Dg.zero 0).cells 50
  t : TkAt wr db ib rb B s
  e : takes (fs.take k) s0 = some s
  d : w.heap.size < db
  i : w.heap.size < ib
  r : w.heap.size < rb
set_option maxRecDepth 100000 in
theorem TL.next {w wr wz : World} {db ib rb B : Nat} {fs : List Fd} {s0 s s' : TS} {k : Nat} {f : Fd} (h : TL w wr db ib rb B fs s0 k s) (hf : fs[k]? = some f) (hs : tk f s = some s') (ht : TkAt wz db ib rb B s') (hfr : Fr (TF db ib rb) wr wz) : TL w wz db ib rb B fs s0 (k + 1) s' := by
  have hn : ¬ TF db ib rb w.heap.size := by
    have := h.d; have := h.i; have := h.r
    rintro (e | e | e) <;> omega
  refine ⟨fr_mine h.g hfr (fun i e => ?_), h.z.fr hfr hn, ht, by rw [takes_take hf, h.e]; exact hs, h.d, h.i, h.r⟩
  have := h.d; have := h.i; have := h.r
  rcases e with e | e | e <;> omega
set_option maxRecDepth 100000 in
theorem TL.grown {w wr wz : World} {db ib rb B : Nat} {fs : List Fd} {s0 s : TS} {k : Nat} (h : TL w wr db ib rb B fs s0 k s) (g : wr.grownBy wz none) : TL w wz db ib rb B fs s0 k s :=
  ⟨h.g.trans g, h.z.kept g (by simp), ⟨h.t.d.kept g (by simp), h.t.i.kept g, h.t.n, h.t.l⟩, h.e, h.d, h.i, h.r⟩
end Go.Proofs.YtkdjcknikhgfkaaGreatDoor.Pk
