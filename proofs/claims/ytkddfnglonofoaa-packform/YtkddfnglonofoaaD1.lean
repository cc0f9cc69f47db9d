/- scripts as they read; what the laws share. -/
import Derived.Test.YtkddfnglonofoaaC1
namespace Go.Proofs.Ytkddfnglonofoaa
open Go Go.RowKit

theorem cell_kept {w w' : World} {x : Addr} {v : Value} (hg : w.grownBy w' none) (h : w.cell? x = some v) : w'.cell? x = some v := by
  have hb : x.block < w.heap.size := World.block_lt_of_cell? w x h
  rw [← h]
  simp only [World.cell?]
  rw [hg.block x.block hb (by simp)]
abbrev ocs (o : OpT) : List Value := [.int .i64 o.kind, .int .u64 o.u, .int .i64 o.i, .int .i64 o.size, .string o.s]
/-- a call as it lies -/
structure OpAt (w : World) (B k : Nat) (o : OpT) : Prop where
  c0 : w.cell? ⟨B, k, none⟩ = some (.int .i64 o.kind)
  c1 : w.cell? ⟨B, k + 1, none⟩ = some (.int .u64 o.u)
  c2 : w.cell? ⟨B, k + 2, none⟩ = some (.int .i64 o.i)
  c3 : w.cell? ⟨B, k + 3, none⟩ = some (.int .i64 o.size)
  c4 : w.cell? ⟨B, k + 4, none⟩ = some (.string o.s)
theorem OpAt.kept {w w' : World} {B k : Nat} {o : OpT} (h : OpAt w B k o) (hg : w.grownBy w' none) : OpAt w' B k o :=
  ⟨cell_kept hg h.c0, cell_kept hg h.c1, cell_kept hg h.c2, cell_kept hg h.c3, cell_kept hg h.c4⟩
/-- a script as it reads -/
structure Scr (w : World) (a : Option Addr) (n : Nat) (xs : List OpT) : Prop where
  len : xs.length = n
  ok : ∀ o ∈ xs, o.Ok
  at_ : 0 < n → ∃ B k, a = some ⟨B, k, none⟩ ∧ ∀ j o, xs[j]? = some o → OpAt w B (k + j * 5) o
theorem Scr.get {w : World} {a : Option Addr} {n : Nat} {xs : List OpT} (h : Scr w a n xs) {i : Nat} (hi : i < n) : ∃ B k o, a = some ⟨B, k, none⟩ ∧ xs[i]? = some o ∧ o.Ok ∧ OpAt w B (k + i * 5) o := by
  obtain ⟨B, k, e, hc⟩ := h.at_ (by omega)
  have ho : xs[i]? = some (xs[i]'(by rw [h.len]; exact hi)) := List.getElem?_eq_getElem _
  exact ⟨B, k, _, e, ho, h.ok _ (List.mem_of_getElem? ho), hc i _ ho⟩
/-- a block of known cells -/
def hO (b : Nat) (cs : List Value) (t : TypeId) : Ob := ⟨fun i => i = b, fun W => Has W b cs t, fun _ _ _ h f hs => h.fr f (hs b rfl), fun _ h i e => by rw [e]; exact Has.lt (t := t) h⟩
theorem Mine.newH {w W : World} {l : List Ob} (h : Mine w W l) (cs : Array Value) (t : TypeId) : Mine w (W.alloc (.cells cs t)) (hO W.heap.size cs.toList t :: l) :=
  ⟨h.g.trans (World.grownBy_alloc _ _ _), h.s.add h.g.size (World.grownBy_alloc _ _ _) (Has.newA W cs t) (fun i hi => by rw [show i = W.heap.size from hi]; exact Nat.le_refl _)⟩
theorem Mine.h {w W : World} {A X : List Ob} {b : Nat} {cs : List Value} {t : TypeId} (h : Mine w W (A ++ hO b cs t :: X)) : Has W b cs t := h.s.p (hO b cs t) (by simp)
/-- the calls' list laid -/
def wLays (st : WS) (xs : List OpT) : WS := xs.foldl wLay st
theorem wLays_step (st : WS) (xs : List OpT) (i : Nat) (o : OpT) (h : xs[i]? = some o) : wLays st (xs.take (i + 1)) = wLay (wLays st (xs.take i)) o := by
  obtain ⟨h1, h2⟩ := List.getElem?_eq_some_iff.1 h
  rw [List.take_succ_eq_append_getElem h1, h2]
  simp [wLays]
theorem wLay_none (o : OpT) : wLay none o = none := by
  unfold wLay wNum wSig wBytes wText
  repeat (first | rfl | split)
theorem wLay_len (st : WS) (o : OpT) : ((wLay st o).getD []).length ≤ (st.getD []).length + o.s.size + 8 := by
  unfold wLay
  have h1 := wNum_len st o.u o.size
  have h2 := wSig_len st o.i o.size
  have h3 := wBytes_len st (sl o.s)
  have h4 := wText_len st (sl o.s)
  rw [sl_len] at h3 h4
  split
  · omega
  · split
    · omega
    · split
      · omega
      · split
        · omega
        · omega
/-- behind an error -/
theorem rTake_dead (e n : Int) (he : e ≠ 0) : rTake ([], e) n = ([], ([], e)) := by
  unfold rTake RS.fail
  simp only [he, if_false]
  split
  · rfl
  · split
    · rfl
    · simp
theorem rNumL_dead (e n : Int) (he : e ≠ 0) : rNumL ([], e) n = ([], ([], e)) := by
  unfold rNumL
  split
  · exact rTake_dead e n he
  · unfold RS.fail; rw [if_neg he]
theorem rNum_dead (e n : Int) (he : e ≠ 0) : rNum ([], e) n = (0, ([], e)) := by unfold rNum; rw [rNumL_dead e n he]; rfl
theorem rSig_dead (e n : Int) (he : e ≠ 0) : rSig ([], e) n = (0, ([], e)) := by unfold rSig; rw [rNumL_dead e n he]; rfl
theorem rText_dead (e : Int) (he : e ≠ 0) : rText ([], e) = ([], ([], e)) := by unfold rText; rw [rNum_dead e 1 he]; exact rTake_dead e _ he
end Go.Proofs.Ytkddfnglonofoaa
