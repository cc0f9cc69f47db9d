/- pack: rows of bytes; the Writer's state. -/
import Derived.Test.YtkddfnglonofoaaA2
import Derived.Lib.AppendStr
namespace Go.Proofs.Ytkddfnglonofoaa
open Go Go.RowKit

abbrev bv (x : UInt8) : Value := .int .u8 x.toNat
/-- a string's bytes -/
def sl (s : ByteArray) : List UInt8 := s.data.toList
theorem sl_len (s : ByteArray) : (sl s).length = s.size := Array.length_toList
theorem sl_mk (l : List UInt8) : sl ⟨l.toArray⟩ = l := by simp [sl]
theorem sl_app (a b : ByteArray) : sl (a ++ b) = sl a ++ sl b := by simp [sl]
theorem sl_inj {a b : ByteArray} (h : sl a = sl b) : a = b := by
  apply ByteArray.ext
  exact Array.toList_inj.1 h
theorem sl_back (s : ByteArray) : (⟨(sl s).toArray⟩ : ByteArray) = s := by
  apply ByteArray.ext; simp [sl]
theorem sl_cells (s : ByteArray) : Lib.strCells s = (sl s).map bv := by
  simp [Lib.strCells, sl]

theorem under53 : Try.prog.underlying 53 = some (.slice 5) := by kernel_rfl
theorem under5 : Try.prog.underlying 5 = some (.int .u8) := by kernel_rfl
theorem under9 : Try.prog.underlying 9 = some .string := by kernel_rfl
theorem info5 : ∃ i, Try.prog.info? 5 = some i ∧ i.size = 1 ∧ i.bytes = 1 ∧ i.zero = some (.int .u8 0) := ⟨_, rfl, by kernel_rfl, by kernel_rfl, by kernel_rfl⟩

/-- a row of bytes -/
abbrev Row (w : World) (v : Value) (xs : List UInt8) : Prop := w.ownsRow 0 5 1 v xs.length (xs.map bv)
theorem Row.lt {w : World} {v : Value} {xs : List UInt8} (h : Row w v xs) {k : Nat} (e : v.ownBlock = some k) : k < w.heap.size := by
  obtain ⟨_, h2⟩ := h
  rcases h2 with ⟨rfl, _⟩ | ⟨g, cap, cur, rfl, a, b, c⟩
  · cases e
  · cases e; exact (Array.getElem?_eq_some_iff.1 b).1
theorem Row.fr {S : Nat → Prop} {w w' : World} {v : Value} {xs : List UInt8} (h : Row w v xs) (f : Fr S w w') (hs : ∀ k, v.ownBlock = some k → ¬ S k) : Row w' v xs := by
  have hl : ∀ k, v.ownBlock = some k → k < w.heap.size := fun k e => Row.lt h e
  obtain ⟨h1, h2⟩ := h
  refine ⟨h1, ?_⟩
  rcases h2 with h2 | ⟨g, cap, cur, rfl, a, b, c⟩
  · exact .inl h2
  · exact .inr ⟨g, cap, cur, rfl, a, by rw [f.block g (hl g rfl) (hs g rfl), b], c⟩
theorem Row.shape {w : World} {v : Value} {xs : List UInt8} (h : Row w v xs) : ∃ a c, v = .slice a xs.length c ∧ (a = none → xs = []) ∧ ∀ ad, a = some ad → ∀ j x, xs[j]? = some x → w.cell? (ad.add j) = some (bv x) := by
  have hc := fun g (hv : v.ownBlock = some g) => World.ownsRow.cells (w := w) h (g := g) hv
  obtain ⟨h1, h2⟩ := h
  rcases h2 with ⟨rfl, h0⟩ | ⟨g, cap, cur, rfl, hb, hheap, h1, h2, h3, h4⟩
  · exact ⟨none, 0, by rw [h0], fun _ => List.eq_nil_of_length_eq_zero h0, fun _ e => (by cases e)⟩
  · refine ⟨_, cap, rfl, fun e => (by cases e), fun ad e j x hx => ?_⟩
    cases e
    exact hc g rfl j _ (by rw [List.getElem?_map, hx]; rfl)
/-- append of a byte that was built -/
theorem app_byte {w : World} {v : Value} {xs : List UInt8} (h : Row w v xs) (b : UInt8) (hsz : xs.length + 1 ≤ 140737488355328) :
    ∃ v' w', (Builtin.append_ #[53, 53] 53 #[v, .slice (some ⟨w.heap.size, 0, none⟩) 1 1]).run Try.prog (w.alloc (.cells #[.int .u8 b.toNat] 5)) = .ok v' w' ∧ Row w' v' (xs ++ [b]) ∧ w.grownBy w' v.ownBlock ∧ (v'.ownBlock = v.ownBlock ∨ ∃ k, v'.ownBlock = some k ∧ w.heap.size ≤ k) := by
  obtain ⟨i, h1, h2, h3, h4⟩ := info5
  have ga := World.grownBy_alloc w (.cells #[.int .u8 b.toNat] 5) none
  have h' : Row (w.alloc (.cells #[.int .u8 b.toNat] 5)) v xs := h.fr (S := fun _ => False) (Fr.ofNone ga) (fun _ _ e => e)
  obtain ⟨v', w', r1, r2, r3, _, r5⟩ := run_append_own_at (P := Try.prog) _ 0 53 53 5 i (.int .u8 0) 1 1 under53 h1 h4 h2 h3 rfl (by decide) v xs.length _ h' ⟨w.heap.size, 0, none⟩ 1 1 [.int .u8 b.toNat] rfl (fun j u hu => by
      rw [Addr.add_mid, Nat.zero_add]
      exact (Has.newA w #[.int .u8 b.toNat] 5).cellv j _ hu) (fun u hu => by simp at hu; subst hu; rfl) (by unfold maxLen; omega) (by omega) (Nat.zero_le _)
  refine ⟨v', w', r1, ?_, ?_, ?_⟩
  · have e : xs.map bv ++ [.int .u8 b.toNat] = (xs ++ [b]).map bv := by simp
    have el : (xs ++ [b]).length = xs.length + 1 := by simp
    rw [e] at r2
    unfold Row; rw [el]; exact r2
  · exact ⟨r3.os.trans ga.os, r3.tape.trans ga.tape, r3.output.trans ga.output, Nat.le_trans ga.size r3.size, fun k hk hne => by rw [r3.block k (by have := ga.size; omega) hne, ga.block k hk (by simp)]⟩
  · rcases r5 with e | e
    · exact .inl e
    · exact .inr ⟨_, e, by rw [World.size_alloc]; omega⟩
/-- append of a string -/
theorem app_str {w : World} {v : Value} {xs : List UInt8} (h : Row w v xs) (s : ByteArray) (hsz : xs.length + s.size ≤ 140737488355328) :
    ∃ v' w', (Builtin.append_ #[53, 9] 53 #[v, .string s]).run Try.prog w = .ok v' w' ∧ Row w' v' (xs ++ sl s) ∧ w.grownBy w' v.ownBlock ∧ (v'.ownBlock = v.ownBlock ∨ ∃ k, v'.ownBlock = some k ∧ w.heap.size ≤ k) := by
  obtain ⟨i, h1, h2, h3, h4⟩ := info5
  obtain ⟨v', w', r1, r2, r3, r4⟩ := Lib.run_append_own_string (P := Try.prog) w 0 53 9 53 5 i under53 under9 h1 h4 h2 h3 v xs.length _ h s (by unfold maxLen; omega) hsz (Nat.zero_le _)
  refine ⟨v', w', r1, ?_, r3, ?_⟩
  · rw [sl_cells, ← List.map_append] at r2
    have el : (xs ++ sl s).length = xs.length + s.size := by simp [sl_len]
    unfold Row; rw [el]; exact r2
  · obtain ⟨hl, h5⟩ := h
    rcases h5 with ⟨rfl, h0⟩ | ⟨g, cap, cur, rfl, hbg, hg, hnc, hcm, hcs, htake⟩
    · obtain ⟨v2, w2, q1, q2, _⟩ := Lib.run_append_own_string (P := Try.prog) w w.heap.size 53 9 53 5 i under53 under9 h1 h4 h2 h3 (.slice none 0 0) 0 [] (World.ownsRow_nil _ _ _ _) s (by unfold maxLen; omega) (by omega) (Nat.le_refl _)
      have e : (Result.ok v2 w2 : Result Value) = .ok v' w' := by rw [← q1, r1]
      injection e with e1 e2
      subst e1 e2
      obtain ⟨_, q2⟩ := q2
      rcases q2 with ⟨rfl, _⟩ | ⟨g, cap, cur, rfl, hbg, _⟩
      · exact .inl rfl
      · exact .inr ⟨g, rfl, hbg⟩
    · by_cases hroom : xs.length + s.size ≤ cap
      · have hcs' : cur.size = cap := by simpa using hcs
        have hr := Lib.run_append_room_string (P := Try.prog) w 53 9 53 5 i under53 under9 h1 h2 g xs.length cap cur hg s hroom (by omega)
        rw [hr] at r1
        injection r1 with e1 e2
        subst e1
        exact .inl rfl
      · have holds : ∀ j u, (xs.map bv)[j]? = some u → w.cell? ((⟨g, 0, none⟩ : Addr).add j) = some u := World.ownsRow.cells (w := w) (base := 0) (e := 5) (size := 1) ⟨hl, .inr ⟨g, cap, cur, rfl, hbg, hg, hnc, hcm, hcs, htake⟩⟩ (g := g) rfl
        have hr := Lib.run_append_grow_string (P := Try.prog) w 53 9 53 5 i (.int .u8 0) under53 under9 h1 h4 ⟨g, 0, none⟩ xs.length cap (xs.map bv) (by rw [h2]; simp) holds s (by omega) (by omega) (by rw [h3]; exact growslice_fits (by omega) (by omega))
        rw [hr] at r1
        injection r1 with e1 e2
        subst e1
        exact .inr ⟨_, rfl, Nat.le_refl _⟩

/-- where a Writer stands -/
structure WAt (w : World) (wb : Nat) (v : Value) (st : WS) : Prop where
  h : Has w wb [v, .int .i64 (if st = none then 51 else 0)] 57
  r : Row w v (st.getD [])
  ne : v.ownBlock ≠ some wb
def WF (wb : Nat) (v : Value) (i : Nat) : Prop := i = wb ∨ v.ownBlock = some i
theorem WAt.lt {w : World} {wb : Nat} {v : Value} {st : WS} (h : WAt w wb v st) : ∀ i, WF wb v i → i < w.heap.size := fun i hi => by
  rcases hi with rfl | e
  · exact h.h.lt
  · exact Row.lt h.r e
theorem WAt.fr {S : Nat → Prop} {w w' : World} {wb : Nat} {v : Value} {st : WS} (h : WAt w wb v st) (f : Fr S w w') (hs : ∀ i, WF wb v i → ¬ S i) : WAt w' wb v st :=
  ⟨h.h.fr f (hs _ (.inl rfl)), h.r.fr f (fun k e => hs k (.inr e)), h.ne⟩
theorem WAt.kept {w w' : World} {wb : Nat} {v : Value} {st : WS} (h : WAt w wb v st) (hg : w.grownBy w' none) : WAt w' wb v st :=
  h.fr (S := fun _ => False) (Fr.ofNone hg) (fun _ _ e => e)
/-- what became of it -/
structure WDid (w w' : World) (wb : Nat) (v : Value) (st : WS) (v' : Value) : Prop where
  a : WAt w' wb v' st
  f : Fr (WF wb v) w w'
  n : ∀ k, v'.ownBlock = some k → v.ownBlock = some k ∨ w.heap.size ≤ k
theorem WDid.refl {w : World} {wb : Nat} {v : Value} {st : WS} (h : WAt w wb v st) : WDid w w wb v st v := ⟨h, Fr.refl _ _, fun _ e => .inl e⟩
theorem WDid.trans {w w1 w2 : World} {wb : Nat} {v v1 v2 : Value} {st st2 : WS} (h : WDid w w1 wb v st v1) (k : WDid w1 w2 wb v1 st2 v2) : WDid w w2 wb v st2 v2 := by
  have hs := h.f.size
  refine ⟨k.a, h.f.then k.f (fun i hi => ?_), fun i e => ?_⟩
  · rcases hi with e | e
    · exact .inl (.inl e)
    · exact (h.n i e).imp_left .inr
  · rcases k.n i e with q | q
    · exact h.n i q
    · exact .inr (by omega)
theorem WDid.grown {w w1 w2 : World} {wb : Nat} {v v1 : Value} {st : WS} (h : WDid w w1 wb v st v1) (hg : w1.grownBy w2 none) : WDid w w2 wb v st v1 :=
  ⟨h.a.kept hg, h.f.trans (Fr.ofNone hg), h.n⟩
theorem WDid.ahead {w w1 w2 : World} {wb : Nat} {v v1 : Value} {st : WS} (hg : w.grownBy w1 none) (h : WDid w1 w2 wb v st v1) : WDid w w2 wb v st v1 :=
  ⟨h.a, (Fr.ofNone hg).trans h.f, fun k e => (h.n k e).imp_right (fun q => Nat.le_trans hg.size q)⟩
/-- the row was set -/
theorem WAt.set {w w1 : World} {wb : Nat} {v v' : Value} {xs ys : List UInt8} (h : WAt w wb v (some xs)) (r : Row w1 v' ys) (g : w.grownBy w1 v.ownBlock) (hn : v'.ownBlock = v.ownBlock ∨ ∃ k, v'.ownBlock = some k ∧ w.heap.size ≤ k) : WDid w (w1.setCell ⟨wb, 0, none⟩ v') wb v (some ys) v' := by
  have hw := h.h.lt
  have hne : v'.ownBlock ≠ some wb := fun e => by
    rcases hn with q | ⟨k, q1, q2⟩
    · rw [q] at e; exact h.ne e
    · rw [q1] at e; cases e; omega
  have hh : Has w1 wb [v, .int .i64 0] 57 := (show Has w wb [v, .int .i64 0] 57 from h.h).kept g (fun e => h.ne e.symm)
  have f1 : Fr (WF wb v) w w1 := (Fr.of g).mono (fun i e => .inl (.inr e))
  refine ⟨⟨hh.setCell 0 v', ?_, hne⟩, f1.then (Fr.of (gr_set w1 wb 0 v')) (fun i e => by cases e; exact .inl (.inl rfl)), fun k e => ?_⟩
  · exact r.fr (Fr.of (gr_set w1 wb 0 v')) (fun k e q => hne (by rw [e, q]))
  · rcases hn with q | ⟨k', q1, q2⟩
    · rw [q] at e; exact .inl e
    · rw [q1] at e; cases e; exact .inr q2
end Go.Proofs.Ytkddfnglonofoaa
