/- pack: the Reader's state; fail, take. -/
import Derived.Test.YtkddfnglonofoaaA7
namespace Go.Proofs.Ytkddfnglonofoaa
open Go Go.RowKit

/-- bytes that lie in block B -/
structure Bs (w : World) (B : Nat) (a : Option Addr) (n c : Nat) (q : List UInt8) : Prop where
  len : q.length = n
  cap : n ≤ c
  nil : a = none → q = []
  at_ : 0 < n → ∃ o, a = some ⟨B, o, none⟩ ∧ ∀ j x, q[j]? = some x → w.cell? ⟨B, o + j, none⟩ = some (bv x)
theorem Bs.fr {S : Nat → Prop} {w w' : World} {B : Nat} {a : Option Addr} {n c : Nat} {q : List UInt8} (h : Bs w B a n c q) (f : Fr S w w') (hs : ¬ S B) : Bs w' B a n c q := by
  refine ⟨h.len, h.cap, h.nil, fun hn => ?_⟩
  obtain ⟨o, e, h3⟩ := h.at_ hn
  refine ⟨o, e, fun j x hx => ?_⟩
  have h4 := h3 j x hx
  have hb : B < w.heap.size := World.block_lt_of_cell? w _ h4
  rw [← h4]
  simp only [World.cell?]
  rw [f.block B hb hs]
theorem Bs.cvt {w : World} {B : Nat} {a : Option Addr} {n c : Nat} {q : List UInt8} (h : Bs w B a n c q) : (convert 53 9 (.slice a n c)).run Try.prog w = .ok (.string ⟨q.toArray⟩) w := by
  have := cvt_cells w a c q h.nil (fun ad e j x hx => by
    have hn : 0 < n := by rw [← h.len]; have := (List.getElem?_eq_some_iff.1 hx).1; omega
    obtain ⟨o, e2, h3⟩ := h.at_ hn
    rw [e] at e2
    obtain rfl := Option.some.inj e2
    rw [Addr.add_mid]; exact h3 j x hx)
  rwa [h.len] at this
theorem Bs.none (w : World) (B : Nat) : Bs w B .none 0 0 [] := ⟨rfl, Nat.le_refl _, fun _ => rfl, fun h => by omega⟩
theorem add_zero' (a : Addr) : a.add 0 = a := by
  unfold Addr.add
  split <;> simp_all
theorem sl_h (a : Option Addr) (n c p : Nat) (hp : p ≤ c) (W : World) : (Instr.slice 53 (.slice a n c) none (some (.int .i64 (p : Int))) none).run Try.prog W = .ok (.slice a p c) W := by
  have z : (sizeOf (Try.prog.elem 53)).run Try.prog W = .ok 1 W := by kernel_rfl
  rw [run_slice_h W 53 a n c (by kernel_rfl) .i64 p (by omega) (by omega), z]
  have e : a.map (·.add (0 * 1)) = a := by cases a <;> simp [add_zero']
  simp only [Result.andThen, sliced, e, Int.toNat_natCast, Nat.sub_zero, ite_self]
theorem sl_l (B : Nat) (a : Option Addr) (n c p : Nat) (hp : p ≤ n) (hc : n ≤ c) : ∃ A1, (∀ W : World, (Instr.slice 53 (.slice a n c) (some (.int .i64 (p : Int))) none none).run Try.prog W = .ok (.slice A1 (n - p) (c - p)) W) ∧ ∀ (w : World) (q : List UInt8), Bs w B a n c q → Bs w B A1 (n - p) (c - p) (q.drop p) := by
  refine ⟨if c = p then a else a.map (·.add (p * 1)), fun W => ?_, fun w q h => ⟨by rw [List.length_drop, h.len], by omega, fun e => ?_, fun hn => ?_⟩⟩
  · have z : (sizeOf (Try.prog.elem 53)).run Try.prog W = .ok 1 W := by kernel_rfl
    rw [run_slice_l W 53 a n c (by kernel_rfl) .i64 p (by omega) (by omega), z]
    simp only [Result.andThen, sliced, Int.toNat_natCast]
  · have : a = none := by
      split at e
      · exact e
      · cases a <;> simp_all
    rw [h.nil this]; simp
  · obtain ⟨o, rfl, h3⟩ := h.at_ (by omega)
    rw [if_neg (by omega)]
    refine ⟨o + p, by simp [Addr.add_mid], fun j x hx => ?_⟩
    rw [List.getElem?_drop] at hx
    rw [Nat.add_assoc]; exact h3 _ _ hx
theorem Bs.take {w : World} {B : Nat} {a : Option Addr} {n c p : Nat} {q : List UInt8} (h : Bs w B a n c q) (hp : p ≤ n) : Bs w B a p c (q.take p) := by
  refine ⟨by rw [List.length_take, h.len]; omega, by have := h.cap; omega, fun e => by rw [h.nil e]; simp, fun hn => ?_⟩
  obtain ⟨o, e, h3⟩ := h.at_ (by omega)
  refine ⟨o, e, fun j x hx => ?_⟩
  rw [List.getElem?_take] at hx
  split at hx
  · exact h3 j x hx
  · cases hx
/-- where a Reader stands -/
structure RAt (w : World) (rb B : Nat) (st : RS) : Prop where
  h : ∃ a c, Has w rb [.slice a st.1.length c, .int .i64 st.2] 55 ∧ Bs w B a st.1.length c st.1
  ne : rb ≠ B
  lt : B < w.heap.size
  ok : st.ok
structure RDid (w w' : World) (rb B : Nat) (st : RS) : Prop where
  a : RAt w' rb B st
  f : Fr (fun i => i = rb) w w'
theorem RAt.fr {S : Nat → Prop} {w w' : World} {rb B : Nat} {st : RS} (h : RAt w rb B st) (f : Fr S w w') (hs : ¬ S rb) (hs2 : ¬ S B) : RAt w' rb B st := by
  obtain ⟨⟨a, c, h1, h2⟩, h3, h4, h5⟩ := h
  exact ⟨⟨a, c, h1.fr f hs, h2.fr f hs2⟩, h3, Nat.lt_of_lt_of_le h4 f.size, h5⟩
theorem RAt.kept {w w' : World} {rb B : Nat} {st : RS} (h : RAt w rb B st) (hg : w.grownBy w' none) : RAt w' rb B st :=
  h.fr (S := fun _ => False) (Fr.ofNone hg) (fun e => e) (fun e => e)
theorem RDid.refl {w : World} {rb B : Nat} {st : RS} (h : RAt w rb B st) : RDid w w rb B st := ⟨h, Fr.refl _ _⟩
theorem RDid.trans {w w1 w2 : World} {rb B : Nat} {st st2 : RS} (h : RDid w w1 rb B st) (k : RDid w1 w2 rb B st2) : RDid w w2 rb B st2 := ⟨k.a, h.f.trans k.f⟩
theorem RDid.grown {w w1 w2 : World} {rb B : Nat} {st : RS} (h : RDid w w1 rb B st) (hg : w1.grownBy w2 none) : RDid w w2 rb B st := ⟨h.a.kept hg, h.f.trans (Fr.ofNone hg)⟩
theorem RDid.ahead {w w1 w2 : World} {rb B : Nat} {st : RS} (hg : w.grownBy w1 none) (h : RDid w1 w2 rb B st) : RDid w w2 rb B st := ⟨h.a, (Fr.ofNone hg).trans h.f⟩

theorem rfail_c (rb B : Nat) (st : RS) (e : Int) (w : World) (h : RAt w rb B st) :
    Calls Try.prog 42 #[.pointer (some ⟨rb, 0, none⟩), .int .i64 e] w fun en w' => en = .returned (.tuple #[]) ∧ RDid w w' rb B (st.fail e) := by
  obtain ⟨⟨a, c, h1, h2⟩, h3, h4, h5⟩ := h
  obtain ⟨l, er⟩ := st
  have HH : Keep (Has w rb [.slice a l.length c, .int .i64 er] 55 ∧ rb ≠ B ∧ B < w.heap.size) := ⟨h1, h3, h4⟩
  have c0 : w.cell? ⟨rb, 0, none⟩ = some (.slice a l.length c) := h1.cellv 0 _ rfl
  have c1 : w.cell? ⟨rb, 1, none⟩ = some (.int .i64 er) := h1.cellv 1 _ rfl
  have f0 := h1.frozen 0
  have f1 := h1.frozen 1
  clear h1 h2 h3 h4 h5
  generalize l.length = n at *
  go_enter Try.func42, Try.ntmps42
  by_cases he : er = 0
  · subst he
    go_wp2
    go_end0
    have f2 : Fr (fun i => i = rb) w _ := (Fr.ofSome (S := fun i => i = rb) (gr_set w rb 1 (.int .i64 e)) rfl).trans (Fr.ofSome (S := fun i => i = rb) (gr_set _ rb 0 (.slice none 0 0)) rfl)
    exact ⟨rfl, ⟨⟨none, 0, (HH.out.1.setCell 1 _).setCell 0 _, Bs.none _ _⟩, HH.out.2.1, Nat.lt_of_lt_of_le HH.out.2.2 f2.size, fail_ok _ _⟩, f2⟩
  · go_wp2
    go_end0
    have f2 : Fr (fun i => i = rb) w _ := (Fr.ofSome (S := fun i => i = rb) (gr_set w rb 0 (.slice none 0 0)) rfl)
    have e2 : RS.fail (l, er) e = ([], er) := by unfold RS.fail; rw [if_neg he]
    rw [e2]
    exact ⟨rfl, ⟨⟨none, 0, HH.out.1.setCell 0 _, Bs.none _ _⟩, HH.out.2.1, Nat.lt_of_lt_of_le HH.out.2.2 f2.size, fun _ => rfl⟩, f2⟩

set_option maxRecDepth 100000 in
theorem rtake_c (rb B : Nat) (st : RS) (n : Int) (w : World) (h : RAt w rb B st) :
    Calls Try.prog 35 #[.pointer (some ⟨rb, 0, none⟩), .int .i64 n] w fun en w' => ∃ a c, en = .returned (.slice a (rTake st n).1.length c) ∧ Bs w' B a (rTake st n).1.length c (rTake st n).1 ∧ RDid w w' rb B (rTake st n).2 := by
  have HH : Keep (RAt w rb B st) := ⟨h⟩
  obtain ⟨⟨a, c, h1, h2⟩, h3, h4, h5⟩ := h
  obtain ⟨l, er⟩ := st
  have c0 : w.cell? ⟨rb, 0, none⟩ = some (.slice a l.length c) := h1.cellv 0 _ rfl
  have f0 := h1.frozen 0
  have HB : Keep (Has w rb [.slice a l.length c, .int .i64 er] 55 ∧ Bs w B a l.length c l ∧ rb ≠ B ∧ B < w.heap.size ∧ RS.ok (l, er)) := ⟨h1, h2, h3, h4, h5⟩
  clear h1 h2 h3 h4 h5
  go_enter Try.func35, Try.ntmps35
  by_cases hn : n < 0
  · have HE : Keep (rTake (l, er) n = ([], RS.fail (l, er) 51)) := ⟨by unfold rTake; rw [if_pos hn]⟩
    go_wp2_with fail
    refine (rfail_c rb B _ 51 w HH.out).mono ?_
    rintro e w1 ⟨rfl, d1⟩
    have HD : Keep (RDid w w1 rb B (RS.fail (l, er) 51)) := ⟨d1⟩
    clear d1
    go_wp2
    go_ret
    rw [HE.out]
    exact ⟨none, 0, rfl, Bs.none _ _, HD.out⟩
  · by_cases hl : (l.length : Int) < n
    · have HE : Keep (rTake (l, er) n = ([], RS.fail (l, er) 50)) := ⟨by unfold rTake; rw [if_neg hn, if_pos hl]⟩
      go_wp2_with fail
      refine (rfail_c rb B _ 50 w HH.out).mono ?_
      rintro e w1 ⟨rfl, d1⟩
      have HD : Keep (RDid w w1 rb B (RS.fail (l, er) 50)) := ⟨d1⟩
      clear d1
      go_wp2
      go_ret
      rw [HE.out]
      exact ⟨none, 0, rfl, Bs.none _ _, HD.out⟩
    · obtain ⟨k, rfl⟩ : ∃ k : Nat, n = k := ⟨n.toNat, by omega⟩
      have hk : k ≤ l.length := by omega
      have HE : Keep (rTake (l, er) k = (l.take k, (l.drop k, er))) := ⟨by unfold rTake; rw [if_neg hn, if_neg hl]; rfl⟩
      have s1 := sl_h a l.length c k (by have := HB.out.2.1.cap; omega)
      obtain ⟨A1, s2, s3⟩ := sl_l B a l.length c k hk HB.out.2.1.cap
      have HS : Keep (∀ (w : World) (q : List UInt8), Bs w B a l.length c q → Bs w B A1 (l.length - k) (c - k) (q.drop k)) := ⟨s3⟩
      have HK : Keep (k ≤ l.length) := ⟨hk⟩
      clear s3
      generalize hln : l.length = ln at *
      have HL : Keep (l.length = ln) := ⟨hln⟩
      clear hln
      have hlt : ¬ ((ln : Int) < (k : Int)) := hl
      clear hl hk
      go_wp2_with fail
      go_ret
      have f2 : Fr (fun i => i = rb) w _ := Fr.ofSome (S := fun i => i = rb) (gr_set w rb 0 (.slice A1 (ln - k) (c - k))) rfl
      have e1 : (l.take k).length = k := by rw [List.length_take, HL.out]; have := HK.out; omega
      have e2 : (l.drop k).length = ln - k := by rw [List.length_drop, HL.out]
      obtain ⟨q1, q2, q3, q4, q5⟩ := HB.out
      have hs : ¬ B = rb := fun e => q3 e.symm
      rw [HE.out]
      simp only [e1]
      refine ⟨a, c, rfl, (q2.take HK.out).fr f2 hs, ⟨⟨A1, c - k, ?_, ?_⟩, q3, Nat.lt_of_lt_of_le q4 f2.size, ?_⟩, f2⟩
      · simp only [e2]; exact q1.setCell 0 _
      · simp only [e2]; exact (HS.out _ _ q2).fr f2 hs
      · intro e; have : l = [] := q5 e; simp [this]
end Go.Proofs.Ytkddfnglonofoaa
