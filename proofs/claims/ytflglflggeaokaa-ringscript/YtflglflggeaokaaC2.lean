/- RingFresh's state: two rings, rows of the call's own. -/
import Derived.Test.YtflglflggeaokaaC1
import Derived.Test.YtflglflggeaokaaSA3
import Derived.Test.YtflglflggeaokaaSA4
import Derived.ArgAppend
namespace Go.Proofs.Ytflglflggeaokaa
open Go Go.RowKit

def upd (B : Nat → Option (List Value)) (b : Nat) (cs : List Value) : Nat → Option (List Value) := fun i => if i = b then some cs else B i
theorem upd_same (B : Nat → Option (List Value)) (b : Nat) (cs : List Value) : upd B b cs b = some cs := by simp [upd]
theorem upd_ne {B : Nat → Option (List Value)} {b i : Nat} {cs : List Value} (h : i ≠ b) : upd B b cs i = B i := by simp [upd, h]

structure FS (w W : World) (rb sb : Nat) (v : Value) (sz : Nat) (Q : List Int) (B : Nat → Option (List Value)) : Prop where
  r : RingAt W rb v sz Q
  s : Str.RingAt W sb (.slice none 0 0) 2 []
  b : ∀ i cs, B i = some cs → Has W i cs 3 ∧ ¬ RF rb v i ∧ i ≠ sb ∧ w.heap.size ≤ i
  rs : ¬ RF rb v sb
  lo : ∀ i, RF rb v i → w.heap.size ≤ i
  so : w.heap.size ≤ sb
  g : w.grownBy W none

theorem str_nil_fr {S : Nat → Prop} {W W' : World} {sb : Nat} (h : Str.RingAt W sb (.slice none 0 0) 2 []) (f : Fr S W W') (hs : ¬ S sb) : Str.RingAt W' sb (.slice none 0 0) 2 [] :=
  h.fr f (fun i hi => by rcases hi with rfl | hi; exact hs; cases hi)
theorem FS.grown {w W W' : World} {rb sb : Nat} {v : Value} {sz : Nat} {Q : List Int} {B : Nat → Option (List Value)} (h : FS w W rb sb v sz Q B) (hg : W.grownBy W' none) : FS w W' rb sb v sz Q B :=
  ⟨h.r.kept hg, str_nil_fr h.s (Fr.ofNone (S := fun _ => False) hg) (fun e => e), fun i cs e => ⟨(h.b i cs e).1.kept hg (by simp), (h.b i cs e).2⟩, h.rs, h.lo, h.so, h.g.trans hg⟩
theorem FS.add {w W W' : World} {rb sb : Nat} {v : Value} {sz : Nat} {Q : List Int} {B : Nat → Option (List Value)} (h : FS w W rb sb v sz Q B) (hg : W.grownBy W' none) {b : Nat} {cs : List Value} (hb : Has W' b cs 3) (hlt : W.heap.size ≤ b) : FS w W' rb sb v sz Q (upd B b cs) := by
  have h2 := h.grown hg
  have hr := h.r.lt
  have hs : sb < W.heap.size := by obtain ⟨f, P, hh, _⟩ := h.s.st; exact hh.lt
  have := h.g.size
  refine ⟨h2.r, h2.s, fun i cs' e => ?_, h2.rs, h2.lo, h2.so, h2.g⟩
  by_cases hi : i = b
  · subst hi
    rw [upd_same] at e
    cases e
    exact ⟨hb, fun e => by have := hr _ e; omega, by omega, by omega⟩
  · rw [upd_ne hi] at e
    exact h2.b i cs' e
theorem FS.put {w W : World} {rb sb : Nat} {v : Value} {sz : Nat} {Q : List Int} {B : Nat → Option (List Value)} (h : FS w W rb sb v sz Q B) {b : Nat} {cs : List Value} (hb : B b = some cs) (j : Nat) (x : Value) : FS w (W.setCell ⟨b, j, none⟩ x) rb sb v sz Q (upd B b (cs.set j x)) := by
  obtain ⟨h1, h2, h3, h4⟩ := h.b b cs hb
  have f : Fr (fun i => i = b) W (W.setCell ⟨b, j, none⟩ x) := Fr.ofSome (gr_set _ _ _ _) rfl
  refine ⟨h.r.fr f (fun i hi e => h2 (e ▸ hi)), str_nil_fr h.s f (fun e => h3 e.symm), fun i cs' e => ?_, h.rs, h.lo, h.so, fr_mine h.g f (fun i e => e ▸ h4)⟩
  by_cases hi : i = b
  · subst hi
    rw [upd_same] at e
    cases e
    exact ⟨h1.setCell j x, h2, h3, h4⟩
  · rw [upd_ne hi] at e
    obtain ⟨k1, k2⟩ := h.b i cs' e
    exact ⟨k1.fr f hi, k2⟩
/-- the ring turned -/
theorem FS.ring {w W W' : World} {rb sb : Nat} {v v' : Value} {sz : Nat} {Q Q' : List Int} {B : Nat → Option (List Value)} (h : FS w W rb sb v sz Q B) (r : RingAt W' rb v' sz Q') (f : Fr (RF rb v) W W') (hv : ∀ k, v'.ownBlock = some k → v.ownBlock = some k ∨ W.heap.size ≤ k) : FS w W' rb sb v' sz Q' B := by
  have hsz := h.g.size
  have hs : sb < W.heap.size := by obtain ⟨f, P, hh, _⟩ := h.s.st; exact hh.lt
  have key : ∀ k, RF rb v' k → RF rb v k ∨ W.heap.size ≤ k := fun k hk => by
    rcases hk with e | e
    · exact .inl (.inl e)
    · rcases hv k e with q | q
      · exact .inl (.inr q)
      · exact .inr q
  refine ⟨r, str_nil_fr h.s f h.rs, fun i cs e => ?_, fun e => ?_, fun i hi => ?_, h.so, fr_mine h.g f h.lo⟩
  · obtain ⟨k1, k2, k3⟩ := h.b i cs e
    exact ⟨k1.fr f k2, fun q => by rcases key i q with q | q; exact k2 q; have := k1.lt; omega, k3⟩
  · rcases key sb e with q | q
    · exact h.rs q
    · omega
  · rcases key i hi with q | q
    · exact h.lo i q
    · omega
theorem fs_push {w W : World} {rb sb : Nat} {v : Value} {sz : Nat} {Q : List Int} {B : Nat → Option (List Value)} (h : FS w W rb sb v sz Q B) (x : Int) (hl : Q.length < sz) :
    Calls Try.prog 11 #[.pointer (some ⟨rb, 0, none⟩), .int .i64 x] W fun e w' => e = .returned (.int .i64 0) ∧ ∃ v', FS w w' rb sb v' sz (Q ++ [x]) B := by
  refine (push_c rb v sz Q x W h.r hl).mono ?_
  rintro e w' ⟨rfl, v', p⟩
  exact ⟨rfl, v', h.ring p.r p.f p.n⟩
theorem fs_take {w W : World} {rb sb : Nat} {v : Value} {sz : Nat} {Q : List Int} {B : Nat → Option (List Value)} (h : FS w W rb sb v sz Q B) (n : Int) (k : Nat) (hk : k = (min n (Q.length : Nat)).toNat) :
    Calls Try.prog 12 #[.pointer (some ⟨rb, 0, none⟩), .int .i64 n] W fun e w' => e = .returned (.slice (some ⟨W.heap.size, 0, none⟩) k k) ∧ FS w w' rb sb v sz (Q.drop k) (upd B W.heap.size ((Q.take k).map iv)) := by
  refine (take_c rb v sz Q n k W h.r hk).mono ?_
  rintro e w' ⟨rfl, t⟩
  refine ⟨rfl, ?_⟩
  have h2 := h.ring t.r t.f (fun _ e => .inl e)
  have hr := h.r.lt
  have hs : sb < W.heap.size := by obtain ⟨f, P, hh, _⟩ := h.s.st; exact hh.lt
  have := h.g.size
  refine ⟨h2.r, h2.s, fun i cs' e => ?_, h2.rs, h2.lo, h2.so, h2.g⟩
  by_cases hi : i = W.heap.size
  · subst hi
    rw [upd_same] at e
    cases e
    exact ⟨t.h, fun e => by have := hr _ e; omega, by omega, by omega⟩
  · rw [upd_ne hi] at e
    exact h2.b i cs' e
/-- marks over the first k of xs -/
def marks (m : Int) (xs : List Int) (k : Nat) : List Value := ((List.replicate k m ++ xs.drop k).map iv)
theorem marks_zero (m : Int) (xs : List Int) : marks m xs 0 = xs.map iv := by simp [marks]
theorem marks_succ (m : Int) (xs : List Int) (k : Nat) (h : k < xs.length) : (marks m xs k).set k (.int .i64 m) = marks m xs (k + 1) := by
  unfold marks
  rw [show (Value.int .i64 m) = iv m from rfl, ← List.map_set, List.set_append_right _ _ (by simp), List.length_replicate, Nat.sub_self, List.drop_eq_getElem_cons h, List.set_cons_zero, List.replicate_succ']
  simp
theorem marks_all (m : Int) (xs : List Int) (n : Nat) (h : xs.length = n) : marks m xs n = (List.replicate n m).map iv := by
  unfold marks; rw [List.drop_of_length_le (by omega), List.append_nil]
theorem marks_at (m : Int) (xs : List Int) (k j : Nat) (h1 : k ≤ j) : (marks m xs k)[j]? = (xs[j]?).map iv := by
  unfold marks
  rw [List.getElem?_map, List.getElem?_append_right (by simpa using h1), List.length_replicate, List.getElem?_drop]
  congr 2
  omega
theorem marks_len (m : Int) (xs : List Int) (k : Nat) (h : k ≤ xs.length) : (marks m xs k).length = xs.length := by simp [marks]; omega
theorem upd_upd (B : Nat → Option (List Value)) (b : Nat) (cs ds : List Value) : upd (upd B b cs) b ds = upd B b ds := by
  funext i; simp only [upd]; split <;> rfl

theorem gr_row' {w w1 w2 : World} {row : Option Nat} (h : w.grownBy w1 none) (k : w1.grownBy w2 row) (hr : ∀ j, row = some j → w.heap.size ≤ j) : w.grownBy w2 none :=
  fr_mine h (Fr.of k) (fun i e => hr i e)
/-- a list that is lengthened by marks: as it was, or a new row -/
structure Lng (w0 w : World) (bx n : Nat) (m : Int) (a : Option Addr) (c k : Nat) : Prop where
  g : w0.grownBy w none
  h : Has w0 bx ((List.replicate n m).map iv) 3
  e : (k = 0 ∧ a = some ⟨bx, 0, none⟩ ∧ c = n) ∨ Row w0 w (.slice a (n + k) c) (List.replicate (n + k) m)
theorem Lng.step {w0 w : World} {bx n : Nat} {m : Int} {a : Option Addr} {c k : Nat} (h : Lng w0 w bx n m a c k) (hn : n + k ≤ 1000000) :
    ∃ a' c' w3, (Builtin.append_ #[22, 22] 22 #[.slice a (n + k) c, .slice (some ⟨w.heap.size, 0, none⟩) 1 1]).run Try.prog (w.alloc (.cells #[.int .i64 m] 3)) = .ok (.slice a' (n + k + 1) c') w3 ∧ Lng w0 w3 bx n m a' c' (k + 1) := by
  have ga := World.grownBy_alloc w (.cells #[.int .i64 m] 3) none
  have hg2 := h.g.trans ga
  have hl := hg2.size
  rcases h.e with ⟨hk, ha, hc⟩ | hrow
  · rw [hk, ha, hc]
    obtain ⟨i, h1, h2, h3, h4⟩ := info3
    have hh := (h.h.kept hg2 (by simp))
    obtain ⟨v', w3, r1, r2, r3⟩ := run_append_arg_grows (P := Try.prog) (w.alloc (.cells #[.int .i64 m] 3)) 22 22 3 i (.int .i64 0) 1 8 under22 h1 h4 h2 h3 rfl (by decide) ⟨bx, 0, none⟩ n n ((List.replicate n m).map iv) (by simp) (fun j u hu => by rw [Addr.add_mid, Nat.zero_add, hh.cell]; exact hu) ⟨w.heap.size, 0, none⟩ 1 1 [iv m] rfl (fun j u hu => by
        rw [Addr.add_mid, Nat.zero_add]
        refine (Has.newA w #[.int .i64 m] 3).cellv j _ ?_
        match j, hu with
        | 0, hu => exact hu
        | j + 1, hu => simp at hu) (by omega) (by unfold maxLen; omega) (by omega)
    have e : (List.replicate n m).map iv ++ [iv m] = (List.replicate (n + 1) m).map iv := by rw [List.replicate_succ']; simp
    rw [e] at r2
    have r2' : Row w0 w3 v' (List.replicate (n + 1) m) := by
      unfold Row
      rw [List.length_replicate]
      obtain ⟨q1, q2⟩ := r2
      refine ⟨q1, ?_⟩
      rcases q2 with q2 | ⟨g, cap, cur, q3, q4, q5⟩
      · exact .inl q2
      · exact .inr ⟨g, cap, cur, q3, by omega, q5⟩
    obtain ⟨a', c', rfl, _⟩ := row_shape r2'
    rw [List.length_replicate] at r1 r2'
    exact ⟨a', c', w3, r1, ⟨hg2.trans r3, h.h, .inr r2'⟩⟩
  · have hr2 : Row w0 (w.alloc (.cells #[.int .i64 m] 3)) (.slice a (n + k) c) (List.replicate (n + k) m) := row_fr hrow (Fr.ofNone (S := fun _ => False) ga) (fun _ _ e => e)
    obtain ⟨a', c', w3, r1, r2, r3, r5⟩ := app22 hr2 w.heap.size 1 1 [m] rfl (row_one w m) (by rw [List.length_replicate]; omega) hl
    rw [List.length_replicate] at r1 r2
    have e : List.replicate (n + k) m ++ [m] = List.replicate (n + k + 1) m := by rw [List.replicate_succ']
    rw [e] at r2
    exact ⟨a', c', w3, r1, ⟨gr_row' hg2 r3 (fun j hj => (hr2.lt j hj).1), h.h, .inr r2⟩⟩

/-- RingFresh's state: the ring's things, the rows -/
structure St (w W : World) (rb sb sz : Nat) (Q : List Int) (R : List (Nat × List Value)) : Prop where
  e : ∃ v B, FS w W rb sb v sz Q B ∧ ∀ p ∈ R, B p.1 = some p.2
theorem St.sub {w W : World} {rb sb sz : Nat} {Q : List Int} {R R' : List (Nat × List Value)} (h : St w W rb sb sz Q R) (hs : ∀ p ∈ R', p ∈ R) : St w W rb sb sz Q R' := by
  obtain ⟨v, B, f, hb⟩ := h.e
  exact ⟨v, B, f, fun p hp => hb p (hs p hp)⟩
theorem St.grown {w W W' : World} {rb sb sz : Nat} {Q : List Int} {R : List (Nat × List Value)} (h : St w W rb sb sz Q R) (hg : W.grownBy W' none) : St w W' rb sb sz Q R := by
  obtain ⟨v, B, f, hb⟩ := h.e
  exact ⟨v, B, f.grown hg, hb⟩
theorem St.drewN {w W : World} {rb sb sz : Nat} {Q : List Int} {R : List (Nat × List Value)} (h : St w W rb sb sz Q R) (k : Nat) : St w (W.drewN k) rb sb sz Q R := h.grown (gr_drewN _ _ _)
theorem St.has {w W : World} {rb sb sz : Nat} {Q : List Int} {R : List (Nat × List Value)} (h : St w W rb sb sz Q R) {b : Nat} {cs : List Value} (hp : (b, cs) ∈ R) : Has W b cs 3 ∧ b < W.heap.size := by
  obtain ⟨v, B, f, hb⟩ := h.e
  have := (f.b b cs (hb _ hp)).1
  exact ⟨this, this.lt⟩
theorem St.g {w W : World} {rb sb sz : Nat} {Q : List Int} {R : List (Nat × List Value)} (h : St w W rb sb sz Q R) : w.grownBy W none := by
  obtain ⟨v, B, f, hb⟩ := h.e
  exact f.g
theorem St.put {w W : World} {rb sb sz : Nat} {Q : List Int} {R : List (Nat × List Value)} {b : Nat} {cs : List Value} (h : St w W rb sb sz Q ((b, cs) :: R)) (hne : ∀ p ∈ R, p.1 ≠ b) (j : Nat) (x : Value) : St w (W.setCell ⟨b, j, none⟩ x) rb sb sz Q ((b, cs.set j x) :: R) := by
  obtain ⟨v, B, f, hb⟩ := h.e
  refine ⟨v, _, f.put (hb (b, cs) (by simp)) j x, fun p hp => ?_⟩
  rcases List.mem_cons.1 hp with rfl | hp
  · exact upd_same _ _ _
  · rw [upd_ne (hne p hp)]; exact hb p (by simp [hp])
theorem St.add {w W W' : World} {rb sb sz : Nat} {Q : List Int} {R : List (Nat × List Value)} (h : St w W rb sb sz Q R) (hg : W.grownBy W' none) {b : Nat} {cs : List Value} (hb : Has W' b cs 3) (hlt : W.heap.size ≤ b) : St w W' rb sb sz Q ((b, cs) :: R) := by
  obtain ⟨v, B, f, hB⟩ := h.e
  refine ⟨v, _, f.add hg hb hlt, fun p hp => ?_⟩
  rcases List.mem_cons.1 hp with rfl | hp
  · exact upd_same _ _ _
  · have := (f.b p.1 p.2 (hB p hp)).1.lt
    rw [upd_ne (by omega)]; exact hB p hp
theorem St.push {w W : World} {rb sb sz : Nat} {Q : List Int} {R : List (Nat × List Value)} (h : St w W rb sb sz Q R) (x : Int) (hl : Q.length < sz) :
    Calls Try.prog 11 #[.pointer (some ⟨rb, 0, none⟩), .int .i64 x] W fun e w' => e = .returned (.int .i64 0) ∧ St w w' rb sb sz (Q ++ [x]) R := by
  obtain ⟨v, B, f, hB⟩ := h.e
  refine (fs_push f x hl).mono ?_
  rintro e w' ⟨rfl, v', f'⟩
  exact ⟨rfl, v', B, f', hB⟩
theorem St.take {w W : World} {rb sb sz : Nat} {Q : List Int} {R : List (Nat × List Value)} (h : St w W rb sb sz Q R) (n : Int) (k : Nat) (hk : k = (min n (Q.length : Nat)).toNat) :
    Calls Try.prog 12 #[.pointer (some ⟨rb, 0, none⟩), .int .i64 n] W fun e w' => e = .returned (.slice (some ⟨W.heap.size, 0, none⟩) k k) ∧ St w w' rb sb sz (Q.drop k) ((W.heap.size, (Q.take k).map iv) :: R) := by
  obtain ⟨v, B, f, hB⟩ := h.e
  refine (fs_take f n k hk).mono ?_
  rintro e w' ⟨rfl, f'⟩
  refine ⟨rfl, v, _, f', fun p hp => ?_⟩
  rcases List.mem_cons.1 hp with rfl | hp
  · exact upd_same _ _ _
  · have := (f.b p.1 p.2 (hB p hp)).1.lt
    rw [upd_ne (by omega)]; exact hB p hp
/-- the lengthened list, as one more row -/
theorem Lng.fin {w W W' : World} {rb sb sz : Nat} {Q : List Int} {R : List (Nat × List Value)} {bx n : Nat} {m : Int} {a : Option Addr} {c k : Nat} (h : St w W rb sb sz Q R) (l : Lng W W' bx n m a c k) (hk : 0 < k) :
    ∃ g cs, a = some ⟨g, 0, none⟩ ∧ W.heap.size ≤ g ∧ St w W' rb sb sz Q ((g, cs) :: R) ∧ ∀ j, j < n + k → cs[j]? = some (.int .i64 m) := by
  rcases l.e with ⟨e, _⟩ | ⟨_, hr⟩
  · omega
  · rcases hr with ⟨e, _⟩ | ⟨g, cap, cur, e, hg, hh, h1, h2, h3, h4⟩
    · injection e with e1 e2 e3; omega
    · injection e with e1 e2 e3
      refine ⟨g, cur.toList, e1, hg, h.add l.g (by unfold Has; rw [hh]) hg, fun j hj => ?_⟩
      rw [List.length_replicate, Nat.mul_one] at h4
      have e : ((List.replicate (n + k) m).map iv)[j]? = some (iv m) := by simp [hj]
      rw [← h4, List.getElem?_take, if_pos hj] at e
      exact e
end Go.Proofs.Ytflglflggeaokaa
