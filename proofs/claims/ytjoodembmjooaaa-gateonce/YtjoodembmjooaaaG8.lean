/- rows of structs of the call's own; who waits, as the law keeps it; legal. -/
import Derived.Test.YtjoodembmjooaaaG6
namespace Go.Proofs.Ytjoodembmjooaaa
open Go Go.RowKit Go.Maps

section
variable {α : Type} {enc : α → List Value} {k : Nat}
def fl (enc : α → List Value) (L : List α) : List Value := L.flatMap enc
theorem fl_len (hk : ∀ x, (enc x).length = k) : ∀ (L : List α), (fl enc L).length = L.length * k
  | [] => by simp [fl]
  | a :: r => by
    have ih := fl_len hk r
    rw [show fl enc (a :: r) = enc a ++ fl enc r by simp [fl], List.length_append, ih, hk, List.length_cons, Nat.succ_mul]
    omega
theorem fl_app (A B : List α) : fl enc (A ++ B) = fl enc A ++ fl enc B := by simp [fl]
theorem fl_get (hk : ∀ x, (enc x).length = k) : ∀ (L : List α) (j : Nat) (x : α) (r : Nat) (v : Value), L[j]? = some x → (enc x)[r]? = some v → (fl enc L)[j * k + r]? = some v
  | [], j, x, r, v, h, _ => by simp at h
  | c :: M, 0, x, r, v, h, hv => by
    obtain rfl : c = x := by simpa using h
    rw [show fl enc (c :: M) = enc c ++ fl enc M by simp [fl], Nat.zero_mul, Nat.zero_add, List.getElem?_append_left (List.getElem?_eq_some_iff.1 hv).1]
    exact hv
  | c :: M, j + 1, x, r, v, h, hv => by
    rw [show fl enc (c :: M) = enc c ++ fl enc M by simp [fl], List.getElem?_append_right (by rw [hk, Nat.succ_mul]; omega), hk, show (j + 1) * k + r - k = j * k + r by rw [Nat.succ_mul]; omega]
    exact fl_get hk M j x r v (by simpa using h) hv
theorem fl_mid (hk : ∀ x, (enc x).length = k) (L : List α) (j : Nat) (hj : j < L.length) (x : α) : fl enc (L.set j x) = (fl enc L).take (j * k) ++ enc x ++ (fl enc L).drop (j * k + k) := by
  obtain ⟨A, y, B, rfl, hA⟩ : ∃ A y B, L = A ++ y :: B ∧ A.length = j := ⟨L.take j, L[j], L.drop (j + 1), by rw [← List.drop_eq_getElem_cons hj, List.take_append_drop], by rw [List.length_take]; omega⟩
  have hl : (fl enc A).length = j * k := by rw [fl_len hk, hA]
  have e3 : fl enc (A ++ y :: B) = fl enc A ++ (enc y ++ fl enc B) := by rw [fl_app]; simp [fl]
  have e4 : fl enc (A ++ x :: B) = fl enc A ++ (enc x ++ fl enc B) := by rw [fl_app]; simp [fl]
  rw [List.set_append_right _ _ (by omega), hA, Nat.sub_self, List.set_cons_zero, e3, e4]
  rw [List.take_append_of_le_length (by omega), List.take_of_length_le (by omega), List.drop_append, List.drop_of_length_le (by omega), hl, show j * k + k - j * k = k by omega, List.drop_append, List.drop_of_length_le (by rw [hk]; omega), hk, Nat.sub_self, List.drop_zero]
  simp
theorem fl_over (hk : ∀ x, (enc x).length = k) (L : List α) (j : Nat) (hj : j < L.length) (x : α) : over (fl enc L) (j * k) (enc x) = fl enc (L.set j x) := by
  have hjk : j * k + k ≤ L.length * k := by rw [← Nat.succ_mul]; exact Nat.mul_le_mul_right k hj
  rw [over_eq _ _ _ (by rw [hk, fl_len hk]; exact hjk), hk]
  exact (fl_mid hk L j hj x).symm
theorem fl_take (hk : ∀ x, (enc x).length = k) (L : List α) (m : Nat) (hm : m ≤ L.length) : (fl enc L).take (m * k) = fl enc (L.take m) := by
  have e : fl enc L = fl enc (L.take m) ++ fl enc (L.drop m) := by rw [← fl_app, List.take_append_drop]
  rw [e, List.take_append_of_le_length (by rw [fl_len hk, List.length_take, Nat.min_eq_left hm]; exact Nat.le_refl _), List.take_of_length_le (by rw [fl_len hk, List.length_take, Nat.min_eq_left hm]; exact Nat.le_refl _)]
theorem Sep.rowSetsAt {w0 : World} {l : List As} {e : TypeId} {s g n c : Nat} : ∀ (vs : List Value) (W : World) (xs : List Value) (o : Nat), Sep w0 W (rowV e s (sl g n c) n xs :: l) → Sep w0 (W.setCells g o vs) (rowV e s (sl g n c) n (over xs o vs) :: l)
  | [], _, _, _, h => h
  | v :: r, _, _, o, h => Sep.rowSetsAt r _ _ _ (h.rowSet o v)
theorem row_there {w : World} {e : TypeId} {g n c o : Nat} {xs : List Value} (h : w.ownsRow 0 e k (sl g n c) n xs) (hn : 0 < n) (m : Nat) (hm : o + m ≤ n * k) : w.there g o m := by
  intro j hj
  have hl := h.1
  obtain ⟨g', c', e1, q⟩ := own_any h hn
  injection e1 with e1 _ _
  injection e1 with e1
  injection e1 with e1 _ _
  subst e1
  have hjl : o + j < xs.length := by omega
  exact ⟨by rw [(q (o + j) _ (List.getElem?_eq_getElem hjl)).1]; rfl, (q (o + j) _ (List.getElem?_eq_getElem hjl)).2⟩
theorem store_row {ops : Array Oper} {rest : List Oper} {op : Oper} {a : Act} {Q : Exit → Act → World → Prop} (hk : ∀ x, (enc x).length = k) (w3 : World) (g n c j : Nat) (L : List α) (x : α) (e T : TypeId) (hgd : op.guard = none) {X Y : Operand} (ho : op.op = .store T X Y)
    (hx : a.eval X = .pointer (some ⟨g, j * k, none⟩)) (hy : a.eval Y = .agg (enc x).toArray) (hh : w3.ownsRow 0 e k (sl g n c) n (fl enc L)) (hL : L.length = n) (hj : j < n) (hi : (Try.prog.info? T).map (·.size) = some k) (h1 : ∀ u ∈ enc x, u.oneCell' = true)
    (h : ∀ w6, (∀ w0 l, Sep w0 w3 (rowV e k (sl g n c) n (fl enc L) :: l) → Sep w0 w6 (rowV e k (sl g n c) n (fl enc (L.set j x)) :: l)) → w3.grownBy w6 (some g) → wpList Try.prog ops Q rest (a.put op.dst undef) w6) : wpList Try.prog ops Q (op :: rest) a w3 := by
  have hjk : j * k + k ≤ n * k := by rw [← Nat.succ_mul]; exact Nat.mul_le_mul_right k hj
  have hsz : (enc x).toArray.size = k := by simp [hk]
  refine wpList_store_mid hgd T X Y ho g (j * k) (enc x).toArray hx hy ?_ ?_ (all_oneCell_toArray h1) ?_
  · rw [hsz]; exact row_there hh (by omega) k hjk
  · rw [hsz]; exact hi
  · refine h _ (fun w0 l hS => ?_) (gr_sets _ _ _ _)
    have q := Sep.rowSetsAt (enc x) w3 _ (j * k) hS
    rw [fl_over hk L j (by omega) x] at q
    exact q
theorem Sep.rowCut {w0 W : World} {l : List As} {e : TypeId} {g n c : Nat} {L : List α} (hk : ∀ x, (enc x).length = k) (hL : L.length = n) (m : Nat) (hm : m ≤ n) (h : Sep w0 W (rowV e k (sl g n c) n (fl enc L) :: l)) : Sep w0 W (rowV e k (sl g m c) m (fl enc (L.take m)) :: l) := by
  obtain ⟨F, ⟨ho, rfl⟩, _, hu⟩ := h.use
  refine hu W [_] (Fr.refl _ W) (Loc.one (a := rowV _ _ _ _ _) _ ⟨?_, rfl⟩ (fun i hi => .inl hi))
  obtain ⟨h1, h2⟩ := ho
  refine ⟨by rw [fl_len hk, List.length_take, hL, Nat.min_eq_left hm], .inr ?_⟩
  rcases h2 with ⟨q, _⟩ | ⟨g', cap, cur, q, q1, q2, q3, q4, q5, q6⟩
  · cases q
  · injection q with e1 e2 e3
    subst e3
    refine ⟨g', c, cur, by cases e1; rfl, q1, q2, by omega, q4, q5, ?_⟩
    rw [← fl_take hk L m (by omega), ← q6, List.take_take, Nat.min_eq_left (Nat.mul_le_mul_right k hm)]
end

/-- what is laid by a step -/
def lgS (s : Stp) : Itn := lgl s.pl s.c
theorem lgS_pl (s : Stp) : (lgS s).pl = s.pl := rfl
/-- who waits in the law's list W waits in the gate -/
structure Wtr (W : List Stp) (G : List Itn) : Prop where
  len : G.length = W.length
  nd : W.Pairwise (fun a b => a.pl ≠ b.pl)
  mem : ∀ y, y ∈ G ↔ ∃ s ∈ W, y = lgS s
theorem Wtr.nil : Wtr [] [] := ⟨rfl, List.Pairwise.nil, fun y => by simp⟩
theorem Wtr.look_none {W : List Stp} {G : List Itn} (h : Wtr W G) {p : Int} (hn : ∀ s ∈ W, s.pl ≠ p) : look G p = none := Go.Proofs.Ytjoodembmjooaaa.look_none.2 fun x hx => by
  obtain ⟨s, hs, rfl⟩ := (h.mem x).1 hx
  exact hn s hs
theorem Wtr.look_some {W : List Stp} {G : List Itn} (h : Wtr W G) {s : Stp} (hs : s ∈ W) : (look G s.pl).isSome = true := by
  cases hl : look G s.pl with
  | some x => rfl
  | none => exact absurd rfl (Go.Proofs.Ytjoodembmjooaaa.look_none.1 hl (lgS s) ((h.mem _).2 ⟨s, hs, rfl⟩))
theorem Wtr.add {W : List Stp} {G : List Itn} (h : Wtr W G) (x : Stp) (hn : ∀ s ∈ W, s.pl ≠ x.pl) : Wtr (W ++ [x]) (ofX G x.pl x.c) := by
  have e : ofX G x.pl x.c = ins (lgS x) G := by
    unfold ofX
    rw [h.look_none hn]; rfl
  rw [e]
  refine ⟨by rw [len_ins, h.len, List.length_append]; rfl, List.pairwise_append.2 ⟨h.nd, List.pairwise_singleton _ _, fun a ha b hb => by rw [List.mem_singleton.1 hb]; exact hn a ha⟩, fun y => ?_⟩
  rw [mem_ins, h.mem]
  constructor
  · rintro (rfl | ⟨s, hs, rfl⟩)
    · exact ⟨x, by simp, rfl⟩
    · exact ⟨s, by simp [hs], rfl⟩
  · rintro ⟨s, hs, rfl⟩
    rcases List.mem_append.1 hs with hs | hs
    · exact .inr ⟨s, hs, rfl⟩
    · rw [List.mem_singleton.1 hs]; exact .inl rfl
theorem Wtr.there {W : List Stp} {G : List Itn} (h : Wtr W G) {s : Stp} (hs : s ∈ W) (c : Cmd) : ofX G s.pl c = G := by
  unfold ofX
  rw [h.look_some hs]; rfl
/-- the last one laid over number j, and cut off -/
def rmAt (W : List Stp) (j : Nat) (z : Stp) : List Stp := (W.set j z).take (W.length - 1)
theorem rmAt_perm (W : List Stp) (j : Nat) (x z : Stp) (hx : W[j]? = some x) (hz : W[W.length - 1]? = some z) : (x :: rmAt W j z).Perm W := by
  have hj := (List.getElem?_eq_some_iff.1 hx).1
  obtain ⟨V, rfl⟩ : ∃ V, W = V ++ [z] := by
    refine ⟨W.dropLast, ?_⟩
    have hne : W ≠ [] := by intro e; rw [e] at hj; simp at hj
    have e1 := List.dropLast_concat_getLast hne
    rw [List.getLast_eq_getElem] at e1
    have e2 : W[W.length - 1]'(by omega) = z := by
      have := (List.getElem?_eq_some_iff.1 hz).2
      exact this
    rw [e2] at e1
    exact e1.symm
  have hl : (V ++ [z]).length - 1 = V.length := by simp
  unfold rmAt
  rw [hl]
  by_cases hjv : j < V.length
  · obtain ⟨A, B, rfl, hA⟩ : ∃ A B, V = A ++ x :: B ∧ A.length = j := by
      rw [List.getElem?_append_left hjv] at hx
      obtain ⟨_, e⟩ := List.getElem?_eq_some_iff.1 hx
      refine ⟨V.take j, V.drop (j + 1), ?_, by rw [List.length_take]; omega⟩
      rw [← e, ← List.drop_eq_getElem_cons hjv, List.take_append_drop]
    have e1 : ((A ++ x :: B ++ [z]).set j z).take (A ++ x :: B).length = A ++ z :: B := by
      rw [List.append_assoc, List.set_append_right _ _ (by omega), hA, Nat.sub_self]
      simp only [List.cons_append, List.set_cons_zero]
      rw [show A ++ z :: (B ++ [z]) = (A ++ z :: B) ++ [z] by simp, List.take_append_of_le_length (by simp), List.take_of_length_le (by simp)]
    rw [e1]
    have p1 : (x :: (A ++ z :: B)).Perm (x :: z :: (A ++ B)) := List.Perm.cons x List.perm_middle
    have p2 : (A ++ x :: B ++ [z]).Perm (x :: z :: (A ++ B)) := by
      rw [show A ++ x :: B ++ [z] = A ++ x :: (B ++ [z]) by simp]
      refine List.perm_middle.trans (List.Perm.cons x ?_)
      rw [← List.append_assoc]
      exact List.perm_append_singleton z (A ++ B)
    exact p1.trans p2.symm
  · have hjv2 : j = V.length := by simp at hj; omega
    have hxz : x = z := by
      rw [hl] at hz
      rw [hjv2] at hx
      rw [hx] at hz
      exact Option.some.inj hz
    subst hxz
    rw [List.set_append_right _ _ (by omega), hjv2, Nat.sub_self]
    simp only [List.set_cons_zero]
    rw [List.take_append_of_le_length (Nat.le_refl _), List.take_of_length_le (Nat.le_refl _)]
    exact (List.perm_append_singleton x V).symm
theorem Wtr.del {W : List Stp} {G : List Itn} (h : Wtr W G) (hg : Gok G) {j : Nat} {x z : Stp} (hx : W[j]? = some x) (hz : W[W.length - 1]? = some z) : Wtr (rmAt W j z) (rmk G x.pl) := by
  have hp := rmAt_perm W j x z hx hz
  have hnd : (x :: rmAt W j z).Pairwise (fun a b => a.pl ≠ b.pl) := (hp.pairwise_iff (fun {_ _} q => Ne.symm q)).2 h.nd
  obtain ⟨n1, n2⟩ := List.pairwise_cons.1 hnd
  have hxm : x ∈ W := List.mem_of_getElem? hx
  obtain ⟨y, hy⟩ := Option.isSome_iff_exists.1 (h.look_some hxm)
  refine ⟨?_, n2, fun y => ?_⟩
  · have := rmk_len hg.1.ne hy
    have := hp.length_eq
    have := h.len
    simp at *
    omega
  · rw [mem_rmk, h.mem]
    constructor
    · rintro ⟨⟨s, hs, rfl⟩, hne⟩
      rcases List.mem_cons.1 (hp.mem_iff.2 hs) with rfl | hs
      · exact absurd rfl hne
      · exact ⟨s, hs, rfl⟩
    · rintro ⟨s, hs, rfl⟩
      exact ⟨⟨s, hp.mem_iff.1 (List.mem_cons_of_mem _ hs), rfl⟩, (n1 s hs).symm⟩
theorem Wtr.del_none {W : List Stp} {G : List Itn} (h : Wtr W G) {p : Int} (hn : ∀ s ∈ W, s.pl ≠ p) : rmk G p = G := rmk_none (h.look_none hn)
/-- whose the intent is -/
theorem Wtr.of {W : List Stp} {G : List Itn} (h : Wtr W G) {k : Nat} {y : Itn} (hy : G[k]? = some y) : ∃ (j : Nat) (s : Stp), W[j]? = some s ∧ y = lgS s ∧ ∀ (i : Nat) (s' : Stp), W[i]? = some s' → i ≠ j → y.pl ≠ s'.pl := by
  obtain ⟨s, hs, rfl⟩ := (h.mem y).1 (List.mem_of_getElem? hy)
  obtain ⟨j, hj, e⟩ := List.getElem_of_mem hs
  refine ⟨j, s, by rw [List.getElem?_eq_getElem hj, e], rfl, fun i s' hi hne => ?_⟩
  obtain ⟨hi1, e2⟩ := List.getElem?_eq_some_iff.1 hi
  have hpw := List.pairwise_iff_getElem.1 h.nd
  rw [lgS_pl, ← e, ← e2]
  rcases Nat.lt_or_gt_of_ne hne with q | q
  · exact (hpw i j hi1 hj q).symm
  · exact hpw j i hj hi1 q

theorem kp_cases (x m : Int) (h0 : 0 ≤ m) : (x < -m ∧ kp x m = -m) ∨ (m < x ∧ kp x m = m) ∨ (-m ≤ x ∧ x ≤ m ∧ kp x m = x) := by
  unfold kp
  omega
set_option maxRecDepth 100000 in
set_option maxHeartbeats 8000000 in
theorem bounds_c (x m lo : Int) (h0 : 0 < m) (hlo : lo = -m) (w : World) : Calls Try.prog 24 #[iv (kp x m), iv x, iv lo, iv m] w fun e w' => e = .returned (.bool true) ∧ w' = w := by
  rcases kp_cases x m (by omega) with ⟨h1, e⟩ | ⟨h1, e⟩ | ⟨h1, h2, e⟩
  · rw [e, ← hlo]
    have n1 : decide (lo ≤ lo) = true := by simp
    have n2 : decide (lo ≤ m) = true := decide_eq_true (by omega)
    have n3 : (lo == x) = false := by simp; omega
    have n4 : decide (x < lo) = true := decide_eq_true (by omega)
    clear e hlo h0 h1
    go_enter Try.func24, Try.ntmps24
    go_wp2_with fail
    go_ret
    exact ⟨by simp, rfl⟩
  · rw [e]
    have n1 : decide (lo ≤ m) = true := decide_eq_true (by omega)
    have n2 : decide (m ≤ m) = true := by simp
    have n3 : (m == x) = false := by simp; omega
    have n4 : decide (x < lo) = false := decide_eq_false (by omega)
    have n5 : decide (m < x) = true := decide_eq_true (by omega)
    clear e hlo h0 h1
    go_enter Try.func24, Try.ntmps24
    go_wp2_with fail
    go_ret
    exact ⟨by simp, rfl⟩
  · rw [e]
    have n1 : decide (lo ≤ x) = true := decide_eq_true (by omega)
    have n2 : decide (x ≤ m) = true := decide_eq_true (by omega)
    clear e hlo h0 h1 h2
    go_enter Try.func24, Try.ntmps24
    go_wp2_with fail
    go_ret
    exact ⟨by simp, rfl⟩
set_option maxRecDepth 100000 in
set_option maxHeartbeats 8000000 in
theorem legal_yes (w : World) (p : Int) (c : Cmd) : Calls Try.prog 14 #[.agg #[iv p, iv (kp c.th 100), iv (kp c.tu 8), .bool c.fi, .bool c.bo], iv p, .agg #[iv c.th, iv c.tu, .bool c.fi, .bool c.bo]] w fun e w' => e = .returned (.bool true) ∧ w.grownBy w' none := by
  have b1 := Keep.mk (fun W => bounds_c c.th 100 (-100) (by omega) rfl W)
  have b2 := Keep.mk (fun W => bounds_c c.tu 8 (-8) (by omega) rfl W)
  generalize kp c.th 100 = a1 at *
  generalize kp c.tu 8 = a2 at *
  have n0 : (p == p) = true := by simp
  have n1 : (c.fi == c.fi) = true := by simp
  have n2 : (c.bo == c.bo) = true := by simp
  have hg : ∀ (o1 o2 : Obj), w.grownBy ((w.alloc o1).alloc o2) none := fun o1 o2 => (World.grownBy_alloc w o1 none).trans (World.grownBy_alloc _ o2 none)
  have HG := Keep.mk hg
  clear hg
  go_enter Try.func14, Try.ntmps14
  go_wp2_with fail
  refine (b1.out _).mono ?_
  rintro e w1 ⟨rfl, rfl⟩
  go_wp2_with fail
  refine (b2.out _).mono ?_
  rintro e w1 ⟨rfl, rfl⟩
  go_wp2_with fail
  go_ret
  exact ⟨by simp, HG.out _ _⟩
set_option maxRecDepth 100000 in
set_option maxHeartbeats 8000000 in
theorem legal_no (w : World) (y : Itn) (p : Int) (c : Cmd) (hp : y.pl ≠ p) : Calls Try.prog 14 #[.agg #[iv y.pl, iv y.th, iv y.tu, .bool y.fi, .bool y.bo], iv p, .agg #[iv c.th, iv c.tu, .bool c.fi, .bool c.bo]] w fun e w' => e = .returned (.bool false) ∧ w.grownBy w' none := by
  have n0 : (y.pl == p) = false := by simp [hp]
  have hg : ∀ (o1 o2 : Obj), w.grownBy ((w.alloc o1).alloc o2) none := fun o1 o2 => (World.grownBy_alloc w o1 none).trans (World.grownBy_alloc _ o2 none)
  have HG := Keep.mk hg
  clear hg hp
  go_enter Try.func14, Try.ntmps14
  go_wp2_with fail
  go_ret
  exact ⟨by simp, HG.out _ _⟩
end Go.Proofs.Ytjoodembmjooaaa
