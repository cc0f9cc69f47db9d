/- cars and shots as they lie; stable sorting over lists -/
import Derived.Test.YtgedlabmndlooaaGreatR4
import Derived.Test.YtgedlabmndlooaaGreatV
import Derived.Test.YtgedlabmndlooaaGreatG1
import Derived.Deep.MidRow
namespace Go.Proofs.YtgedlabmndlooaaGreat
open Go Go.RowKit Go.Maps

section
variable {α : Type} {enc : α → List Value} {k : Nat}
def fl (enc : α → List Value) (L : List α) : List Value := L.flatMap enc
theorem fl_len (hk : ∀ x, (enc x).length = k) : ∀ (L : List α), (fl enc L).length = L.length * k
  | [] => by simp [fl]
  | a :: r => by
    have ih := fl_len hk r
    rw [show fl enc (a :: r) = enc a ++ fl enc r by simp [fl], List.length_append, ih, hk, List.length_cons, Nat.succ_mul]
    omega
theorem fl_app (A B : List α) : fl enc (A ++ B) = fl enc A ++ fl enc B := by simp [fl]
theorem fl_get (hk : ∀ x, (enc x).length = k) : ∀ (L : List α) (j : Nat) (x : α) (r : Nat) (v : Value), L[j]? = some x → (enc x)[r]? = some v → (fl enc L)[j * k + r]? = some v
  | [], j, x, r, v, h, _ => by simp at h
  | c :: M, 0, x, r, v, h, hv => by
    obtain rfl : c = x := by simpa using h
    rw [show fl enc (c :: M) = enc c ++ fl enc M by simp [fl], Nat.zero_mul, Nat.zero_add, List.getElem?_append_left (List.getElem?_eq_some_iff.1 hv).1]
    exact hv
  | c :: M, j + 1, x, r, v, h, hv => by
    rw [show fl enc (c :: M) = enc c ++ fl enc M by simp [fl], List.getElem?_append_right (by rw [hk, Nat.succ_mul]; omega), hk, show (j + 1) * k + r - k = j * k + r by rw [Nat.succ_mul]; omega]
    exact fl_get hk M j x r v (by simpa using h) hv
theorem fl_mid (hk : ∀ x, (enc x).length = k) (L : List α) (j : Nat) (hj : j < L.length) (x : α) : fl enc (L.set j x) = (fl enc L).take (j * k) ++ enc x ++ (fl enc L).drop (j * k + k) := by
  obtain ⟨A, y, B, rfl, hA⟩ : ∃ A y B, L = A ++ y :: B ∧ A.length = j := ⟨L.take j, L[j], L.drop (j + 1), by rw [← List.drop_eq_getElem_cons hj, List.take_append_drop], by rw [List.length_take]; omega⟩
  have hl : (fl enc A).length = j * k := by rw [fl_len hk, hA]
  have e3 : fl enc (A ++ y :: B) = fl enc A ++ (enc y ++ fl enc B) := by rw [fl_app]; simp [fl]
  have e4 : fl enc (A ++ x :: B) = fl enc A ++ (enc x ++ fl enc B) := by rw [fl_app]; simp [fl]
  rw [List.set_append_right _ _ (by omega), hA, Nat.sub_self, List.set_cons_zero, e3, e4]
  rw [List.take_append_of_le_length (by omega), List.take_of_length_le (by omega), List.drop_append, List.drop_of_length_le (by omega), hl, show j * k + k - j * k = k by omega, List.drop_append, List.drop_of_length_le (by rw [hk]; omega), hk, Nat.sub_self, List.drop_zero]
  simp
theorem fl_over (hk : ∀ x, (enc x).length = k) (L : List α) (j : Nat) (hj : j < L.length) (x : α) : over (fl enc L) (j * k) (enc x) = fl enc (L.set j x) := by
  have hjk : j * k + k ≤ L.length * k := by rw [← Nat.succ_mul]; exact Nat.mul_le_mul_right k hj
  rw [over_eq _ _ _ (by rw [hk, fl_len hk]; exact hjk), hk]
  exact (fl_mid hk L j hj x).symm
theorem fl_take (hk : ∀ x, (enc x).length = k) (L : List α) (m : Nat) (hm : m ≤ L.length) : (fl enc L).take (m * k) = fl enc (L.take m) := by
  have e : fl enc L = fl enc (L.take m) ++ fl enc (L.drop m) := by rw [← fl_app, List.take_append_drop]
  rw [e, List.take_append_of_le_length (by rw [fl_len hk, List.length_take, Nat.min_eq_left hm]; exact Nat.le_refl _), List.take_of_length_le (by rw [fl_len hk, List.length_take, Nat.min_eq_left hm]; exact Nat.le_refl _)]
theorem Sep.rowSetsAt {w0 : World} {l : List As} {e : TypeId} {s g n c : Nat} : ∀ (vs : List Value) (W : World) (xs : List Value) (o : Nat), Sep w0 W (rowV e s (sl g n c) n xs :: l) → Sep w0 (W.setCells g o vs) (rowV e s (sl g n c) n (over xs o vs) :: l)
  | [], _, _, _, h => h
  | v :: r, _, _, o, h => Sep.rowSetsAt r _ _ _ (h.rowSet o v)
theorem row_there {w : World} {e : TypeId} {g n c o : Nat} {xs : List Value} (h : w.ownsRow 0 e k (sl g n c) n xs) (hn : 0 < n) (m : Nat) (hm : o + m ≤ n * k) : w.there g o m := by
  intro j hj
  have hl := h.1
  obtain ⟨g', c', e1, q⟩ := own_any h hn
  injection e1 with e1 _ _
  injection e1 with e1
  injection e1 with e1 _ _
  subst e1
  have hjl : o + j < xs.length := by omega
  exact ⟨by rw [(q (o + j) _ (List.getElem?_eq_getElem hjl)).1]; rfl, (q (o + j) _ (List.getElem?_eq_getElem hjl)).2⟩
theorem store_row {ops : Array Oper} {rest : List Oper} {op : Oper} {a : Act} {Q : Exit → Act → World → Prop} (hk : ∀ x, (enc x).length = k) (w3 : World) (g n c j : Nat) (L : List α) (x : α) (e T : TypeId) (hgd : op.guard = none) {X Y : Operand} (ho : op.op = .store T X Y)
    (hx : a.eval X = .pointer (some ⟨g, j * k, none⟩)) (hy : a.eval Y = .agg (enc x).toArray) (hh : w3.ownsRow 0 e k (sl g n c) n (fl enc L)) (hL : L.length = n) (hj : j < n) (hi : (Tryz.prog.info? T).map (·.size) = some k) (h1 : ∀ u ∈ enc x, u.oneCell' = true)
    (h : ∀ w6, (∀ w0 l, Sep w0 w3 (rowV e k (sl g n c) n (fl enc L) :: l) → Sep w0 w6 (rowV e k (sl g n c) n (fl enc (L.set j x)) :: l)) → w3.grownBy w6 (some g) → wpList Tryz.prog ops Q rest (a.put op.dst undef) w6) : wpList Tryz.prog ops Q (op :: rest) a w3 := by
  have hjk : j * k + k ≤ n * k := by rw [← Nat.succ_mul]; exact Nat.mul_le_mul_right k hj
  have hsz : (enc x).toArray.size = k := by simp [hk]
  refine wpList_store_mid hgd T X Y ho g (j * k) (enc x).toArray hx hy ?_ ?_ (all_oneCell_toArray h1) ?_
  · rw [hsz]; exact row_there hh (by omega) k hjk
  · rw [hsz]; exact hi
  · refine h _ (fun w0 l hS => ?_) (gr_sets _ _ _ _)
    have q := Sep.rowSetsAt (enc x) w3 _ (j * k) hS
    rw [fl_over hk L j (by omega) x] at q
    exact q
theorem Sep.rowCut {w0 W : World} {l : List As} {e : TypeId} {g n c : Nat} {L : List α} (hk : ∀ x, (enc x).length = k) (hL : L.length = n) (m : Nat) (hm : m ≤ n) (h : Sep w0 W (rowV e k (sl g n c) n (fl enc L) :: l)) : Sep w0 W (rowV e k (sl g m c) m (fl enc (L.take m)) :: l) := by
  obtain ⟨F, ⟨ho, rfl⟩, _, hu⟩ := h.use
  refine hu W [_] (Fr.refl _ W) (Loc.one (a := rowV _ _ _ _ _) _ ⟨?_, rfl⟩ (fun i hi => .inl hi))
  obtain ⟨h1, h2⟩ := ho
  refine ⟨by rw [fl_len hk, List.length_take, hL, Nat.min_eq_left hm], .inr ?_⟩
  rcases h2 with ⟨q, _⟩ | ⟨g', cap, cur, q, q1, q2, q3, q4, q5, q6⟩
  · cases q
  · injection q with e1 e2 e3
    subst e3
    refine ⟨g', c, cur, by cases e1; rfl, q1, q2, by omega, q4, q5, ?_⟩
    rw [← fl_take hk L m (by omega), ← q6, List.take_take, Nat.min_eq_left (Nat.mul_le_mul_right k hm)]
end

structure Cr where
  pl : Int
  nm : ByteArray
  x : Int
  y : Int
  sx : Int
  sy : Int
  hd : Int
  he : Int
  en : Int
  am : Int
  co : Int
  wa : Int
  sp : Int
  sc : Int
deriving DecidableEq
def crv (c : Cr) : List Value := [iv c.pl, .string c.nm, iv c.x, iv c.y, iv c.sx, iv c.sy, iv c.hd, iv c.he, iv c.en, iv c.am, iv c.co, iv c.wa, iv c.sp, iv c.sc]
structure CrOk (c : Cr) : Prop where
  nm : c.nm.size ≤ 281474976710656
  pl : I64 c.pl
  x : I64 c.x
  y : I64 c.y
  sx : I64 c.sx
  sy : I64 c.sy
  hd : I64 c.hd
  he : I64 c.he
  en : I64 c.en
  am : I64 c.am
  co : I64 c.co
  wa : I64 c.wa
  sp : I64 c.sp
  sc : I64 c.sc
structure Sh where
  id : Int
  pl : Int
  x : Int
  y : Int
  sx : Int
  sy : Int
  lf : Int
deriving DecidableEq
def shv (s : Sh) : List Value := [iv s.id, iv s.pl, iv s.x, iv s.y, iv s.sx, iv s.sy, iv s.lf]
structure ShOk (s : Sh) : Prop where
  id : I64 s.id
  pl : I64 s.pl
  x : I64 s.x
  y : I64 s.y
  sx : I64 s.sx
  sy : I64 s.sy
  lf : I64 s.lf
theorem crv_one (c : Cr) : ∀ v ∈ crv c, v.oneCell' = true := by
  intro v hv
  simp only [crv, List.mem_cons, List.not_mem_nil, or_false] at hv
  rcases hv with rfl | rfl | rfl | rfl | rfl | rfl | rfl | rfl | rfl | rfl | rfl | rfl | rfl | rfl <;> rfl
theorem crv_len (c : Cr) : (crv c).length = 14 := rfl
theorem shv_one (c : Sh) : ∀ v ∈ shv c, v.oneCell' = true := by
  intro v hv
  simp only [shv, List.mem_cons, List.not_mem_nil, or_false] at hv
  rcases hv with rfl | rfl | rfl | rfl | rfl | rfl | rfl <;> rfl
theorem shv_len (c : Sh) : (shv c).length = 7 := rfl
theorem under26 : ∃ d, Tryz.prog.underlying 26 = some d ∧ d.isRow = true := ⟨_, Tryz.underlying26, rfl⟩
theorem info26 : (Tryz.prog.info? 26).map (·.size) = some 14 := by kernel_rfl
theorem under46 : ∃ d, Tryz.prog.underlying 46 = some d ∧ d.isRow = true := ⟨_, Tryz.underlying46, rfl⟩
theorem info46 : (Tryz.prog.info? 46).map (·.size) = some 7 := by kernel_rfl

/-- what is read of a row -/
theorem fl_range {α : Type} {enc : α → List Value} {k : Nat} (hk : ∀ x, (enc x).length = k) {W : World} {e : TypeId} {g n c : Nat} {L : List α} (h : W.ownsRow 0 e k (sl g n c) n (fl enc L)) (hn : 0 < n) (j : Nat) (x : α) (hx : L[j]? = some x) : W.rangeAt g (j * k) (enc x) := by
  intro r v hv
  obtain ⟨g', c', e1, q⟩ := own_any h hn
  injection e1 with e1 _ _
  injection e1 with e1
  injection e1 with e1 _ _
  subst e1
  exact (q _ _ (fl_get hk L j x r v hx hv)).1
section
variable {α : Type} (key : α → Int)
/-- of each key the same things in the same order -/
def Stb (L R : List α) : Prop := ∀ k : Int, R.filter (fun x => key x == k) = L.filter (fun x => key x == k)
/-- rising -/
def Ris (L : List α) : Prop := L.Pairwise (fun a b => key a ≤ key b)
variable {key}
theorem Stb.refl (L : List α) : Stb key L L := fun _ => rfl
theorem Stb.trans {A B C : List α} (h : Stb key A B) (k : Stb key B C) : Stb key A C := fun x => (k x).trans (h x)
theorem Stb.app {A A' B B' : List α} (h : Stb key A A') (k : Stb key B B') : Stb key (A ++ B) (A' ++ B') := fun x => by
  rw [List.filter_append, List.filter_append, h x, k x]
theorem Stb.mem {L R : List α} (h : Stb key L R) (x : α) : x ∈ R ↔ x ∈ L := by
  have e := h (key x)
  constructor
  · intro hx
    have : x ∈ R.filter (fun y => key y == key x) := List.mem_filter.2 ⟨hx, by simp⟩
    rw [e] at this
    exact (List.mem_filter.1 this).1
  · intro hx
    have : x ∈ L.filter (fun y => key y == key x) := List.mem_filter.2 ⟨hx, by simp⟩
    rw [← e] at this
    exact (List.mem_filter.1 this).1
theorem Stb.flip {A B : List α} (h : ∀ a ∈ A, ∀ b ∈ B, key a ≠ key b) : Stb key (A ++ B) (B ++ A) := fun k => by
  rw [List.filter_append, List.filter_append]
  by_cases ha : A.filter (fun x => key x == k) = []
  · rw [ha]; simp
  · obtain ⟨a, q⟩ := List.exists_mem_of_ne_nil _ ha
    obtain ⟨h1, h2⟩ := List.mem_filter.1 q
    have hb : B.filter (fun x => key x == k) = [] := List.filter_eq_nil_iff.2 (fun b hb e => h a h1 b hb (by simp at h2 e; omega))
    rw [hb]; simp
theorem Ris.app {A B : List α} : Ris key (A ++ B) ↔ Ris key A ∧ Ris key B ∧ ∀ a ∈ A, ∀ b ∈ B, key a ≤ key b := List.pairwise_append
theorem Stb.perm {L R : List α} (h : Stb key L R) : R.Perm L := by
  classical
  rw [List.perm_iff_count]
  intro a
  have e := congrArg (List.count a) (h (key a))
  rw [List.count_filter (by simp), List.count_filter (by simp)] at e
  exact e
theorem Stb.len {L R : List α} (h : Stb key L R) : R.length = L.length := h.perm.length_eq
theorem Ris.le_of {L : List α} (h : Ris key L) {i j : Nat} {x y : α} (hij : i ≤ j) (hx : L[i]? = some x) (hy : L[j]? = some y) : key x ≤ key y := by
  rcases Nat.lt_or_ge i j with h1 | h1
  · obtain ⟨hi, rfl⟩ := List.getElem?_eq_some_iff.1 hx
    obtain ⟨hj, rfl⟩ := List.getElem?_eq_some_iff.1 hy
    exact List.pairwise_iff_getElem.1 h i j hi hj h1
  · obtain rfl : i = j := by omega
    rw [hx] at hy
    injection hy with hy
    subst hy
    exact Int.le_refl _
/-- one that is put in its place from behind -/
theorem ins_end {S1 S2 : List α} {e : α} (h : Ris key (S1 ++ S2)) (h2 : ∀ s ∈ S2, key e < key s) (h1 : ∀ s ∈ S1, key s ≤ key e) : Ris key (S1 ++ e :: S2) ∧ Stb key (S1 ++ S2 ++ [e]) (S1 ++ e :: S2) := by
  obtain ⟨a, b, c⟩ := Ris.app.1 h
  refine ⟨Ris.app.2 ⟨a, List.pairwise_cons.2 ⟨fun s hs => by have := h2 s hs; omega, b⟩, fun s hs t ht => ?_⟩, ?_⟩
  · rcases List.mem_cons.1 ht with rfl | ht
    · exact h1 s hs
    · exact c s hs t ht
  · rw [List.append_assoc]
    exact Stb.app (Stb.refl _) (Stb.flip (A := S2) (B := [e]) (fun s hs b hb => by rw [List.mem_singleton] at hb; subst hb; have := h2 s hs; omega))
/-- two rows cut in two places: each half for itself -/
theorem halves {A1 A2 B1 B2 M N : List α} (hA : Ris key (A1 ++ A2)) (hB : Ris key (B1 ++ B2)) (h1 : ∀ a ∈ A1, ∀ b ∈ B2, key a ≤ key b) (h2 : ∀ a ∈ A2, ∀ b ∈ B1, key b < key a)
    (hM : Ris key M) (sM : Stb key (A1 ++ B1) M) (hN : Ris key N) (sN : Stb key (A2 ++ B2) N) : Ris key (M ++ N) ∧ Stb key (A1 ++ A2 ++ (B1 ++ B2)) (M ++ N) := by
  obtain ⟨_, _, hA⟩ := Ris.app.1 hA
  obtain ⟨_, _, hB⟩ := Ris.app.1 hB
  refine ⟨Ris.app.2 ⟨hM, hN, fun x hx y hy => ?_⟩, ?_⟩
  · rcases List.mem_append.1 ((sM.mem x).1 hx) with hx | hx
    · rcases List.mem_append.1 ((sN.mem y).1 hy) with hy | hy
      · exact hA x hx y hy
      · exact h1 x hx y hy
    · rcases List.mem_append.1 ((sN.mem y).1 hy) with hy | hy
      · exact Int.le_of_lt (h2 y hy x hx)
      · exact hB x hx y hy
  · have e1 : A1 ++ A2 ++ (B1 ++ B2) = A1 ++ ((A2 ++ B1) ++ B2) := by simp
    have e2 : A1 ++ ((B1 ++ A2) ++ B2) = (A1 ++ B1) ++ (A2 ++ B2) := by simp
    have q : Stb key (A1 ++ ((A2 ++ B1) ++ B2)) (A1 ++ ((B1 ++ A2) ++ B2)) := Stb.app (Stb.refl _) (Stb.app (Stb.flip (fun a ha b hb => by have := h2 a ha b hb; omega)) (Stb.refl _))
    rw [e1]
    rw [e2] at q
    exact q.trans (Stb.app sM sN)
/-- of each key the first -/
def fst1 (L : List α) (k : Int) : Option α := L.find? (fun x => key x == k)
theorem find_filter (L : List α) (k : Int) : L.find? (fun x => key x == k) = (L.filter (fun x => key x == k)).head? := by
  rw [List.head?_filter]
theorem Stb.find {L R : List α} (h : Stb key L R) (k : Int) : R.find? (fun x => key x == k) = L.find? (fun x => key x == k) := by
  rw [find_filter, find_filter, h k]
end

end Go.Proofs.YtgedlabmndlooaaGreat
