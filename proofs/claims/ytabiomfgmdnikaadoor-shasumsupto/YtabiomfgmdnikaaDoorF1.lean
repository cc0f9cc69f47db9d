/- ShaSums: few, lend -/
import Derived.Test.YtabiomfgmdnikaaDoorR1
import Derived.Lib.SlBytesConst
namespace Go.Proofs.YtabiomfgmdnikaaDoor
open Go Go.RowKit

set_option maxRecDepth 100000 in
set_option maxHeartbeats 4000000 in
theorem few_any (a : Option Addr) (n c : Nat) (w : World) (hc : n ≤ c) (hn : n ≤ 4611686018427387904) (ha : a = none → c = 0) :
    Calls Tryd.prog 16 #[.slice a n c] w fun e w' => e = .returned (.slice a (min n 40) c) ∧ w.grownBy w' none := by
  go_enter Tryd.func16, Tryd.ntmps16
  by_cases h : n ≤ 40
  · have e : min n 40 = n := by omega
    rw [e]
    go_wp2
    go_ret
    exact ⟨rfl, World.grownBy.refl _ _⟩
  · have e : min n 40 = 40 := by omega
    rw [e]
    cases a with
    | none => have := ha rfl; omega
    | some ad =>
      go_wp2
      go_ret
      exact ⟨rfl, World.grownBy.refl _ _⟩

def marks (i : Nat) : List UInt8 := (List.range 150).map fun j => UInt8.ofNat (7 * i + j)
theorem marks_len (i : Nat) : (marks i).length = 150 := by simp [marks]
theorem marks_at (i j : Nat) (hj : j < 150) : (marks i)[j]? = some (UInt8.ofNat (7 * i + j)) := by
  rw [marks, List.getElem?_map, List.getElem?_range hj]; rfl
theorem marks_step (i j : Nat) (hj : j < 150) : (marks i).take j ++ [UInt8.ofNat (7 * i + j)] = (marks i).take (j + 1) := by
  obtain ⟨h1, e1⟩ := List.getElem?_eq_some_iff.1 (marks_at i j hj)
  rw [List.take_succ_eq_append_getElem h1, e1]
theorem info24 : ∃ i, Tryd.prog.info? 24 = some i ∧ i.size = 1 ∧ i.bytes = 24 ∧ i.zero = some (.slice none 0 0) := by
  have h : (Tryd.prog.info? 24).map (fun i => (i.size, i.bytes, i.zero)) = some (1, 24, some (.slice none 0 0)) := by kernel_rfl
  cases hq : Tryd.prog.info? 24 with
  | none => simp [hq] at h
  | some i =>
    simp only [hq, Option.map_some, Option.some.injEq, Prod.mk.injEq] at h
    exact ⟨i, rfl, h.1, h.2.1, h.2.2⟩
theorem under34 : Tryd.prog.underlying 34 = some (.slice 24) := by kernel_rfl
/-- where lend stands: i parts laid -/
structure ML (w w' : World) (vm : Value) (ls : List (List UInt8)) (i : Nat) : Prop where
  o : ∃ vs, w'.ownsRow w.heap.size 24 1 vm i vs ∧ ∀ j l, j < i → ls[j]? = some l → ∃ g cap tl, vs[j]? = some (.slice (some ⟨g, 0, none⟩) l.length cap) ∧ l.length + 150 ≤ cap ∧ Has w' g ((l ++ marks j).map bv ++ tl) 5 ∧ vm.ownBlock ≠ some g
  g : w.grownBy w' none
theorem own_has {w : World} {base n g cap : Nat} {xs : List UInt8} (h : w.ownsRow base 5 1 (.slice (some ⟨g, 0, none⟩) n cap) n (xs.map bv)) : base ≤ g ∧ n ≤ cap ∧ ∃ tl, Has w g (xs.map bv ++ tl) 5 := by
  obtain ⟨hl, hc⟩ := h
  rcases hc with ⟨e, _⟩ | ⟨g', cap', cur, e, hb, hheap, h1, h2, h3, h4⟩
  · cases e
  · injection e with e1 e2 e3
    obtain rfl : g = g' := by simpa using e1
    subst e3
    refine ⟨hb, h1, cur.toList.drop n, ?_⟩
    unfold Has
    rw [← h4, Nat.mul_one, List.take_append_drop]
    exact hheap
theorem appMs (w : World) (base : Nat) (v : Value) (n : Nat) (xs : List Value) (b m : Nat) (news : List Value) (hown : w.ownsRow base 24 1 v n xs) (hb : Has w b news 24) (hl : news.length = m) (h1' : ∀ u ∈ news, u.oneCell' = true) (hsz : n + m ≤ 1000) (hbase : base ≤ w.heap.size) (hm : 0 < m) :
    ∃ a' c' w', (Builtin.append_ #[34, 34] 34 #[v, .slice (some ⟨b, 0, none⟩) m m]).run Tryd.prog w = .ok (.slice (some a') (n + m) c') w' ∧ w'.ownsRow base 24 1 (.slice (some a') (n + m) c') (n + m) (xs ++ news) ∧ w.grownBy w' v.ownBlock ∧ ((Value.slice (some a') (n + m) c').ownBlock = v.ownBlock ∨ (Value.slice (some a') (n + m) c').ownBlock = some w.heap.size) := by
  obtain ⟨i, h1, h2, h3, h4⟩ := info24
  obtain ⟨v', w', r1, r2, r3, _, r5⟩ := run_append_own_at (P := Tryd.prog) w base 34 34 24 i (.slice none 0 0) 1 24 under34 h1 h4 h2 h3 rfl (by decide) v n xs hown ⟨b, 0, none⟩ m m news (by rw [hl, Nat.mul_one]) (fun j u hu => by
      rw [Addr.add_mid, Nat.zero_add]; exact hb.cellv j u hu) h1' (by unfold maxLen; omega) (by omega) hbase
  rcases r2.2 with ⟨_, e⟩ | ⟨g, cap, cur, rfl, _⟩
  · omega
  · exact ⟨_, cap, w', r1, r2, r3, r5⟩
theorem ML.next {w wi w' : World} {vm : Value} {ls : List (List UInt8)} {i : Nat} (h : ML w wi vm ls i) (hg : wi.grownBy w' none) (l : List UInt8) (hl : ls[i]? = some l) (gp cap : Nat) (hp : w'.ownsRow wi.heap.size 5 1 (.slice (some ⟨gp, 0, none⟩) (l.length + 150) cap) (l.length + 150) ((l ++ marks i).map bv)) (hi : i < 40) :
    ∃ a' c' w3, (Builtin.append_ #[34, 34] 34 #[vm, .slice (some ⟨w'.heap.size, 0, none⟩) 1 1]).run Tryd.prog (w'.alloc (.cells #[.slice (some ⟨gp, 0, none⟩) l.length cap] 24)) = .ok (.slice (some a') (i + 1) c') w3 ∧ ML w w3 (.slice (some a') (i + 1) c') ls (i + 1) := by
  obtain ⟨vs, o, rows⟩ := h.o
  obtain ⟨hbp, hcp, tlp, hasp⟩ := own_has hp
  have ga := World.grownBy_alloc w' (.cells #[.slice (some ⟨gp, 0, none⟩) l.length cap] 24) none
  have o2 := (o.kept hg (by cases vm.ownBlock <;> simp)).kept ga (by cases vm.ownBlock <;> simp)
  obtain ⟨a', c', w3, r1, r2, r3, r5⟩ := appMs _ w.heap.size vm i vs w'.heap.size 1 [.slice (some ⟨gp, 0, none⟩) l.length cap] o2 (Has.newA w' #[.slice (some ⟨gp, 0, none⟩) l.length cap] 24) rfl (fun u hu => by simp at hu; subst hu; rfl) (by omega) (by rw [heap1]; have := h.g.size; have := hg.size; omega) (by decide)
  rw [heap1] at r5
  have hsz := hg.size
  have hvl : vs.length = i := by have := o.1; omega
  have hgpl := hasp.lt
  refine ⟨a', c', w3, r1, ⟨vs ++ [.slice (some ⟨gp, 0, none⟩) l.length cap], r2, fun j l' hj hl' => ?_⟩, gr_row ((h.g.trans hg).trans ga) r3 (fun j hj => (o.lt j hj).1)⟩
  by_cases hji : j < i
  · obtain ⟨g, cp, tl, e1, e2, e3, e4⟩ := rows j l' hji hl'
    have hgl := e3.lt
    refine ⟨g, cp, tl, by rw [List.getElem?_append_left (by omega)]; exact e1, e2, ((e3.kept hg (by simp)).kept ga (by simp)).kept r3 (fun e => e4 e.symm), ?_⟩
    rcases r5 with e | e
    · rw [e]; exact e4
    · rw [e]; intro e'; have := Option.some.inj e'; omega
  · obtain rfl : j = i := by omega
    rw [hl] at hl'
    obtain rfl := Option.some.inj hl'
    have hne : vm.ownBlock ≠ some gp := fun e => by have := (o.lt gp e).2; omega
    refine ⟨gp, cap, tlp, by rw [List.getElem?_append_right (by omega), hvl, Nat.sub_self]; rfl, hcp, (hasp.kept ga (by simp)).kept r3 (fun e => hne e.symm), ?_⟩
    rcases r5 with e | e
    · rw [e]; exact hne
    · rw [e]; intro e'; have := Option.some.inj e'; omega

def behindL : List UInt8 := [98, 101, 104, 105, 110, 100]
def itL : List UInt8 := [105, 116]
/-- what lend leaves -/
structure Lent (w' : World) (gm cm n : Nat) (ls : List (List UInt8)) : Prop where
  len : ls.length = n
  cap : n + 2 ≤ cm
  row : ∀ j l, ls[j]? = some l → ∃ g cap, w'.cell? ⟨gm, j, none⟩ = some (.slice (some ⟨g, 0, none⟩) l.length cap) ∧ l.length + 150 ≤ cap ∧ ∀ k x, (l ++ marks j)[k]? = some x → w'.cell? ⟨g, k, none⟩ = some (bv x)
  b1 : ∃ g c, w'.cell? ⟨gm, n, none⟩ = some (.slice (some ⟨g, 0, none⟩) 6 c) ∧ BytesOf w' (some ⟨g, 0, none⟩) 6 c behindL
  b2 : ∃ g c, w'.cell? ⟨gm, n + 1, none⟩ = some (.slice (some ⟨g, 0, none⟩) 2 c) ∧ BytesOf w' (some ⟨g, 0, none⟩) 2 c itL
theorem Lent.kept {w' w2 : World} {gm cm n : Nat} {ls : List (List UInt8)} (h : Lent w' gm cm n ls) (hg : w'.grownBy w2 none) : Lent w2 gm cm n ls := by
  refine ⟨h.len, h.cap, fun j l hl => ?_, ?_, ?_⟩
  · obtain ⟨g, cap, e1, e2, e3⟩ := h.row j l hl
    exact ⟨g, cap, hg.cell e1 (by simp), e2, fun k x hx => hg.cell (e3 k x hx) (by simp)⟩
  · obtain ⟨g, c, e1, e2⟩ := h.b1
    exact ⟨g, c, hg.cell e1 (by simp), e2.kept hg⟩
  · obtain ⟨g, c, e1, e2⟩ := h.b2
    exact ⟨g, c, hg.cell e1 (by simp), e2.kept hg⟩
theorem kconst (w : World) (C : Array Value) (n c : Nat) : (convert 24 24 (.slice (some ⟨w.heap.size, 0, none⟩) n c)).run Tryd.prog (w.alloc (.cells C 5)) = .ok (.slice (some ⟨w.heap.size, 0, none⟩) n c) (w.alloc (.cells C 5 (C.size, C.size + 1))) :=
  Lib.run_convert_bytes_const w 24 5 C n c under28 under5
theorem bytes_new (w' : World) (b n c : Nat) (q : List UInt8) (fr : Nat × Nat) (e : TypeId) (hb : w'.heap[b]? = some (.cells (q.map bv).toArray e fr)) (hn : q.length = n) (hc : n ≤ c) : BytesOf w' (some ⟨b, 0, none⟩) n c q := by
  refine ⟨hn, hc, fun _ => ⟨b, 0, rfl, fun j x hx => ?_⟩⟩
  simp only [World.cell?, hb]
  simp [hx]
end Go.Proofs.YtabiomfgmdnikaaDoor
