import Derived.Test.YtkdjcknikhgfkaaGreatDoorSF2
/- SnapMemory: lists that are told, lengthened, written over -/
namespace Go.Proofs.YtkdjcknikhgfkaaGreatDoor.Pk.Sn
open Go Go.RowKit

/-- many things more, out of any list -/
theorem Sep.appF {w0 W : World} {l : List As} {t e : TypeId} {i : TypeInfo} {z : Value} {s bytes : Nat} (ht : Tryz.prog.underlying t = some (.slice e)) (hi : Tryz.prog.info? e = some i) (hz : i.zero = some z) (hs : i.size = s) (hby : i.bytes = bytes) (hzs : z.cells.size = s) (hs0 : 0 < s)
    {v : Value} {n : Nat} {xs : List Value} (h : Sep w0 W (rowV e s v n xs :: l)) (a : Addr) (m c : Nat) (cs : List Value) (hcs : cs.length = m * s) (hc : ∀ (j : Nat) u, cs[j]? = some u → W.cell? (a.add j) = some u) (h1 : ∀ u ∈ cs, u.oneCell' = true) (hsz : (n + m) * bytes ≤ 140737488355328) (hb0 : 0 < bytes := by decide) :
    ∃ v' W', (Builtin.append_ #[t, t] t #[v, .slice (some a) m c]).run Tryz.prog W = .ok v' W' ∧ Sep w0 W' (rowV e s v' (n + m) (xs ++ cs) :: l) := by
  obtain ⟨F, ⟨ho, rfl⟩, _, hu⟩ := h.use
  have hle : n + m ≤ 140737488355328 := Nat.le_trans (Nat.le_mul_of_pos_right _ hb0) hsz
  obtain ⟨v', w', r1, r2, r3, _, r5⟩ := run_append_own_at (P := Tryz.prog) W 0 t t e i z s bytes ht hi hz hs hby hzs hs0 v n xs ho a m c cs hcs hc h1 (by unfold maxLen; omega) hsz (Nat.zero_le _)
  refine ⟨v', w', r1, hu w' [_] ((Fr.of r3).mono (fun i hi => .inl hi)) (Loc.one (a := rowV _ _ _ _ _) _ ⟨r2, rfl⟩ (fun i hi => ?_))⟩
  rcases r5 with q | q
  · exact .inl (by rw [← q]; exact hi)
  · rw [q] at hi
    injection hi with e
    exact .inr (by omega)
theorem app_nn' {t e : TypeId} {i : TypeInfo} {s : Nat} (ht : Tryz.prog.underlying t = some (.slice e)) (i1 : Tryz.prog.info? e = some i) (c : Nat) (W : World) (v : Value) (n : Nat) (L : List Value) (h : W.ownsRow 0 e s v n L) : (Builtin.append_ #[t, t] t #[v, .slice none 0 c]).run Tryz.prog W = .ok v W := by
  rcases h.2 with ⟨rfl, rfl⟩ | ⟨g, cap, cur, rfl, _, _, hnc, _⟩
  · simp [Builtin.append_, run_underlying ht, sizeOf, typeInfo, i1, Builtin.lenOf, Builtin.firstCells]
  · simp [Builtin.append_, run_underlying ht, sizeOf, typeInfo, i1, Builtin.lenOf, Builtin.firstCells, hnc, storeCells]
theorem app_n0 {t e : TypeId} {i : TypeInfo} {s : Nat} (ht : Tryz.prog.underlying t = some (.slice e)) (i1 : Tryz.prog.info? e = some i) (a : Option Addr) (c : Nat) (W : World) (v : Value) (n : Nat) (L : List Value) (h : W.ownsRow 0 e s v n L) : (Builtin.append_ #[t, t] t #[v, .slice a 0 c]).run Tryz.prog W = .ok v W := by
  cases a with
  | none => exact app_nn' ht i1 c W v n L h
  | some a =>
    rcases h.2 with ⟨rfl, rfl⟩ | ⟨g, cap, cur, rfl, _, _, hnc, _⟩
    · simp [Builtin.append_, run_underlying ht, sizeOf, typeInfo, i1, Builtin.lenOf, Builtin.firstCells, loadCells, loadCellsFrom]
    · simp [Builtin.append_, run_underlying ht, sizeOf, typeInfo, i1, Builtin.lenOf, Builtin.firstCells, hnc, storeCells, loadCells, loadCellsFrom]
set_option maxRecDepth 100000 in
theorem bs0 (W : World) : (Instr.buildSlice 27 0 #[]).run Tryz.prog W = .ok (.slice (some ⟨W.heap.size, 0, none⟩) 0 0) (W.alloc (.cells #[] 40)) := by kernel_rfl
theorem Sep.emptyV {w0 W : World} {l : List As} (h : Sep w0 W l) : Sep w0 (W.alloc (.cells #[] 40)) (rowV 40 5 (.slice (some ⟨W.heap.size, 0, none⟩) 0 0) 0 [] :: l) :=
  h.new (World.grownBy_alloc _ _ _) (Loc.one (a := rowV _ _ _ _ _) (fun i => some W.heap.size = some i) ⟨⟨by simp, .inr ⟨W.heap.size, 0, #[], rfl, Nat.zero_le _, by show (W.heap.push _)[W.heap.size]? = _; rw [Array.getElem?_push_size], by omega, by omega, by simp, by simp⟩⟩, rfl⟩ (fun i hi => .inr (by injection hi with e; omega)))
theorem infoB : ∃ i z, Tryz.prog.info? 40 = some i ∧ i.size = 5 ∧ i.bytes = 40 ∧ i.zero = some z ∧ z.cells.size = 5 := by
  obtain ⟨i, z, i1, i2, i3, i4⟩ := infoSn
  refine ⟨i, z, i1, i2, i3, i4, ?_⟩
  have h1 : Tryz.prog.info? 40 = some i := i1
  have h2 : (Tryz.prog.info? 40).bind (·.zero) = some z := by rw [h1]; exact i4
  have h3 : ((Tryz.prog.info? 40).bind (·.zero)).map (fun z => z.cells.size) = some 5 := by kernel_rfl
  rw [h2] at h3
  exact Option.some.inj h3
theorem fls_len' (S : List Sn) : (fls S).length = S.length * 5 := by
  induction S with
  | nil => rfl
  | cons a r ih =>
    have e : fls (a :: r) = a.cs ++ fls r := by simp [fls]
    rw [e, List.length_append, ih, List.length_cons]
    show 5 + _ = _
    omega
theorem fls_app2 (A B : List Sn) : fls (A ++ B) = fls A ++ fls B := by simp [fls]
theorem fls_cons (a : Sn) (r : List Sn) : fls (a :: r) = a.cs ++ fls r := by simp [fls]
theorem fls_one (S : List Sn) : ∀ u ∈ fls S, u.oneCell' = true := by
  intro u hu
  obtain ⟨x, _, hx⟩ := List.mem_flatMap.1 (show u ∈ S.flatMap Sn.cs by simpa [fls] using hu)
  exact sn_one x u hx
theorem fls_div {S : List Sn} {j : Nat} {u : Value} (h : (fls S)[j]? = some u) : ∃ s, S[j / 5]? = some s ∧ s.cs[j % 5]? = some u := by
  have hj := (List.getElem?_eq_some_iff.1 h).1
  rw [fls_len'] at hj
  have hd : j / 5 < S.length := by omega
  refine ⟨S[j / 5], List.getElem?_eq_getElem hd, ?_⟩
  have hm : j % 5 < (S[j / 5]).cs.length := by show j % 5 < 5; omega
  have q := fls_at S (j / 5) _ (List.getElem?_eq_getElem hd) (j % 5) _ (List.getElem?_eq_getElem hm)
  rw [show 5 * (j / 5) + j % 5 = j by omega, h] at q
  rw [List.getElem?_eq_getElem hm]
  exact q.symm
/-- those seen of a view are told again -/
theorem Sep.appSeen {w0 W : World} {l : List As} {v : Value} {L S : List Sn} {a : Option Addr} (c : Nat) (h : Sep w0 W (rowV 40 5 v L.length (fls L) :: l)) (hr : SeenR W a S) (hn : (L.length + S.length) * 40 ≤ 140737488355328) :
    ∃ v' W', (Builtin.append_ #[27, 27] 27 #[v, .slice a S.length c]).run Tryz.prog W = .ok v' W' ∧ Sep w0 W' (rowV 40 5 v' (L ++ S).length (fls (L ++ S)) :: l) := by
  obtain ⟨i, z, i1, i2, i3, i4, i5⟩ := infoB
  by_cases hS : S = []
  · subst hS
    refine ⟨v, W, app_n0 underSl i1 a c W v _ _ (h.rowGet mm0), ?_⟩
    rw [List.append_nil]; exact h
  · obtain ⟨sb, so, rfl, r⟩ := hr hS
    obtain ⟨v', W', r1, S2⟩ := Sep.appF (t := 27) underSl i1 i4 i2 i3 i5 (by decide) h ⟨sb, so, none⟩ S.length c (fls S) (fls_len' S) (fun j u hu => by
      obtain ⟨s, hs, hu2⟩ := fls_div hu
      have := r (j / 5) s hs (j % 5) u hu2
      rw [Addr.add_mid]
      rw [show so + j = so + 5 * (j / 5) + j % 5 by omega]
      exact this) (fls_one S) hn
    refine ⟨v', W', r1, ?_⟩
    rw [fls_app2, List.length_append]
    exact S2
/-- the list, and what stands behind it -/
def m7 : Sn := ⟨-7, 0, 0, 0, 0⟩
def n9 : Sn := ⟨9, 0, 0, 0, 0⟩
def n8 : Sn := ⟨8, 0, 0, 0, 0⟩
set_option maxRecDepth 100000 in
theorem blt7 : Tryz.prog.built 40 [(0, iv (-7))] = some m7.cs.toArray := by kernel_rfl
set_option maxRecDepth 100000 in
theorem blt9 : Tryz.prog.built 40 [(0, iv 9)] = some n9.cs.toArray := by kernel_rfl
set_option maxRecDepth 100000 in
theorem blt8 : Tryz.prog.built 40 [(0, iv 8)] = some n8.cs.toArray := by kernel_rfl
set_option maxRecDepth 100000 in
theorem bsTwo (s t : Sn) (W : World) : (Instr.buildSlice 27 2 #[(0, .agg s.cs.toArray), (1, .agg t.cs.toArray)]).run Tryz.prog W = .ok (.slice (some ⟨W.heap.size, 0, none⟩) 2 2) (W.alloc (.cells (fls [s, t]).toArray 40)) := by kernel_rfl
def wd (S : List Sn) (i : Nat) : List Sn := S ++ List.replicate i m7
theorem wd_next (S : List Sn) (i : Nat) : wd S (i + 1) = wd S i ++ [m7] := by unfold wd; rw [List.replicate_succ', List.append_assoc]
theorem wd_len (S : List Sn) (i : Nat) : (wd S i).length = S.length + i := by simp [wd]
theorem wd_lt {S : List Sn} {i j : Nat} {s : Sn} (h : S[j]? = some s) : (wd S i)[j]? = some s := by
  unfold wd; rw [List.getElem?_append_left (List.getElem?_eq_some_iff.1 h).1]; exact h
theorem wd_ge {S : List Sn} {i j : Nat} (h : S.length ≤ j) (hj : j < S.length + i) : (wd S i)[j]? = some m7 := by
  unfold wd; rw [List.getElem?_append_right h, List.getElem?_replicate, if_pos (by omega)]
/-- the first i are written over -/
def ovr (q : Sn) (S : List Sn) (i : Nat) : List Sn := List.replicate i q ++ S.drop i
theorem ovr_0 (q : Sn) (S : List Sn) : ovr q S 0 = S := by simp [ovr]
theorem ovr_len {q : Sn} {S : List Sn} {i : Nat} (h : i ≤ S.length) : (ovr q S i).length = S.length := by simp [ovr]; omega
theorem ovr_all (q : Sn) (S : List Sn) : ovr q S S.length = List.replicate S.length q := by simp [ovr]
theorem ovr_set {q : Sn} {S : List Sn} {i : Nat} (h : i < S.length) : (ovr q S i).set i q = ovr q S (i + 1) := by
  unfold ovr
  rw [List.set_append, if_neg (by simp), List.length_replicate, Nat.sub_self, List.drop_eq_getElem_cons h, List.set_cons_zero, List.replicate_succ', List.append_assoc]
  rfl
theorem fls_set (S : List Sn) (i : Nat) (q : Sn) (h : i < S.length) : over (fls S) (5 * i) q.cs = fls (S.set i q) := by
  have hl := fls_len' S
  rw [over_eq _ _ _ (by rw [hl]; show 5 * i + 5 ≤ _; omega)]
  have e : S = S.take i ++ S[i] :: S.drop (i + 1) := by
    rw [← List.drop_eq_getElem_cons h, List.take_append_drop]
  have e2 : S.set i q = S.take i ++ q :: S.drop (i + 1) := by
    rw [List.set_eq_take_append_cons_drop, if_pos h]
  have lt : (S.take i).length = i := by rw [List.length_take]; omega
  have f1 : fls S = fls (S.take i) ++ (S[i].cs ++ fls (S.drop (i + 1))) := (congrArg fls e).trans (by rw [fls_app2, fls_cons])
  have l1 : (fls (S.take i)).length = 5 * i := by rw [fls_len', lt]; omega
  have f2 : fls (S.set i q) = fls (S.take i) ++ (q.cs ++ fls (S.drop (i + 1))) := by
    rw [e2, fls_app2, fls_cons]
  rw [f2, f1, List.take_left' l1, List.append_assoc]
  congr 2
  have : 5 * i + q.cs.length = (fls (S.take i) ++ S[i].cs).length := by rw [List.length_append, l1]; rfl
  rw [this, ← List.append_assoc, List.drop_left' rfl]
/-- what Read gave, as a thing of its own -/
def rdA (a : Option Addr) (c : Nat) (S : List Sn) : As :=
  ⟨fun W F => (a = none ∧ c = 0 ∧ S = [] ∧ F = fun _ => False) ∨ ∃ b, a = some ⟨b, 0, none⟩ ∧ c = S.length ∧ Has W b (fls S) 40 ∧ F = fun i => i = b,
   fun T W W' F h f hs => by
     rcases h with h | ⟨b, h1, h2, h3, rfl⟩
     · exact .inl h
     · exact .inr ⟨b, h1, h2, ((boxA b (fls S) 40).st T W W' (fun i => i = b) ⟨h3, rfl⟩ f hs).1, rfl⟩,
   fun W F h i hi => by
     rcases h with ⟨_, _, _, rfl⟩ | ⟨b, _, _, h3, rfl⟩
     · exact hi.elim
     · exact (boxA b (fls S) 40).lt W (fun i => i = b) ⟨h3, rfl⟩ i hi⟩
theorem Sep.rdNew {w0 w w' : World} {l : List As} {V : Vw} {a : Option Addr} {c : Nat} (h : Sep w0 w l) (hr : RdR w w' V a c) : Sep w0 w' (rdA a c V.S :: l) := by
  rcases hr.s with ⟨e1, e2, e3⟩ | ⟨b, e1, e2, e3, e4⟩
  · exact h.new hr.g (Loc.one (a := rdA _ _ _) (fun _ => False) (.inl ⟨e1, e2, e3, rfl⟩) (fun i hi => hi.elim))
  · exact h.new hr.g (Loc.one (a := rdA _ _ _) (fun i => i = b) (.inr ⟨b, e1, e2, e4, rfl⟩) (fun i hi => .inr (by rw [hi]; exact e3)))
theorem Sep.rdSeen {w0 W : World} {l : List As} {a : Option Addr} {c : Nat} {S : List Sn} (h : Sep w0 W l) (hm : rdA a c S ∈ l) : SeenR W a S := by
  obtain ⟨F, q⟩ := h.get hm
  intro hS
  rcases (show (a = none ∧ c = 0 ∧ S = [] ∧ F = fun _ => False) ∨ ∃ b, a = some ⟨b, 0, none⟩ ∧ c = S.length ∧ Has W b (fls S) 40 ∧ F = fun i => i = b from q) with ⟨_, _, e, _⟩ | ⟨b, e1, _, e3, _⟩
  · exact absurd e hS
  · exact ⟨b, 0, e1, fls_snr e3⟩
theorem Sep.rdOpen {w0 W : World} {l : List As} {a : Option Addr} {c : Nat} {S : List Sn} (h : Sep w0 W (rdA a c S :: l)) (hn : 0 < S.length) : ∃ b, a = some ⟨b, 0, none⟩ ∧ c = S.length ∧ Sep w0 W (boxA b (fls S) 40 :: l) := by
  obtain ⟨F, q, _, hu⟩ := h.use
  rcases (show (a = none ∧ c = 0 ∧ S = [] ∧ F = fun _ => False) ∨ ∃ b, a = some ⟨b, 0, none⟩ ∧ c = S.length ∧ Has W b (fls S) 40 ∧ F = fun i => i = b from q) with ⟨_, _, e, _⟩ | ⟨b, e1, e2, e3, rfl⟩
  · subst e; exact absurd hn (by simp)
  · exact ⟨b, e1, e2, hu W [_] (Fr.refl _ W) (Loc.one (a := boxA _ _ _) _ ⟨e3, rfl⟩ (fun i hi => .inl hi))⟩
theorem Sep.rdShut {w0 W : World} {l : List As} {b : Nat} {S : List Sn} (h : Sep w0 W (boxA b (fls S) 40 :: l)) : Sep w0 W (rdA (some ⟨b, 0, none⟩) S.length S :: l) := by
  obtain ⟨F, ⟨q, rfl⟩, _, hu⟩ := h.use
  exact hu W [_] (Fr.refl _ W) (Loc.one (a := rdA _ _ _) _ (.inr ⟨b, rfl, rfl, q, rfl⟩) (fun i hi => .inl hi))
/-- more behind a list that was read: a row of its own -/
theorem Sep.rdApp {w0 W : World} {l : List As} {a : Option Addr} {c : Nat} {S : List Sn} (T : List Sn) (hT : 0 < T.length) (h : Sep w0 W (rdA a c S :: l)) (hn : (S.length + T.length) * 40 ≤ 140737488355328) :
    ∃ v W', (Builtin.append_ #[27, 27] 27 #[.slice a S.length c, .slice (some ⟨W.heap.size, 0, none⟩) T.length T.length]).run Tryz.prog (W.alloc (.cells (fls T).toArray 40)) = .ok v W' ∧ Sep w0 W' (rowV 40 5 v (S ++ T).length (fls (S ++ T)) :: rdA a c S :: l) := by
  obtain ⟨i, z, i1, i2, i3, i4, i5⟩ := infoB
  have ga := World.grownBy_alloc W (.cells (fls T).toArray 40) none
  have hc : ∀ (j : Nat) (u : Value), (fls T)[j]? = some u → (W.alloc (.cells (fls T).toArray 40)).cell? ((⟨W.heap.size, 0, none⟩ : Addr).add j) = some u := fun j u hu => by
    rw [Addr.add_mid, Nat.zero_add]; exact (Has.newA W (fls T).toArray 40).cellv j u (by simpa using hu)
  obtain ⟨F, q⟩ := h.get mm0
  rcases (show (a = none ∧ c = 0 ∧ S = [] ∧ F = fun _ => False) ∨ ∃ b, a = some ⟨b, 0, none⟩ ∧ c = S.length ∧ Has W b (fls S) 40 ∧ F = fun i => i = b from q) with ⟨e1, e2, e3, _⟩ | ⟨b, e1, e2, e3, _⟩
  · subst e1 e2 e3
    have h2 := (h.grown ga).nilV 40 5
    obtain ⟨v', W', r1, S2⟩ := Sep.appF (t := 27) underSl i1 i4 i2 i3 i5 (by decide) h2 ⟨W.heap.size, 0, none⟩ T.length T.length (fls T) (fls_len' T) hc (fls_one T) (by simpa using hn)
    refine ⟨v', W', r1, ?_⟩
    rw [List.nil_append]
    rw [Nat.zero_add, List.nil_append] at S2
    exact S2
  · subst e1 e2
    obtain ⟨v', w', r1, r2, r3⟩ := run_append_arg_grows (P := Tryz.prog) (w := W.alloc (.cells (fls T).toArray 40)) 27 27 40 i z 5 40 underSl i1 i4 i2 i3 i5 (by decide) ⟨b, 0, none⟩ S.length S.length (fls S) (fls_len' S) (fun j u hu => by rw [Addr.add_mid, Nat.zero_add]; exact (e3.kept ga (by simp)).cellv j u hu) ⟨W.heap.size, 0, none⟩ T.length T.length (fls T) (fls_len' T) hc (by omega) (by unfold maxLen; omega) hn
    refine ⟨v', w', r1, ?_⟩
    have gr : W.grownBy w' none := ga.trans r3
    rw [fls_app2, List.length_append]
    obtain ⟨q1, q2⟩ := r2
    rcases q2 with ⟨e, hz0⟩ | ⟨g, cap, cur, e, q3, q4⟩
    · omega
    · rw [World.size_alloc] at q3
      subst e
      refine h.new gr (Loc.one (a := rowV _ _ _ _ _) (fun i => some g = some i) ⟨⟨q1, .inr ⟨g, cap, cur, rfl, Nat.zero_le _, q4⟩⟩, rfl⟩ (fun i hi => .inr ?_))
      injection hi with e
      omega
/-- the first n of a longer row -/
theorem cut_row (W : World) (g m k n : Nat) (hn : n ≤ k) : (Instr.slice 27 (.slice (some ⟨g, 0, none⟩) m k) none (some (.int .i64 n)) none).run Tryz.prog W = .ok (.slice (some ⟨g, 0, none⟩) n k) W := by
  have h0 : (0 : Int) ≤ (n : Int) := by omega
  have h1 : (n : Int) ≤ (k : Int) := by omega
  go_simp

theorem wd_0 (S : List Sn) : wd S 0 = S := by simp [wd]
set_option maxRecDepth 100000 in
theorem bsOne (s : Sn) (W : World) : (Instr.buildSlice 27 1 #[(0, .agg s.cs.toArray)]).run Tryz.prog W = .ok (.slice (some ⟨W.heap.size, 0, none⟩) 1 1) (W.alloc (.cells (fls [s]).toArray 40)) := by kernel_rfl
theorem own_cap {W : World} {e : TypeId} {s g n c : Nat} {xs : List Value} (h : W.ownsRow 0 e s (.slice (some ⟨g, 0, none⟩) n c) n xs) : n ≤ c := by
  rcases h.2 with ⟨e1, _⟩ | ⟨g', cap, cur, e1, _, _, q, _⟩
  · cases e1
  · injection e1 with _ _ e3
    rw [e3]; exact q
theorem snr_left {w : World} {b o : Nat} {S T : List Sn} (h : SnR w b o (S ++ T)) : SnR w b o S := fun j s hj i z hz => h j s (by rw [List.getElem?_append_left (List.getElem?_eq_some_iff.1 hj).1]; exact hj) i z hz
/-- a row of the call's own, as it is read -/
theorem row_snr {w0 W : World} {l : List As} {g n c : Nat} {S : List Sn} (h : Sep w0 W l) (hm : rowV 40 5 (.slice (some ⟨g, 0, none⟩) n c) n (fls S) ∈ l) (hn : 0 < n) : SnR W g 0 S := by
  obtain ⟨g', c', e, hc⟩ := own_any (h.rowGet hm) hn
  injection e with e1 _ _
  injection (Option.some.inj e1) with e2
  subst e2
  exact fun j s hj i z hz => by rw [Nat.zero_add]; exact (hc _ _ (fls_at S j s hj i z hz)).1
theorem snr_range {w : World} {b : Nat} {S : List Sn} (h : SnR w b 0 S) {j : Nat} {s : Sn} (hs : S[j]? = some s) : w.rangeAt b (j * 5) s.cs := fun i v hv => by
  have := h j s hs i v hv
  rw [Nat.zero_add, Nat.mul_comm] at this
  exact this
theorem neq_same (s : Sn) (w : World) : (binOp .neq 40 (.agg s.cs.toArray) (.agg s.cs.toArray)).run Tryz.prog w = .ok (.bool false) w := by
  rw [neqN, decide_eq_true rfl]; rfl
theorem mm6 {α : Type} {a b c d e f g : α} {l : List α} : a ∈ b :: c :: d :: e :: f :: g :: a :: l := List.mem_cons_of_mem _ mm5
theorem mm7 {α : Type} {a b c d e f g h : α} {l : List α} : a ∈ b :: c :: d :: e :: f :: g :: h :: a :: l := List.mem_cons_of_mem _ mm6
theorem mm8 {α : Type} {a b c d e f g h i : α} {l : List α} : a ∈ b :: c :: d :: e :: f :: g :: h :: i :: a :: l := List.mem_cons_of_mem _ mm7
theorem reps (q : Sn) (n : Nat) (S : List Sn) (h : S.length = n) : ovr q S n ++ [q, q] = List.replicate (n + 2) q := by
  rw [← h, ovr_all, show [q, q] = List.replicate 2 q from rfl, List.replicate_append_replicate]
/-- what a view comes to: its bytes, sealed or not -/
theorem mem_facts {V : Vw} (ho : V.ok) (key : ByteArray) :
    ((wrV V).2 ≠ 0 → (⟨(wrV V).1.toArray⟩ : ByteArray) = nob ∧ (mkS 1 2 V key).1 = nob) ∧ ((wrV V).2 = 0 → fitV V ∧ sl (⟨(wrV V).1.toArray⟩ : ByteArray) = encV V) ∧ ((mkS 1 2 V key).2 = 0 → opS (mkS 1 2 V key).1 key = (1, 2, V, 0) ∧ (mkS 1 2 V key).1.size ≤ 281474976710656) := by
  have hm := mk_facts (ses := 1) (seq := 2) (key := key) (by omega) (by omega) ho
  refine ⟨fun h => ?_, fun h => ?_, fun h => ?_⟩
  · have hf : ¬ fitV V := fun q => by rw [wrV_yes ho q] at h; exact h rfl
    have e := wrV_no ho hf
    refine ⟨by rw [e]; rfl, (hm.1 ?_).1⟩
    unfold mkS
    rw [if_neg h]
    exact h
  · have hf := wrV_fit ho h
    exact ⟨hf, by rw [wrV_yes ho hf]; exact sl_mk _⟩
  · obtain ⟨hf, hl, e⟩ := hm.2 h
    rw [e]
    have hrd : rdV (sl (ba (encV V))) = (V, 0) := by rw [show sl (ba (encV V)) = encV V from sl_mk _]; exact rd_wr ho hf
    have h2 := op_yes (ses := 1) (seq := 2) (b := ba (encV V)) (key := key) (by omega) (by omega) (by rw [ba_size]; exact hl) (Mac.hmac_len _ _) (by rw [hrd])
    rw [hrd, show sl (ba (encV V)) = encV V from sl_mk _] at h2
    refine ⟨h2, ?_⟩
    rw [ba_size, List.length_append, Mac.hmac_len, snB_len]
    omega
end Go.Proofs.YtkdjcknikhgfkaaGreatDoor.Pk.Sn
