/- lists that are written over and lengthened. -/
import Derived.Test.YtkaakbldkicnaaaXK
import Derived.Test.YtkaakbldkicnaaaB3
namespace Go.Proofs.Ytkaakbldkicnaaa
open Go Go.RowKit Go.Maps

abbrev sv (x : ByteArray) : Value := .string x
/-- a list in block g, which it fills, lengthened j times -/
def lngA (g n : Nat) (m : ByteArray) (v : Value) (j : Nat) : As :=
  ⟨fun W F => (j = 0 ∧ v = .slice (some ⟨g, 0, none⟩) n n ∧ F = fun _ => False) ∨ (1 ≤ j ∧ (rowA v (List.replicate (n + j) m)).P W F),
   fun S W W' F h f hs => h.imp id (fun q => ⟨q.1, (rowA v _).st S W W' F q.2 f hs⟩),
   fun W F h i hi => by
     rcases h with ⟨_, _, rfl⟩ | ⟨_, q⟩
     · exact hi.elim
     · exact (rowA v _).lt W F q i hi⟩
theorem Sep.lng {w0 W : World} {l : List As} (h : Sep w0 W l) (g n : Nat) (m : ByteArray) : Sep w0 W (lngA g n m (.slice (some ⟨g, 0, none⟩) n n) 0 :: l) :=
  h.new (World.grownBy.refl _ _) (Loc.one (a := lngA _ _ _ _ _) _ (.inl ⟨rfl, rfl, rfl⟩) (fun _ hi => hi.elim))
theorem one_new (W : World) (x : ByteArray) : ∀ (j : Nat) (u : Value), [Value.string x][j]? = some u → (W.alloc (.cells #[.string x] 9)).cell? ((⟨W.heap.size, 0, none⟩ : Addr).add j) = some u := fun j u hu => by
  rw [Addr.add_mid, Nat.zero_add]
  refine (Has.newA W #[.string x] 9).cellv j _ ?_
  match j, hu with
  | 0, hu => exact hu
  | j + 1, hu => simp at hu
theorem own_shape {w : World} {base n : Nat} {v : Value} {xs : List Value} (h : w.ownsRow base 9 1 v n xs) (hn : 0 < n) : ∃ g cap, v = .slice (some ⟨g, 0, none⟩) n cap ∧ base ≤ g := by
  obtain ⟨_, hc⟩ := h
  rcases hc with ⟨_, e⟩ | ⟨g, cap, cur, rfl, hb, _⟩
  · omega
  · exact ⟨g, cap, rfl, hb⟩
theorem Sep.lngStep {w0 W : World} {l : List As} {g n : Nat} {m : ByteArray} {v : Value} {j : Nat} (h : Sep w0 W (lngA g n m v j :: boxA g ((List.replicate n m).map sv) 9 :: l)) (hn : n ≤ 4096) (hj : j ≤ 40) :
    ∃ (a' : Addr) (c' : Nat) (W' : World), (Builtin.append_ #[22, 22] 22 #[v, .slice (some ⟨W.heap.size, 0, none⟩) 1 1]).run Try.prog (W.alloc (.cells #[.string m] 9)) = .ok (.slice (some a') (n + j + 1) c') W' ∧ Sep w0 W' (lngA g n m (.slice (some a') (n + j + 1) c') (j + 1) :: boxA g ((List.replicate n m).map sv) 9 :: l) := by
  obtain ⟨F0, ⟨hb, _⟩⟩ := h.get (a := boxA g ((List.replicate n m).map sv) 9) (List.mem_cons_of_mem _ (List.mem_cons_self ..))
  obtain ⟨F, h1, _, hu⟩ := h.use
  have erep : (List.replicate (n + j) m).map sv ++ [sv m] = (List.replicate (n + (j + 1)) m).map sv := by
    rw [← Nat.add_assoc, List.replicate_succ']; simp
  rcases h1 with ⟨rfl, rfl, rfl⟩ | ⟨hj1, ⟨h1, rfl⟩⟩
  · obtain ⟨i, i1, i2, i3, i4⟩ := info9
    have hh := hb.alloc (.cells #[.string m] 9)
    obtain ⟨v', w3, r1, r2, r3⟩ := run_append_arg_grows (P := Try.prog) (W.alloc (.cells #[.string m] 9)) 22 22 9 i (.string ⟨#[]⟩) 1 16 under22 i1 i4 i2 i3 rfl (by decide) ⟨g, 0, none⟩ n n ((List.replicate n m).map sv) (by simp) (fun j u hu => by rw [Addr.add_mid, Nat.zero_add, hh.cell]; exact hu) ⟨W.heap.size, 0, none⟩ 1 1 [.string m] rfl (one_new W m) (by omega) (by unfold maxLen; omega) (by omega)
    obtain ⟨g', c', rfl, hg'⟩ := own_shape r2 (by omega)
    rw [heap1] at hg'
    have gr : W.grownBy w3 none := (World.grownBy_alloc W _ none).trans r3
    refine ⟨_, c', w3, r1, hu w3 [_] (Fr.ofNone gr) (Loc.one (a := lngA _ _ _ _ _) (fun i => Value.ownBlock (.slice (some ⟨g', 0, none⟩) (n + 0 + 1) c') = some i) (.inr ⟨by omega, ?_, rfl⟩) (fun i hi => ?_))⟩
    · have e : (List.replicate n m).map sv ++ [sv m] = (List.replicate (n + (0 + 1)) m).map sv := erep
      rw [List.length_replicate]
      obtain ⟨q1, q2⟩ := r2
      change ((List.replicate n m).map sv ++ [sv m]).length = _ at q1
      rw [e] at q1 q2
      exact ⟨q1, q2.imp id (fun ⟨g, cap, cur, e, _, q⟩ => ⟨g, cap, cur, e, Nat.zero_le _, q⟩)⟩
    · injection hi with hi
      have hi : g' = i := hi
      exact .inr (by omega)
  · rw [List.length_replicate] at h1
    obtain ⟨a', c', W', r1, r2, r3, r4⟩ := apps1 W 0 v (n + j) (List.replicate (n + j) m) m h1 (by omega) (Nat.zero_le _)
    obtain ⟨g', cap, e, _⟩ := own_shape r2 (by omega)
    injection e with e1 e2 e3
    subst e1 e3
    refine ⟨⟨g', 0, none⟩, c', W', r1, hu W' [_] ((Fr.of r3).mono (fun i hi => .inl hi)) (Loc.one (a := lngA _ _ _ _ _) (fun i => Value.ownBlock (.slice (some ⟨g', 0, none⟩) (n + j + 1) c') = some i) (.inr ⟨by omega, ?_, rfl⟩) (fun i hi => ?_))⟩
    · rw [List.length_replicate]
      rw [List.map_append] at r2
      have : (List.replicate (n + j) m).map Value.string ++ [m].map Value.string = (List.replicate (n + (j + 1)) m).map sv := erep
      rw [this] at r2
      exact r2
    · rcases r4 with q | ⟨g2, q, hg⟩
      · exact .inl (by rw [← q]; exact hi)
      · rw [q] at hi
        injection hi with e
        exact .inr (by rw [← e]; exact hg)
/-- what a lengthened list reads -/
theorem Sep.lngCell {w0 W : World} {l : List As} {g n : Nat} {m : ByteArray} {a : Addr} {k c j : Nat} (h : Sep w0 W l) (hm : lngA g n m (.slice (some a) k c) j ∈ l) (hj : 1 ≤ j) {i : Nat} (hi : i < n + j) : W.cell? (a.add i) = some (.string m) := by
  obtain ⟨F, q⟩ := h.get hm
  rcases q with ⟨e, _⟩ | ⟨_, h1, _⟩
  · omega
  · rw [List.length_replicate] at h1
    obtain ⟨g', cap, e, _, _, q⟩ := own_str h1 (by omega)
    injection e with e1
    injection e1 with e1
    subst e1
    rw [Addr.add_mid, Nat.zero_add]
    exact q i m (by rw [List.getElem?_replicate]; simp [hi])
theorem Sep.box {w0 W : World} {l : List As} {b : Nat} {cs : List Value} {t : TypeId} (h : Sep w0 W l) (hm : boxA b cs t ∈ l) : Has W b cs t := by
  obtain ⟨F, q, _⟩ := h.get hm
  exact q
theorem Sep.setBox {w0 W : World} {l : List As} {b : Nat} {cs : List Value} {t : TypeId} (h : Sep w0 W (boxA b cs t :: l)) (j : Nat) (v : Value) : Sep w0 (W.setCell ⟨b, j, none⟩ v) (boxA b (cs.set j v) t :: l) := by
  obtain ⟨F, ⟨h1, rfl⟩, _, hu⟩ := h.use
  exact hu _ [_] (fr_set _ _ _ _ _ rfl) (Loc.one (a := boxA _ _ _) _ ⟨h1.setCell j v, rfl⟩ (fun i hi => .inl hi))
/-- a list laid over a new one -/
theorem Sep.copyAll {w0 W : World} {l : List As} {g n : Nat} {xs : List ByteArray} (h : Sep w0 W l) (hm : boxA g (xs.map sv) 9 ∈ l) (hn : xs.length = n) (hl : n ≤ 4096) :
    ∃ v' W', (Builtin.append_ #[22, 22] 22 #[.slice none 0 0, .slice (some ⟨g, 0, none⟩) n n]).run Try.prog W = .ok v' W' ∧ Sep w0 W' (rowA v' xs :: l) := by
  have hb := h.box hm
  obtain ⟨i, i1, i2, i3, i4⟩ := info9
  obtain ⟨v', w', r1, r2, r3, _, r5⟩ := run_append_own_at (P := Try.prog) W 0 22 22 9 i (.string ⟨#[]⟩) 1 16 under22 i1 i4 i2 i3 rfl (by decide) (.slice none 0 0) 0 [] ⟨rfl, .inl ⟨rfl, rfl⟩⟩ ⟨g, 0, none⟩ n n (xs.map sv) (by simp [hn]) (fun j u hu => by rw [Addr.add_mid, Nat.zero_add, hb.cell]; exact hu) (fun u hu => by obtain ⟨x, _, rfl⟩ := List.mem_map.1 hu; rfl) (by unfold maxLen; omega) (by omega) (Nat.zero_le _)
  refine ⟨v', w', r1, h.new r3 (Loc.one (a := rowA v' xs) _ ⟨by rw [Nat.zero_add, List.nil_append] at r2; rw [hn]; exact r2, rfl⟩ (fun i hi => ?_))⟩
  rcases r5 with q | q
  · rw [q] at hi; cases hi
  · rw [q] at hi
    injection hi with e
    exact .inr (by omega)
/-- how a filled block reads as a list -/
theorem Has.str {W : World} {g n : Nat} {xs : List ByteArray} (h : Has W g (xs.map sv) 9) (hn : xs.length = n) : Str W (.slice (some ⟨g, 0, none⟩) n n) xs :=
  ⟨.inr ⟨_, n, by rw [hn], fun j x hx => by rw [Addr.add_mid, Nat.zero_add]; exact h.cellv j _ (by rw [List.getElem?_map, hx]; rfl)⟩⟩
end Go.Proofs.Ytkaakbldkicnaaa
