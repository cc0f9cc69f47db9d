/- table's calls among things that lie apart. -/
import Derived.Test.YtkaakbldkicnaaaA8
namespace Go.Proofs.Ytkaakbldkicnaaa
open Go Go.RowKit Go.Maps

abbrev KV := List (ByteArray × Int)
/-- a table -/
def tabA (tb sz : Nat) (L : KV) : As :=
  ⟨fun W F => ∃ mb E, TabAt W tb mb sz E ∧ kv E = L ∧ F = TF tb mb E,
   fun S W W' F h f hs => by
     obtain ⟨mb, E, h1, h2, rfl⟩ := h
     exact ⟨mb, E, h1.fr f hs, h2, rfl⟩,
   fun W F h i hi => by
     obtain ⟨mb, E, h1, h2, rfl⟩ := h
     exact h1.lt i hi⟩
/-- what is known of a table's things -/
structure TabOk (sz : Nat) (L : KV) : Prop where
  lo : 1 ≤ sz
  hi : sz ≤ 4096
  le : L.length ≤ sz
  nk : (Tb.keys L).Nodup
  small : ∀ k ∈ Tb.keys L, k.size ≤ 281474976710656
theorem Sep.tab {w0 W : World} {l : List As} {tb sz : Nat} {L : KV} (h : Sep w0 W l) (hm : tabA tb sz L ∈ l) : TabOk sz L := by
  obtain ⟨F, mb, E, h1, rfl, _⟩ := h.get hm
  exact ⟨h1.lo, h1.hi, by simpa [kv] using h1.le, by rw [kv_keys]; exact h1.nk, by rw [kv_keys]; exact h1.small⟩
theorem peek_s {w0 W : World} {l : List As} {tb sz : Nat} {L : KV} (k : ByteArray) (h : Sep w0 W l) (hm : tabA tb sz L ∈ l) (hk : k.size ≤ 4611686018427387904) :
    Calls Try.prog 12 #[pt tb, .string k] W fun r W' => r = .returned (.tuple #[iv ((Tb.look L k).getD 0), .bool (Tb.look L k).isSome]) ∧ W' = W := by
  obtain ⟨F, mb, E, h1, rfl, _⟩ := h.get hm
  exact peek_c W tb mb sz E k h1 hk
theorem len_s {w0 W : World} {l : List As} {tb sz : Nat} {L : KV} (h : Sep w0 W l) (hm : tabA tb sz L ∈ l) :
    Calls Try.prog 25 #[pt tb] W fun r W' => r = .returned (iv (L.length : Nat)) ∧ W' = W := by
  obtain ⟨F, mb, E, h1, rfl, _⟩ := h.get hm
  have := len_c W tb mb sz E h1
  rw [show (kv E).length = E.length by simp [kv]]
  exact this
theorem get_s {w0 W : World} {l : List As} {tb sz : Nat} {L : KV} (k : ByteArray) (h : Sep w0 W (tabA tb sz L :: l)) (hk : k.size ≤ 4611686018427387904) :
    Calls Try.prog 11 #[pt tb, .string k] W fun r W' => r = .returned (.tuple #[iv ((Tb.look L k).getD 0), .bool (Tb.look L k).isSome]) ∧ Sep w0 W' (tabA tb sz (Tb.useL L k) :: l) := by
  obtain ⟨F, ⟨mb, E, h1, rfl, rfl⟩, _, hu⟩ := h.use
  refine (get_c W tb mb sz E k h1 hk).mono ?_
  rintro r W' ⟨rfl, E', q1, q2, q3, q4, _⟩
  exact ⟨rfl, hu W' [_] q4 (Loc.one (TF tb mb E') ⟨mb, E', q1, q2, rfl⟩ (fun i hi => .inl ((TF.perm q3 i).1 hi)))⟩
theorem del_s {w0 W : World} {l : List As} {tb sz : Nat} {L : KV} (k : ByteArray) (h : Sep w0 W (tabA tb sz L :: l)) (hk : k.size ≤ 4611686018427387904) :
    Calls Try.prog 24 #[pt tb, .string k] W fun r W' => r = .returned (.bool (Tb.look L k).isSome) ∧ Sep w0 W' (tabA tb sz (Tb.rm L k) :: l) := by
  obtain ⟨F, ⟨mb, E, h1, rfl, rfl⟩, _, hu⟩ := h.use
  refine (del_c W tb mb sz E k h1 hk).mono ?_
  rintro r W' ⟨rfl, E', q1, q2, q3, q4, _⟩
  exact ⟨rfl, hu W' [_] q4 (Loc.one (TF tb mb E') ⟨mb, E', q1, q2, rfl⟩ (fun i hi => .inl (hi.imp id (fun q => q.imp id (fun q => (q3.map Ent.b).subset q)))))⟩
theorem put_s {w0 W : World} {l : List As} {tb sz : Nat} {L : KV} (k : ByteArray) (x : Int) (h : Sep w0 W (tabA tb sz L :: l)) (hk : k.size ≤ 281474976710656) :
    Calls Try.prog 10 #[pt tb, .string k, iv x] W fun r W' => r = .returned (.tuple #[.string (Tb.goneK sz L k), .bool (Tb.goneB sz L k)]) ∧ Sep w0 W' (tabA tb sz (Tb.putL sz L k x) :: l) := by
  obtain ⟨F, ⟨mb, E, h1, rfl, rfl⟩, _, hu⟩ := h.use
  refine (put_c W tb mb sz E k x h1 hk).mono ?_
  rintro r W' ⟨rfl, E', q1, q2, q3, q4⟩
  exact ⟨rfl, hu W' [_] q3 (Loc.one (TF tb mb E') ⟨mb, E', q1, q2, rfl⟩ q4)⟩
theorem new_s {w0 W : World} {l : List As} (sz : Nat) (h : Sep w0 W l) (h1 : 1 ≤ sz) (h2 : sz ≤ 4096) :
    Calls Try.prog 9 #[iv (sz : Nat)] W fun r W' => ∃ tb, r = .returned (.tuple #[pt tb, iv 0]) ∧ Sep w0 W' (tabA tb sz [] :: l) := by
  refine (new_yes sz W h1 h2).mono ?_
  rintro r W' ⟨tb, rfl, mb, q1, q2, q3, q4⟩
  refine ⟨tb, rfl, h.new q2 (Loc.one (a := tabA tb sz []) (TF tb mb []) ⟨mb, [], q1, rfl, rfl⟩ (fun i hi => .inr ?_))⟩
  rcases hi with rfl | rfl | hi
  · exact q3
  · exact q4
  · cases hi
theorem keys_s {w0 W : World} {l : List As} {tb sz : Nat} {L : KV} (h : Sep w0 W l) (hm : tabA tb sz L ∈ l) :
    Calls Try.prog 13 #[pt tb] W fun r W' => ∃ v, r = .returned v ∧ Sep w0 W' (rowA v (Tb.keys L) :: l) := by
  obtain ⟨F, mb, E, h1, rfl, _⟩ := h.get hm
  refine (keys_c W tb mb sz E h1).mono ?_
  rintro r W' ⟨v, rfl, q1, q2⟩
  refine ⟨v, rfl, h.new q2 (Loc.one (a := rowA v _) (fun i => v.ownBlock = some i) ⟨?_, rfl⟩ (fun i hi => .inr ?_))⟩
  · rw [kv_keys, List.length_map]
    obtain ⟨p1, p2⟩ := q1
    exact ⟨p1, p2.imp id (fun ⟨g, cap, cur, e, _, q⟩ => ⟨g, cap, cur, e, Nat.zero_le _, q⟩)⟩
  · obtain ⟨p1, p2⟩ := q1
    rcases p2 with ⟨rfl, _⟩ | ⟨g, cap, cur, rfl, q3, q⟩
    · cases hi
    · injection hi with e
      have e : g = i := e
      rw [← e]; exact q3
/-- a row of strings, as it lies -/
structure Str (W : World) (v : Value) (xs : List ByteArray) : Prop where
  o : v = .slice none 0 0 ∧ xs = [] ∨ ∃ a cap, v = .slice (some a) xs.length cap ∧ ∀ j x, xs[j]? = some x → W.cell? (a.add j) = some (.string x)
theorem Sep.row {w0 W : World} {l : List As} {v : Value} {xs : List ByteArray} (h : Sep w0 W l) (hm : rowA v xs ∈ l) : Str W v xs := by
  obtain ⟨F, h1, _⟩ := h.get hm
  by_cases hn : 0 < xs.length
  · obtain ⟨g, cap, rfl, _, _, q⟩ := own_str h1 hn
    exact ⟨.inr ⟨⟨g, 0, none⟩, cap, rfl, fun j x hx => by rw [Addr.add_mid, Nat.zero_add]; exact q j x hx⟩⟩
  · have he : xs = [] := List.eq_nil_of_length_eq_zero (by omega)
    subst he
    obtain ⟨_, h2⟩ := h1
    rcases h2 with ⟨rfl, _⟩ | ⟨g, cap, cur, rfl, _⟩
    · exact ⟨.inl ⟨rfl, rfl⟩⟩
    · exact ⟨.inr ⟨⟨g, 0, none⟩, cap, rfl, fun j x hx => by cases hx⟩⟩
theorem Str.kept {W W' : World} {v : Value} {xs : List ByteArray} (h : Str W v xs) (g : W.grownBy W' none) : Str W' v xs := by
  rcases h.o with q | ⟨a, cap, rfl, q⟩
  · exact ⟨.inl q⟩
  · refine ⟨.inr ⟨a, cap, rfl, fun j x hx => ?_⟩⟩
    have h1 := q j x hx
    have hb : (a.add j).block < W.heap.size := World.block_lt_of_cell? W _ h1
    rw [← h1]
    have := g.block _ hb (by simp)
    simp only [World.cell?, this]
end Go.Proofs.Ytkaakbldkicnaaa
