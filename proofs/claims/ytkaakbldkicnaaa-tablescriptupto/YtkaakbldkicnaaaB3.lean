/- the laws' last, all, later. -/
import Derived.Test.YtkaakbldkicnaaaB1
import Derived.Test.YtkaakbldkicnaaaP2
namespace Go.Proofs.Ytkaakbldkicnaaa
open Go Go.RowKit Go.Maps

/-- how the walk sees a row of strings -/
theorem Str.form {W : World} {v : Value} {xs : List ByteArray} (h : Str W v xs) (hn : 0 < xs.length) : ∃ a c, v = .slice (some a) xs.length c ∧ ∀ j x, xs[j]? = some x → W.cell? (a.add j) = some (.string x) := by
  rcases h.o with ⟨rfl, rfl⟩ | q
  · simp at hn
  · exact q
theorem Str.slice {W : World} {v : Value} {xs : List ByteArray} (h : Str W v xs) : ∃ a c, v = .slice a xs.length c := by
  rcases h.o with ⟨rfl, rfl⟩ | ⟨a, c, rfl, _⟩
  · exact ⟨_, _, rfl⟩
  · exact ⟨_, _, rfl⟩
theorem add0 (a : Addr) : a.add 0 = a := by
  obtain ⟨b, o, s⟩ := a
  cases s <;> simp [Addr.add]
set_option maxHeartbeats 2000000 in
theorem last_c (W : World) (v : Value) (xs : List ByteArray) (k : ByteArray) (h : Str W v xs) (hx : xs.length ≤ 4611686018427387904) :
    Calls Try.prog 27 #[v, .string k] W fun r W' => r = .returned (iv (Tb.lastI xs k)) ∧ W' = W := by
  have hw0 : IntKind.i64.wrap ((xs.length : Int) - 1) = (xs.length : Int) - 1 := wi _ (by omega) (by omega)
  by_cases h0 : 0 < xs.length
  · obtain ⟨a, c, rfl, hc⟩ := h.form h0
    have HC : Keep (∀ (j : Nat) (x : ByteArray), xs[j]? = some x → W.cell? (a.add j) = some (.string x)) := ⟨hc⟩
    obtain ⟨n, hn⟩ : ∃ n, xs.length = n := ⟨_, rfl⟩
    have HN : Keep (xs.length = n) := ⟨hn⟩
    unfold Tb.lastI
    rw [hn] at h0 hx hw0 ⊢
    clear h hc hn
    go_enter Try.func27, Try.ntmps27
    go_wp2_with fail
    go_loopw [5] (fun v wr => wr = W ∧ ∃ i : Nat, i ≤ n ∧ v = .int .i64 ((i : Int) - 1) ∧ Keep (Tb.lastU xs k n = Tb.lastU xs k i)) (fun v _ => (intOf v + 1).toNat)
    case atStart => exact ⟨rfl, n, by omega, rfl, ⟨rfl⟩⟩
    case round =>
      obtain ⟨rfl, i, hi, rfl, hR⟩ := hrel
      cases i with
      | zero =>
        have HR : Keep (Tb.lastU xs k n = -1) := ⟨hR.out⟩
        clear hR
        rw [show (((0 : Nat) : Int) - 1) = -1 by omega]
        go_wp2_with fail
        go_ret
        exact ⟨by rw [HR.out]; rfl, rfl⟩
      | succ i =>
        obtain ⟨x, hx1⟩ : ∃ x, xs[i]? = some x := ⟨_, List.getElem?_eq_getElem (by rw [HN.out]; omega)⟩
        have hc := HC.out i x hx1
        have HX : Keep (xs[i]? = some x ∧ i + 1 ≤ n) := ⟨hx1, hi⟩
        have hi0 : (0 : Int) ≤ (i : Int) := by omega
        have hi1 : (i : Int) < (n : Nat) := by omega
        have hwi : IntKind.i64.wrap ((i : Int) - 1) = i - 1 := wi _ (by omega) (by omega)
        have hti : ((i : Nat) : Int).toNat = i := by omega
        rw [show (((i + 1 : Nat) : Int) - 1) = (i : Int) by omega]
        clear hx1 hi
        by_cases hk : x = k
        · subst hk
          have HR : Keep (Tb.lastU xs x n = i) := ⟨by rw [hR.out, Tb.lastU, if_pos HX.out.1]⟩
          clear hR
          go_wp2_with fail
          go_ret
          exact ⟨by rw [HR.out]; rfl, rfl⟩
        · have HR : Keep (Tb.lastU xs k n = Tb.lastU xs k i) := ⟨by rw [hR.out, Tb.lastU, if_neg (by rw [HX.out.1]; exact fun e => hk (Option.some.inj e))]⟩
          have hsn := str_ne hk
          clear hR
          go_wp2_with fail
          exact ⟨⟨trivial, i, by have := HX.out.2; omega, rfl, HR⟩, by simp only [intOf]; omega⟩
  · have e : xs = [] := List.eq_nil_of_length_eq_zero (by omega)
    subst e
    obtain ⟨a, c, rfl⟩ := h.slice
    clear h
    go_enter Try.func27, Try.ntmps27
    go_wp2_with fail
    go_loopw [5] (fun v wr => wr = W ∧ v = .int .i64 (-1)) (fun _ _ => 0)
    case atStart => exact ⟨rfl, rfl⟩
    case round =>
      obtain ⟨rfl, rfl⟩ := hrel
      go_wp2_with fail
      go_ret
      exact ⟨rfl, rfl⟩
set_option maxHeartbeats 2000000 in
theorem all_c (W : World) (vu vl : Value) (U l : List ByteArray) (hU : Str W vu U) (hl : Str W vl l) (hx : U.length ≤ 4611686018427387904) (hy : l.length ≤ 4611686018427387904) (hA : ∀ u ∈ U, u ∈ l) :
    Calls Try.prog 28 #[vu, vl] W fun r W' => r = .returned (.bool true) ∧ W' = W := by
  by_cases h0 : 0 < U.length
  · obtain ⟨a, c, rfl, hc⟩ := hU.form h0
    have HC : Keep ((∀ (j : Nat) (x : ByteArray), U[j]? = some x → W.cell? (a.add j) = some (.string x)) ∧ (∀ u ∈ U, u ∈ l) ∧ Str W vl l) := ⟨hc, hA, hl⟩
    obtain ⟨n, hn⟩ : ∃ n, U.length = n := ⟨_, rfl⟩
    have HN : Keep (U.length = n) := ⟨hn⟩
    rw [hn] at h0 hx ⊢
    clear hU hc hn hl hA
    go_enter Try.func28, Try.ntmps28
    go_wp2_with fail
    go_loopw [5] (fun v wr => wr = W ∧ ∃ i : Nat, i ≤ n ∧ v = .int .i64 (i : Int)) (fun v _ => (n - intOf v).toNat)
    case atStart => exact ⟨rfl, 0, by omega, rfl⟩
    case round =>
      obtain ⟨rfl, i, hi, rfl⟩ := hrel
      by_cases hlt : i < n
      · obtain ⟨x, hx1⟩ : ∃ x, U[i]? = some x := ⟨_, List.getElem?_eq_getElem (by rw [HN.out]; omega)⟩
        have hc := HC.out.1 i x hx1
        have hi0 : (0 : Int) ≤ (i : Int) := by omega
        have hi1 : (i : Int) < (n : Nat) := by omega
        have hwi : IntKind.i64.wrap ((i : Int) + 1) = i + 1 := wi _ (by omega) (by omega)
        have hti : ((i : Nat) : Int).toNat = i := by omega
        have hm : 0 ≤ Tb.lastI l x := Tb.lastI_mem.2 (HC.out.2.1 x (List.mem_of_getElem? hx1))
        have hL := last_c wr vl l x HC.out.2.2 hy
        have HX : Keep (i < n) := ⟨hlt⟩
        generalize Tb.lastI l x = q at *
        clear hx1
        go_wp2_with fail
        refine hL.mono ?_
        rintro r w' ⟨rfl, hw⟩
        subst w'
        clear hL
        go_wp2_with fail
        exact ⟨⟨trivial, i + 1, by have := HX.out; omega, by simp⟩, by have := HX.out; simp only [intOf]; omega⟩
      · obtain rfl : i = n := by omega
        go_wp2_with fail
        go_ret
        exact ⟨rfl, rfl⟩
  · have e : U = [] := List.eq_nil_of_length_eq_zero (by omega)
    subst e
    obtain ⟨a, c, rfl⟩ := hU.slice
    clear hU hl hA
    go_enter Try.func28, Try.ntmps28
    go_wp2_with fail
    go_loopw [5] (fun v wr => wr = W ∧ v = .int .i64 0) (fun _ _ => 0)
    case atStart => exact ⟨rfl, rfl⟩
    case round =>
      obtain ⟨rfl, rfl⟩ := hrel
      go_wp2_with fail
      go_ret
      exact ⟨rfl, rfl⟩
set_option maxHeartbeats 2000000 in
theorem later_c (W : World) (vu vl : Value) (U l : List ByteArray) (k : ByteArray) (hU : Str W vu U) (hl : Str W vl (k :: l)) (hx : U.length ≤ 4611686018427387904) (hy : (k :: l).length ≤ 4611686018427387904) (h0 : 0 < U.length) (hA : ∀ (j : Nat) (u : ByteArray), Tb.lastI U k < (j : Int) → U[j]? = some u → u ∈ k :: l) :
    Calls Try.prog 29 #[vu, vl] W fun r W' => r = .returned (.bool true) ∧ W' = W := by
  obtain ⟨a, c, rfl, hc⟩ := hU.form h0
  obtain ⟨a2, c2, rfl, hc2⟩ := hl.form (by simp)
  have HC : Keep ((∀ (j : Nat) (x : ByteArray), U[j]? = some x → W.cell? (a.add j) = some (.string x)) ∧ (∀ (j : Nat) (u : ByteArray), Tb.lastI U k < (j : Int) → U[j]? = some u → u ∈ k :: l) ∧ Str W (.slice (some a2) (k :: l).length c2) (k :: l)) := ⟨hc, hA, hl⟩
  have hL := last_c W _ U k hU hx
  have c0 : W.cell? (a2.add 0) = some (.string k) := hc2 0 k rfl
  rw [add0] at c0
  obtain ⟨n, hn⟩ : ∃ n, U.length = n := ⟨_, rfl⟩
  have HN : Keep (U.length = n) := ⟨hn⟩
  have hb1 := Tb.lastU_ge U k U.length
  have hb2 := Tb.lastI_lt U k
  change -1 ≤ Tb.lastI U k at hb1
  rw [hn] at h0 hx hL hb2 ⊢
  clear hU hc hn hl hA hc2
  obtain ⟨m, hm⟩ : ∃ m, (k :: l).length = m := ⟨_, rfl⟩
  have HY : Keep ((k :: l).length ≤ 4611686018427387904) := ⟨hy⟩
  clear hy
  rw [hm] at HC ⊢
  have hm0 : (0 : Int) < (m : Nat) := by rw [← hm]; simp only [List.length_cons]; omega
  clear hm
  generalize hq : Tb.lastI U k = q at *
  have hwq : IntKind.i64.wrap (q + 1) = q + 1 := wi _ (by omega) (by omega)
  go_enter Try.func29, Try.ntmps29
  go_wp2_with fail
  refine hL.mono ?_
  rintro r w' ⟨rfl, hw⟩
  subst w'
  clear hL
  go_wp2_with fail
  go_loopw [6] (fun v wr => wr = W ∧ ∃ i : Nat, q < (i : Int) ∧ i ≤ n ∧ v = .int .i64 (i : Int)) (fun v _ => (n - intOf v).toNat)
  case atStart => exact ⟨rfl, (q + 1).toNat, by omega, by omega, by rw [Int.toNat_of_nonneg (by omega)]⟩
  case round =>
    obtain ⟨rfl, i, hqi, hi, rfl⟩ := hrel
    by_cases hlt : i < n
    · obtain ⟨x, hx1⟩ : ∃ x, U[i]? = some x := ⟨_, List.getElem?_eq_getElem (by rw [HN.out]; omega)⟩
      have hc := HC.out.1 i x hx1
      have hi0 : (0 : Int) ≤ (i : Int) := by omega
      have hi1 : (i : Int) < (n : Nat) := by omega
      have hwi : IntKind.i64.wrap ((i : Int) + 1) = i + 1 := wi _ (by omega) (by omega)
      have hti : ((i : Nat) : Int).toNat = i := by omega
      have hm : 0 ≤ Tb.lastI (k :: l) x := Tb.lastI_mem.2 (HC.out.2.1 i x hqi hx1)
      have hL := last_c wr _ (k :: l) x HC.out.2.2 HY.out
      have HX : Keep (i < n ∧ q < (i : Int)) := ⟨hlt, hqi⟩
      generalize Tb.lastI (k :: l) x = z at *
      clear hx1 hqi
      go_wp2_with fail
      refine hL.mono ?_
      rintro r w' ⟨rfl, hw⟩
      subst w'
      clear hL
      go_wp2_with fail
      exact ⟨⟨trivial, i + 1, by have := HX.out; omega, by have := HX.out; omega, by simp⟩, by have := HX.out; simp only [intOf]; omega⟩
    · obtain rfl : i = n := by omega
      clear hqi
      go_wp2_with fail
      go_ret
      exact ⟨rfl, rfl⟩
theorem last_q (W : World) (v : Value) (xs : List ByteArray) (k : ByteArray) (h : Str W v xs) (hx : xs.length ≤ 4611686018427387904) (m : Nat) :
    Calls Try.prog 27 #[v, .string k] (W.drewN m) fun r W' => r = .returned (iv (Tb.lastI xs k)) ∧ ∃ n, W' = (W.drewN m).drewN n :=
  (last_c (W.drewN m) v xs k (h.kept (gr_drewN _ _ _)) hx).mono fun _ _ ⟨h1, h2⟩ => ⟨h1, 0, h2⟩
theorem all_q (W : World) (vu vl : Value) (U l : List ByteArray) (hU : Str W vu U) (hl : Str W vl l) (hx : U.length ≤ 4611686018427387904) (hy : l.length ≤ 4611686018427387904) (hA : ∀ u ∈ U, u ∈ l) (m : Nat) :
    Calls Try.prog 28 #[vu, vl] (W.drewN m) fun r W' => r = .returned (.bool true) ∧ ∃ n, W' = (W.drewN m).drewN n :=
  (all_c (W.drewN m) vu vl U l (hU.kept (gr_drewN _ _ _)) (hl.kept (gr_drewN _ _ _)) hx hy hA).mono fun _ _ ⟨h1, h2⟩ => ⟨h1, 0, h2⟩
theorem later_q (W : World) (vu vl : Value) (U l : List ByteArray) (k : ByteArray) (hU : Str W vu U) (hl : Str W vl (k :: l)) (hx : U.length ≤ 4611686018427387904) (hy : (k :: l).length ≤ 4611686018427387904) (h0 : 0 < U.length) (hA : ∀ (j : Nat) (u : ByteArray), Tb.lastI U k < (j : Int) → U[j]? = some u → u ∈ k :: l) (m : Nat) :
    Calls Try.prog 29 #[vu, vl] (W.drewN m) fun r W' => r = .returned (.bool true) ∧ ∃ n, W' = (W.drewN m).drewN n :=
  (later_c (W.drewN m) vu vl U l k (hU.kept (gr_drewN _ _ _)) (hl.kept (gr_drewN _ _ _)) hx hy h0 hA).mono fun _ _ ⟨h1, h2⟩ => ⟨h1, 0, h2⟩
/-- a row that grows by one string -/
theorem app_s {w0 W : World} {l : List As} {v : Value} {xs : List ByteArray} (x : ByteArray) (h : Sep w0 W (rowA v xs :: l)) (hn : xs.length ≤ 8796093022000) :
    ∃ (a' : Addr) (c' : Nat) (W' : World), (Builtin.append_ #[22, 22] 22 #[v, .slice (some ⟨W.heap.size, 0, none⟩) 1 1]).run Try.prog (W.alloc (.cells #[.string x] 9)) = .ok (.slice (some a') (xs.length + 1) c') W' ∧ Sep w0 W' (rowA (.slice (some a') (xs.length + 1) c') (xs ++ [x]) :: l) := by
  obtain ⟨F, ⟨h1, rfl⟩, _, hu⟩ := h.use
  obtain ⟨a', c', W', r1, r2, r3, r4⟩ := apps1 W 0 v xs.length xs x h1 hn (Nat.zero_le _)
  obtain ⟨g, cap, tl, e, _⟩ := own_row r2 (by omega)
  injection e with e1 e2 e3
  subst e1 e3
  refine ⟨⟨g, 0, none⟩, c', W', r1, hu W' [_] ((Fr.of r3).mono (fun i hi => .inl hi)) (Loc.one (a := rowA _ _) _ ⟨by rw [List.length_append]; exact r2, rfl⟩ (fun i hi => ?_))⟩
  rcases r4 with q | ⟨g, q, hg⟩
  · exact .inl (by rw [← q]; exact hi)
  · rw [q] at hi
    injection hi with e
    exact .inr (by rw [← e]; exact hg)
theorem tlen {w0 W : World} {l : List As} {tb sz : Nat} {L : KV} (h : Sep w0 W (tabA tb sz L :: l)) : L.length ≤ sz := (h.tab (List.mem_cons_self ..)).le
theorem tnk {w0 W : World} {l : List As} {tb sz : Nat} {L : KV} (h : Sep w0 W (tabA tb sz L :: l)) : (Tb.keys L).Nodup := (h.tab (List.mem_cons_self ..)).nk
theorem Str.cell {W : World} {a : Addr} {n c : Nat} {xs : List ByteArray} (h : Str W (.slice (some a) n c) xs) {j : Nat} {x : ByteArray} (hj : xs[j]? = some x) : W.cell? (a.add j) = some (.string x) := by
  rcases h.o with ⟨e, _⟩ | ⟨a', c', e, q⟩
  · cases e
  · injection e with e1
    injection e1 with e1
    rw [e1]; exact q j x hj
theorem Sep.nilrow {w0 W : World} {l : List As} (h : Sep w0 W l) : Sep w0 W (rowA (.slice none 0 0) [] :: l) :=
  h.new (World.grownBy.refl _ _) (Loc.one (a := rowA _ _) _ ⟨⟨rfl, .inl ⟨rfl, rfl⟩⟩, rfl⟩ (fun i hi => by cases hi))
theorem Sep.cell {w0 W : World} {l : List As} (h : Sep w0 W l) {a : Addr} {v : Value} (hc : w0.cell? a = some v) : W.cell? a = some v := by
  have hb : a.block < w0.heap.size := World.block_lt_of_cell? w0 _ hc
  rw [← hc]
  have := h.g.block _ hb (by simp)
  simp only [World.cell?, this]
end Go.Proofs.Ytkaakbldkicnaaa
