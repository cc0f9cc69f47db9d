/- the reference's ring: Pop, Push. -/
import Derived.Test.YtflglflggeaokaaD1
namespace Go.Proofs.Ytflglflggeaokaa
open Go Go.RowKit

theorem dpop_yes (db : Nat) (a : Option Addr) (c sz : Nat) (L : List Int) (x : Int) (w : World) (h : DAt w db a c sz (x :: L)) :
    Calls Try.prog 35 #[.pointer (some ⟨db, 0, none⟩)] w fun e w' => e = .returned (.tuple #[.int .i64 x, .bool true]) ∧ ∃ a' c', DAt w' db a' c' sz L ∧ Fr (fun i => i = db) w w' ∧ (∀ i, DF db a' i → DF db a i) := by
  have h0 : w.cell? ⟨db, 0, none⟩ = some (.slice a (L.length + 1) c) := h.h.cellv 0 _ rfl
  have hf0 : w.frozen? ⟨db, 0, none⟩ = false := h.h.frozen _
  have hcap : L.length + 1 ≤ c := h.row.cap
  obtain ⟨g, o, rfl, hc⟩ := h.row.ints.at_ (by simp)
  have h1 := hc 0 x rfl
  rw [Nat.add_zero] at h1
  have HD : Keep (DAt w db (some ⟨g, o, none⟩) c sz (x :: L)) := ⟨h⟩
  clear h hc
  obtain ⟨n, hn⟩ : ∃ n, L.length = n := ⟨_, rfl⟩
  rw [hn] at h0 hcap
  have hn0 : ((n : Int) + 1 == 0) = false := by simp; omega
  have key : ∀ o' c', (c' = 0 ∨ o' = o + 1) → c' = c - 1 → DAt (w.setCell ⟨db, 0, none⟩ (.slice (some ⟨g, o', none⟩) n c')) db (some ⟨g, o', none⟩) c' sz L ∧ Fr (fun i => i = db) w (w.setCell ⟨db, 0, none⟩ (.slice (some ⟨g, o', none⟩) n c')) ∧ (∀ i, DF db (some ⟨g, o', none⟩) i → DF db (some ⟨g, o, none⟩) i) := by
    intro o' c' ho hc'
    have h := HD.out
    have f : Fr (fun i => i = db) w (w.setCell ⟨db, 0, none⟩ (.slice (some ⟨g, o', none⟩) n c')) := Fr.ofSome (gr_set _ _ _ _) rfl
    have hg : g ≠ db := h.ne g o rfl
    rcases h.row.or with ⟨e, _⟩ | ⟨g2, o2, cs, e, hh, h2, h3, h4⟩
    · cases e
    · cases e
      have hle := h.le
      rw [List.length_cons] at h3 hle
      refine ⟨⟨h.lo, h.hi, by omega, ?_, ⟨.inr ⟨g, o', cs, rfl, hh.fr f hg, ?_, by omega, fun j y hy => ?_⟩⟩, fun g3 o3 e => by cases e; exact hg⟩, f, fun i hi => ?_⟩
      · have := h.h.setCell 0 (.slice (some ⟨g, o', none⟩) n c')
        rw [hn]
        exact this
      · rcases h2 with h2 | h2
        · omega
        · rcases ho with ho | ho
          · exact .inl ho
          · by_cases hz : c' = 0
            · exact .inl hz
            · right; omega
      · have hj : j < L.length := (List.getElem?_eq_some_iff.1 hy).1
        have := h4 (j + 1) y (by simpa using hy)
        rcases ho with ho | ho
        · omega
        · rw [ho, show o + 1 + j = o + (j + 1) by omega]; exact this
      · rcases hi with hi | ⟨o3, hi⟩
        · exact .inl hi
        · cases hi; exact .inr ⟨o, rfl⟩
  have KEY : Keep (∀ o' c', _) := ⟨key⟩
  have HN : Keep (L.length = n) := ⟨hn⟩
  clear key hn HD
  by_cases hc1 : c = 1
  · have hn1 : n = 0 := by omega
    go_enter Try.func35, Try.ntmps35
    go_wp2_with fail
    go_ret2
    refine ⟨rfl, some ⟨g, o, none⟩, 0, ?_⟩
    have := KEY.out o 0 (.inl rfl) (by omega)
    rw [hn1] at this
    exact this
  · go_enter Try.func35, Try.ntmps35
    go_wp2_with fail
    go_ret2
    refine ⟨rfl, some ⟨g, o + 1, none⟩, c - 1, ?_⟩
    exact KEY.out (o + 1) (c - 1) (.inr rfl) rfl

/-- a row of the call's own, as a slice -/
theorem drow_of {w0 w : World} {a : Option Addr} {n c : Nat} {xs : List Int} (h : w.ownsRow w0.heap.size 3 1 (.slice a n c) n (xs.map iv)) (hn : xs.length = n) : DRow w a c xs ∧ ∀ g o, a = some ⟨g, o, none⟩ → w0.heap.size ≤ g := by
  obtain ⟨h1, h2⟩ := h
  rcases h2 with ⟨e, h0⟩ | ⟨g, cap, cur, e, hb, hheap, h3, h4, h5, h6⟩
  · injection e with e1 e2 e3
    subst e1 e3
    exact ⟨⟨.inl ⟨rfl, rfl, List.length_eq_zero_iff.1 (by omega)⟩⟩, fun g o e => by cases e⟩
  · injection e with e1 e2 e3
    subst e1 e3
    refine ⟨⟨.inr ⟨g, 0, cur.toList, rfl, by unfold Has; rw [hheap], .inr (by simp; omega), by omega, fun j x hx => ?_⟩⟩, fun g o e => by cases e; exact hb⟩
    have hj : j < n := by rw [← hn]; exact (List.getElem?_eq_some_iff.1 hx).1
    have e : (xs.map iv)[j]? = some (iv x) := by rw [List.getElem?_map, hx]; rfl
    rw [← h6, List.getElem?_take, if_pos (by omega)] at e
    rw [Nat.zero_add]; exact e
theorem dappend {W : World} {a : Option Addr} {c : Nat} {L : List Int} (h : DRow W a c L) (x : Int) (hL : L.length ≤ 1000000) :
    ∃ a' c' w', (Builtin.append_ #[22, 22] 22 #[.slice a L.length c, .slice (some ⟨W.heap.size, 0, none⟩) 1 1]).run Try.prog (W.alloc (.cells #[.int .i64 x] 3)) = .ok (.slice a' (L.length + 1) c') w' ∧ DRow w' a' c' (L ++ [x]) ∧ Fr (fun i => ∃ o, a = some ⟨i, o, none⟩) W w' ∧ (∀ g o, a' = some ⟨g, o, none⟩ → (∃ o2, a = some ⟨g, o2, none⟩) ∨ W.heap.size ≤ g) := by
  obtain ⟨i, h1, h2, h3, h4⟩ := info3
  have ga := World.grownBy_alloc W (.cells #[.int .i64 x] 3) none
  have hnew : ∀ j u, [iv x][j]? = some u → (W.alloc (.cells #[.int .i64 x] 3)).cell? ((⟨W.heap.size, 0, none⟩ : Addr).add j) = some u := fun j u hu => by
    rw [Addr.add_mid, Nat.zero_add]
    refine (Has.newA W #[.int .i64 x] 3).cellv j _ ?_
    match j, hu with
    | 0, hu => exact hu
    | j + 1, hu => simp at hu
  have hone : ∀ u ∈ [iv x], u.oneCell' = true := fun u hu => by simp at hu; subst hu; rfl
  have el : L.map iv ++ [iv x] = (L ++ [x]).map iv := by simp
  have hsz : (W.alloc (.cells #[.int .i64 x] 3)).heap.size = W.heap.size + 1 := by simp
  rcases h.or with ⟨rfl, rfl, rfl⟩ | ⟨g, o, cs, rfl, hh, hc, hle, hat⟩
  · obtain ⟨v', w', r1, r2, r3, _, r5⟩ := run_append_own_at (P := Try.prog) (W.alloc (.cells #[.int .i64 x] 3)) W.heap.size 22 22 3 i (.int .i64 0) 1 8 under22 h1 h4 h2 h3 rfl (by decide) (.slice none 0 0) 0 [] (World.ownsRow_nil _ _ _ _) ⟨W.heap.size, 0, none⟩ 1 1 [iv x] rfl hnew hone (by unfold maxLen; omega) (by omega) (by omega)
    have r2' : Row W w' v' [x] := r2
    obtain ⟨a', c', rfl, _⟩ := row_shape r2'
    obtain ⟨d1, d2⟩ := drow_of (w0 := W) (n := 1) (xs := [x]) r2 rfl
    exact ⟨a', c', w', r1, d1, (Fr.ofNone (ga.trans r3)), fun g o e => .inr (d2 g o e)⟩
  · have hh2 := hh.kept ga (by simp)
    have holds : ∀ j u, (L.map iv)[j]? = some u → (W.alloc (.cells #[.int .i64 x] 3)).cell? ((⟨g, o, none⟩ : Addr).add j) = some u := fun j u hu => by
      rw [Addr.add_mid, hh2.cell]
      rw [List.getElem?_map] at hu
      cases hx : L[j]? with
      | none => rw [hx] at hu; cases hu
      | some y => rw [hx] at hu; obtain rfl := Option.some.inj hu; exact hat j y hx
    by_cases hroom : L.length + 1 ≤ c
    · have hc2 : o + c ≤ cs.length := by rcases hc with e | e; omega; exact e
      have hr := run_append_room_cells (P := Try.prog) (W.alloc (.cells #[.int .i64 x] 3)) 22 22 3 i under22 h1 g o L.length c ⟨W.heap.size, 0, none⟩ 1 1 [iv x] (by rw [h2]; rfl) hnew hone hroom (fun j hj => by
          rw [h2, Nat.mul_one, hh2.cell]
          simp at hj
          subst hj
          rw [Nat.add_zero, List.getElem?_eq_getElem (by omega)]; rfl) (fun j _ => hh2.frozen _)
      rw [h2, Nat.mul_one] at hr
      refine ⟨some ⟨g, o, none⟩, c, _, hr, ⟨.inr ⟨g, o, _, rfl, hh2.setCells [iv x] (o + L.length), .inr ?_, by rw [List.length_append, List.length_singleton]; omega, fun j y hy => ?_⟩⟩, ?_, fun g' o' e => by cases e; exact .inl ⟨o, rfl⟩⟩
      · simp [over]; omega
      · show (cs.set (o + L.length) (iv x))[o + j]? = _
        by_cases hj : j < L.length
        · rw [List.getElem?_set_ne (by omega)]
          rw [List.getElem?_append_left hj] at hy
          exact hat j y hy
        · have hj2 : j = L.length := by
            have := (List.getElem?_eq_some_iff.1 hy).1
            rw [List.length_append, List.length_singleton] at this
            omega
          subst hj2
          rw [List.getElem?_append_right (Nat.le_refl _), Nat.sub_self] at hy
          cases hy
          rw [List.getElem?_set_self (by omega)]
      · exact (Fr.ofNone ga).then (Fr.of (gr_sets g [iv x] _ _)) (fun i e => by cases e; exact .inl ⟨o, rfl⟩)
    · obtain ⟨v', w', r1, r2, r3⟩ := run_append_arg_grows (P := Try.prog) (W.alloc (.cells #[.int .i64 x] 3)) 22 22 3 i (.int .i64 0) 1 8 under22 h1 h4 h2 h3 rfl (by decide) ⟨g, o, none⟩ L.length c (L.map iv) (by simp) holds ⟨W.heap.size, 0, none⟩ 1 1 [iv x] rfl hnew (by omega) (by unfold maxLen; omega) (by omega)
      rw [el] at r2
      have hl2 : (L ++ [x]).length = L.length + 1 := by simp
      have r2' : w'.ownsRow (W.alloc (.cells #[.int .i64 x] 3)).heap.size 3 1 v' (L ++ [x]).length ((L ++ [x]).map iv) := by rw [hl2]; exact r2
      obtain ⟨a', c', rfl, _⟩ := row_shape (w0 := W.alloc (.cells #[.int .i64 x] 3)) r2'
      rw [hl2] at r1 r2'
      obtain ⟨d1, d2⟩ := drow_of (w0 := W.alloc (.cells #[.int .i64 x] 3)) r2' hl2
      exact ⟨a', c', w', r1, d1, (Fr.ofNone (ga.trans r3)), fun g o e => .inr (by have := d2 g o e; omega)⟩

/-- what the reference's calls leave -/
structure DDid (w w' : World) (db : Nat) (a a' : Option Addr) (c' sz : Nat) (L : List Int) : Prop where
  d : DAt w' db a' c' sz L
  f : Fr (DF db a) w w'
  n : ∀ i, DF db a' i → DF db a i ∨ w.heap.size ≤ i
theorem dpush_yes (db : Nat) (a : Option Addr) (c sz : Nat) (L : List Int) (x : Int) (w : World) (h : DAt w db a c sz L) (hl : L.length < sz) :
    Calls Try.prog 34 #[.pointer (some ⟨db, 0, none⟩), .int .i64 x] w fun e w' => e = .returned (.int .i64 0) ∧ ∃ a' c', DDid w w' db a a' c' sz (L ++ [x]) := by
  have h0 : w.cell? ⟨db, 0, none⟩ = some (.slice a L.length c) := h.h.cellv 0 _ rfl
  have h1 : w.cell? ⟨db, 1, none⟩ = some (.int .i64 sz) := h.h.cellv 1 _ rfl
  have hhi := h.hi
  have HD : Keep (DAt w db a c sz L ∧ L.length < sz) := ⟨h, hl⟩
  clear h
  obtain ⟨n, hn⟩ : ∃ n, L.length = n := ⟨_, rfl⟩
  rw [hn] at h0 hl
  have hge : ¬ ((sz : Int) ≤ (n : Int)) := by omega
  have HN : Keep (L.length = n) := ⟨hn⟩
  clear hn
  go_enter Try.func34, Try.ntmps34
  go_wp2_with fail
  go_quiet (fail)
  rename_i nq
  obtain ⟨a', c', w2, r1, r2, r3, r4⟩ := dappend (HD.out.1.drewN nq).row x (by have := HD.out; have := HD.out.1.hi; omega)
  rw [HN.out] at r1
  have hdb : db < w.heap.size := HD.out.1.h.lt
  have hne : ∀ o, a ≠ some ⟨db, o, none⟩ := fun o e => HD.out.1.ne db o e rfl
  have hh2 : Has w2 db (dcs a L.length c sz) 75 := (HD.out.1.drewN nq).h.fr r3 (fun ⟨o, e⟩ => hne o e)
  have c2 : w2.cell? ⟨db, 0, none⟩ = some (.slice a n c) := by have := hh2.cellv 0 _ rfl; rwa [HN.out] at this
  have f2 : w2.frozen? ⟨db, 0, none⟩ = false := hh2.frozen _
  have R1 : Keep (_ = _) := ⟨r1⟩
  have HK : Keep (DDid w (w2.setCell ⟨db, 0, none⟩ (.slice a' (n + 1) c')) db a a' c' sz (L ++ [x])) := by
    have hne' : ∀ g o, a' = some ⟨g, o, none⟩ → g ≠ db := fun g o e e2 => by
      rcases r4 g o e with ⟨o2, q⟩ | q
      · exact hne o2 (by rw [q, e2])
      · have : (w.drewN nq).heap.size = w.heap.size := rfl
        omega
    have f : Fr (fun i => i = db) w2 (w2.setCell ⟨db, 0, none⟩ (.slice a' (n + 1) c')) := Fr.ofSome (gr_set _ _ _ _) rfl
    refine ⟨⟨HD.out.1.lo, HD.out.1.hi, by rw [List.length_append, List.length_singleton]; have := HD.out.2; omega, ?_, r2.fr f (fun g o e => hne' g o e), hne'⟩, ?_, fun i hi => ?_⟩
    · have := hh2.setCell 0 (.slice a' (n + 1) c')
      rw [List.length_append, List.length_singleton, HN.out]
      rw [HN.out] at this
      exact this
    · exact ((Fr.ofNone (gr_drewN w nq none)).then r3 (fun i ⟨o, e⟩ => .inl (.inr ⟨o, e⟩))).then f (fun i e => .inl (.inl e))
    · rcases hi with rfl | ⟨o, e⟩
      · exact .inl (.inl rfl)
      · rcases r4 i o e with ⟨o2, q⟩ | q
        · exact .inl (.inr ⟨o2, q⟩)
        · exact .inr q
  clear r1 r2 r3 r4 hh2 hne
  go_wp2_with ((at_builtin; refine wpList_append_run _ rfl (.tmp 19) (.tmp 21) 22 rfl _ _ rfl rfl R1.out ?_))
  go_ret
  exact ⟨rfl, _, _, HK.out⟩
theorem dpop_did (db : Nat) (a : Option Addr) (c sz : Nat) (L : List Int) (x : Int) (w : World) (h : DAt w db a c sz (x :: L)) :
    Calls Try.prog 35 #[.pointer (some ⟨db, 0, none⟩)] w fun e w' => e = .returned (.tuple #[.int .i64 x, .bool true]) ∧ ∃ a' c', DDid w w' db a a' c' sz L := by
  refine (dpop_yes db a c sz L x w h).mono ?_
  rintro e w' ⟨rfl, a', c', h1, h2, h3⟩
  exact ⟨rfl, a', c', h1, h2.mono (fun i e => .inl (.inl e)), fun i hi => .inl (h3 i hi)⟩
end Go.Proofs.Ytflglflggeaokaa
