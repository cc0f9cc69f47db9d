/- grid: sortBy, numbers. -/
import Derived.Test.YtidpafmhmhojmaaH6
import Derived.Laws.MakeOwn
namespace Go.Proofs.Ytidpafmhmhojmaa
open Go Go.RowKit Go.Shelf Go.Lib Go.Sort

theorem row_parts {w0 W : World} {l : List As} {e : TypeId} {v : Value} {n : Nat} {xs : List Value} (h : Sep w0 W (rowV e 1 v n xs :: l)) : (n = 0 ∧ v = .slice none 0 0) ∨ ∃ g c, v = sl g n c ∧ n ≤ c := by
  obtain ⟨_, h2⟩ := h.rowGet k0m
  rcases h2 with ⟨q, q2⟩ | ⟨g, cap, cur, q, _, _, h3, _⟩
  · exact .inl ⟨by omega, q⟩
  · exact .inr ⟨g, cap, q, by omega⟩
structure SbR (w0 W : World) (N : List Tg) (cf : Tg → Tg → Int) (l : List As) (v : Value) : Prop where
  o : ∃ N' : List Tg, N'.Perm N ∧ N'.Pairwise (fun a b => ltOf cf b a = false) ∧ Sep w0 W (rowV 57 1 v N'.length (N'.map (fun t => pt t.b)) :: l)
set_option maxRecDepth 100000 in
set_option maxHeartbeats 4000000 in
theorem sortBy_c (w0 W : World) (l : List As) (v : Value) (N : List Tg) (fg k q : Nat) (cf : Tg → Tg → Int) (hO : SWO (ltOf cf)) (hn1 : N.length < 4611686018427387904)
    (hcmp : ∀ (kb : Nat) (W1 : World) (g c : Nat), Sep w0 W1 (rowV 57 1 (sl g N.length c) N.length (N.map (fun t => pt t.b)) :: boxA kb [sl fg k q] 81 :: l) → ∀ W' : World, (∀ b, b < W1.heap.size → b ≠ g → W'.heap[b]? = W1.heap[b]?) → ∀ t ∈ N, ∀ u ∈ N, Calls Try.prog 44 #[pt t.b, pt u.b, pt kb] W' fun e w' => e = .returned (iv (cf t u)) ∧ Gw W' w')
    (h : Sep w0 W (rowV 57 1 v N.length (N.map (fun t => pt t.b)) :: l)) :
    Calls Try.prog 31 #[v, sl fg k q] W fun e W' => e = .returned (.tuple #[]) ∧ SbR w0 W' N cf l v := by
  have S1 := h.newBox #[sl fg k q] 81
  obtain ⟨W1, hW1⟩ : ∃ W1, W.alloc (.cells #[sl fg k q] 81) = W1 := ⟨_, rfl⟩
  obtain ⟨kb, hkb⟩ : ∃ b, W.heap.size = b := ⟨_, rfl⟩
  rw [hW1, hkb] at S1
  have S2 : Sep w0 W1 (rowV 57 1 v N.length (N.map (fun t => pt t.b)) :: boxA kb [sl fg k q] 81 :: l) := S1.swap
  have HC : Keep (Calls Try.prog 43 #[v, .func (.func 44) #[] #[pt kb]] W1 fun e W' => e = .returned (.tuple #[]) ∧ SbR w0 W' N cf l v) := ⟨by
    by_cases h0 : N.length = 0
    · obtain ⟨a, c, e⟩ := own_slice (S2.rowGet k0m)
      rw [h0] at e
      subst e
      refine (sort_none W1 a c _).mono ?_
      rintro e W' ⟨rfl, rfl⟩
      have hN := List.eq_nil_of_length_eq_zero h0
      exact ⟨rfl, ⟨N, List.Perm.refl _, by rw [hN]; exact List.Pairwise.nil, S2.swap.tail⟩⟩
    · rcases row_parts S2 with ⟨q1, _⟩ | ⟨g, c, rfl, _⟩
      · exact absurd q1 h0
      · refine (sort_some w0 W1 _ g N.length c kb N cf hO rfl (by omega) hn1 (hcmp kb W1 g c S2) S2).mono ?_
        rintro e W' ⟨rfl, N', p1, p2, p3⟩
        exact ⟨rfl, ⟨N', p1, p2, by rw [p1.length_eq]; exact p3.swap.tail⟩⟩⟩
  clear S1 S2 h hcmp hn1
  go_enter Try.func31, Try.ntmps31
  go_wp2_with fail
  refine HC.out.mono ?_
  rintro e W2 ⟨rfl, hR⟩
  have HR := Keep.mk hR
  clear hR
  go_wp2_with fail
  go_end0
  exact ⟨rfl, HR.out⟩

theorem info3b : ∃ i, Try.prog.info? 3 = some i ∧ i.size = 1 ∧ i.bytes = 8 ∧ i.zero = some (iv 0) := by
  have h : (Try.prog.info? 3).map (fun i => (i.size, i.bytes, i.zero)) = some (1, 8, some (iv 0)) := by kernel_rfl
  cases e : Try.prog.info? 3 with
  | none => rw [e] at h; cases h
  | some i =>
    rw [e] at h
    simp only [Option.map_some, Option.some.injEq, Prod.mk.injEq] at h
    exact ⟨i, rfl, h.1, h.2.1, h.2.2⟩
theorem Sep.made3 {w0 W : World} {l : List As} (h : Sep w0 W l) (n : Nat) (hn : n * 8 ≤ 140737488355328) :
    ∃ W', (Instr.makeSlice 29 (.int .i64 0) (.int .i64 (n : Int))).run Try.prog W = .ok (sl W.heap.size 0 n) W' ∧ Sep w0 W' (rowV 3 1 (sl W.heap.size 0 n) 0 [] :: l) := by
  obtain ⟨i, i1, i2, i3, i4⟩ := info3b
  obtain ⟨W', r1, r2, r3⟩ := run_make_own (P := Try.prog) W 0 29 3 i _ 1 Try.underlying29 i1 i4 i2 .i64 .i64 n (by rw [i3]; omega) (by unfold maxLen; omega) (Nat.zero_le _)
  exact ⟨W', r1, h.new r3 (Loc.one (a := rowV _ _ _ _ _) _ ⟨r2, rfl⟩ (fun j hj => .inr (by have e : W.heap.size = j := Option.some.inj hj; omega)))⟩
set_option maxRecDepth 100000 in
set_option maxHeartbeats 8000000 in
theorem numbers_c (w0 W : World) (l : List As) (v : Value) (N : List Tg) (hn : N.length * 8 + 8 ≤ 140737488355328) (hb : ∀ t ∈ N, tgA t ∈ l) (h : Sep w0 W (rowV 57 1 v N.length (N.map (fun t => pt t.b)) :: l)) :
    Calls Try.prog 33 #[v] W fun e W' => ∃ u, e = .returned u ∧ Sep w0 W' (rowV 3 1 u N.length (N.map (fun t => iv t.id)) :: rowV 57 1 v N.length (N.map (fun t => pt t.b)) :: l) := by
  obtain ⟨a, c, rfl⟩ := own_slice (h.rowGet k0m)
  obtain ⟨W1, r1, S1⟩ := h.made3 N.length (by omega)
  obtain ⟨n, hnn⟩ : ∃ n, N.length = n := ⟨_, rfl⟩
  rw [hnn] at r1 S1 ⊢
  obtain ⟨g0, hg0⟩ : ∃ b, W.heap.size = b := ⟨_, rfl⟩
  rw [hg0] at r1 S1
  have HS := Keep.mk S1
  have HN := Keep.mk hnn
  have HN2 : Keep (n * 8 + 8 ≤ 140737488355328) := ⟨by omega⟩
  have HT := Keep.mk hb
  clear h S1 hg0 hnn hb hn
  go_enter Try.func33, Try.ntmps33
  go_wp2_with fail
  clear r1
  go_loopw [3, 11] (fun u3 u11 wr => ∃ i : Nat, i ≤ n ∧ u11 = iv i ∧ Keep (Sep w0 wr (rowV 3 1 u3 i ((N.take i).map (fun t => iv t.id)) :: rowV 57 1 (.slice a n c) n (N.map (fun t => pt t.b)) :: l))) (fun _ u11 _ => (n - intOf u11).toNat)
  case atStart => exact ⟨0, by omega, rfl, ⟨by simpa using HS.out⟩⟩
  case round =>
    clear HS
    obtain ⟨i, hi, rfl, hS⟩ := hrel
    by_cases hlt : i < n
    · obtain ⟨t, ht⟩ : ∃ t, N[i]? = some t := ⟨_, List.getElem?_eq_getElem (by rw [HN.out]; exact hlt)⟩
      obtain ⟨g1, c1, e1, hq⟩ := own_any (hS.out.rowGet k1m) (by omega)
      injection e1 with e1 _ e3
      subst e1 e3
      have l1 := (hq i (pt t.b) (by rw [List.getElem?_map, ht]; rfl)).1
      have hm : tgA t ∈ rowV 3 1 u3 i ((N.take i).map (fun t => iv t.id)) :: rowV 57 1 (sl g1 n c) n (N.map (fun t => pt t.b)) :: l := List.mem_cons_of_mem _ (List.mem_cons_of_mem _ (HT.out t (List.mem_of_getElem? ht)))
      have l2 := (hS.out.boxGet hm).cellv 0 _ rfl
      have hi0 : (i : Int) < (n : Int) := by omega
      have hii : IntKind.i64.wrap ((i : Int) + 1) = ((i + 1 : Nat) : Int) := by have := HN2.out; rw [IntKind.wrap_i64]; omega
      obtain ⟨i0, i1, i2, i3, i4⟩ := info3b
      obtain ⟨g9, c9, W9, ap, S9⟩ := Sep.app (t := 29) (bytes := 8) Try.underlying29 i1 i4 i2 i3 rfl (by omega) hS.out [iv t.id] rfl (by intro u hu; simp at hu; subst hu; rfl) (by have := HN2.out; omega) (by omega)
      have AP := Keep.mk ap
      have HS9 : Keep (Sep w0 W9 (rowV 3 1 (sl g9 (i + 1) c9) (i + 1) ((N.take (i + 1)).map (fun t => iv t.id)) :: rowV 57 1 (sl g1 n c) n (N.map (fun t => pt t.b)) :: l)) := ⟨by
        rw [List.take_add_one, ht, Option.toList, List.map_append, List.map_cons, List.map_nil]
        exact S9⟩
      obtain ⟨wb, hwb⟩ : ∃ b, wr.heap.size = b := ⟨_, rfl⟩
      rw [hwb] at AP
      obtain ⟨n1, hn1⟩ : ∃ n1, i + 1 = n1 := ⟨_, rfl⟩
      rw [hn1] at AP HS9 hii
      have HN1 := Keep.mk hn1
      clear ap S9 i1 i2 i3 i4 hS hq hm ht hn1
      go_wp2_with (first
        | (at_builtin; refine wpList_append_run _ rfl (.tmp 15) (.tmp 20) 29 rfl _ _ rfl rfl AP.out ?_))
      go_roundw
      case rel => exact ⟨n1, by have := HN1.out; omega, rfl, HS9⟩
      case measure => have := HN1.out; simp [intOf]; omega
    · have HE : Keep (Sep w0 wr (rowV 3 1 u3 n (N.map (fun t => iv t.id)) :: rowV 57 1 (.slice a n c) n (N.map (fun t => pt t.b)) :: l)) := ⟨by
        have q := hS.out
        rw [show i = n by omega, List.take_of_length_le (by rw [HN.out]; omega)] at q
        exact q⟩
      clear hS
      go_wp2_with fail
      go_ret
      exact ⟨_, rfl, HE.out⟩
end Go.Proofs.Ytidpafmhmhojmaa
