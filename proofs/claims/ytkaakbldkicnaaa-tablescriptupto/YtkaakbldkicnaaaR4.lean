/- the document's table: out, Get, Peek, Put, Delete, Keys, Set, New. -/
import Derived.Test.YtkaakbldkicnaaaR2
import Derived.Test.YtkaakbldkicnaaaR3
namespace Go.Proofs.Ytkaakbldkicnaaa
open Go Go.RowKit Go.Maps

def refL (db sz : Nat) (L : KV) (v : Value) : List As := [boxA db [v, iv (sz : Nat)] 94, rowV 97 2 v L.length (its L)]
/-- the document's table -/
def refA (db sz : Nat) (L : KV) : As := exA (refL db sz L)
/-- a row of items grows by one -/
theorem Sep.item {w0 W : World} {l : List As} {v : Value} {L : KV} (p : ByteArray × Int) (h : Sep w0 W (rowV 97 2 v L.length (its L) :: l)) (hn : L.length ≤ 5000) :
    ∃ g c W', (Builtin.append_ #[92, 92] 92 #[v, .slice (some ⟨W.heap.size, 0, none⟩) 1 1]).run Try.prog (W.alloc (.cells #[.string p.1, iv p.2] 97)) = .ok (.slice (some ⟨g, 0, none⟩) (L.length + 1) c) W' ∧ Sep w0 W' (rowV 97 2 (.slice (some ⟨g, 0, none⟩) (L.length + 1) c) (L ++ [p]).length (its (L ++ [p])) :: l) := by
  obtain ⟨i, i1, i2, i3, i4⟩ := info97
  obtain ⟨g, c, W', r1, r2⟩ := Sep.app under92 i1 i4 i2 i3 rfl (by decide) h [.string p.1, iv p.2] rfl (its_one p) (by omega) (by decide)
  refine ⟨g, c, W', r1, ?_⟩
  rw [List.length_append, its_app]
  exact r2
theorem erase_step {L : KV} {m i : Nat} {p : ByteArray × Int} (h : L[i]? = some p) : (L.take (i + 1)).eraseIdx m = if i = m then (L.take i).eraseIdx m else (L.take i).eraseIdx m ++ [p] := by
  have hi : i < L.length := (List.getElem?_eq_some_iff.1 h).1
  have e : L.take (i + 1) = L.take i ++ [p] := by rw [List.take_add_one, h]; rfl
  have hl : (L.take i).length = i := by rw [List.length_take]; omega
  rw [e]
  split
  · rename_i q
    subst q
    rw [List.eraseIdx_append_of_length_le (by omega), hl, Nat.sub_self, show [p].eraseIdx 0 = [] from rfl, List.append_nil, List.eraseIdx_of_length_le (by omega)]
  · rename_i q
    by_cases hm : m < i
    · rw [List.eraseIdx_append_of_lt_length (by omega)]
    · rw [List.eraseIdx_append_of_length_le (by omega), hl, List.eraseIdx_of_length_le (k := m - i) (by simp; omega), List.eraseIdx_of_length_le (k := m) (by omega)]
theorem erase_mid (A C : KV) (p : ByteArray × Int) : (A ++ p :: C).eraseIdx A.length = A ++ C := by
  rw [List.eraseIdx_append_of_length_le (Nat.le_refl _), Nat.sub_self]; rfl
theorem own_slice {lo : Nat} {W : World} {e : TypeId} {s : Nat} {v : Value} {n : Nat} {xs : List Value} (h : W.ownsRow lo e s v n xs) : ∃ a c, v = .slice a n c := by
  obtain ⟨h1, h2⟩ := h
  rcases h2 with ⟨rfl, rfl⟩ | ⟨g, cap, cur, rfl, _⟩
  · exact ⟨_, _, rfl⟩
  · exact ⟨_, _, rfl⟩
set_option maxHeartbeats 4000000 in
theorem out_c (w0 W : World) (db m : Nat) (v z : Value) (L : KV) (l : List As) (h : Sep w0 W (boxA db [v, z] 94 :: rowV 97 2 v L.length (its L) :: l)) (hn : L.length ≤ 4096) (hm : m < L.length) :
    Calls Try.prog 52 #[pt db, iv (m : Nat)] W fun r W' => r = .returned (.tuple #[]) ∧ ∃ v', Sep w0 W' (boxA db [v', z] 94 :: rowV 97 2 v' (L.eraseIdx m).length (its (L.eraseIdx m)) :: l) := by
  obtain ⟨g, cap, rfl, hq⟩ := own_any (h.rowGet k1m) (by omega)
  obtain ⟨n, hnn⟩ : ∃ n, L.length = n := ⟨_, rfl⟩
  rw [hnn] at h hn hm
  have HL : Keep (L.length = n ∧ ∀ M, Keep (M = L) → M = L) := ⟨hnn, fun _ h => h.out⟩
  have H0 : Keep (Sep w0 W (rowV 97 2 (.slice none 0 0) 0 [] :: boxA db [.slice (some ⟨g, 0, none⟩) n cap, z] 94 :: rowV 97 2 (.slice (some ⟨g, 0, none⟩) n cap) n (its L) :: l)) := ⟨h.nilV 97 2⟩
  have c0 : W.cell? ⟨db, 0, none⟩ = some (.slice (some ⟨g, 0, none⟩) n cap) := (h.boxGet k0m).cellv 0 _ rfl
  have hn4 : (n : Int) ≤ 4096 := by omega
  clear h hq hnn
  go_enter Try.func52, Try.ntmps52
  go_wp2_with fail
  clear c0
  go_loopw [4, 5] (fun u v wr => ∃ i : Nat, i ≤ n ∧ v = .int .i64 i ∧ Keep (Sep w0 wr (rowV 97 2 u ((L.take i).eraseIdx m).length (its ((L.take i).eraseIdx m)) :: boxA db [.slice (some ⟨g, 0, none⟩) n cap, z] 94 :: rowV 97 2 (.slice (some ⟨g, 0, none⟩) n cap) n (its L) :: l))) (fun _ v _ => (n - intOf v).toNat)
  case atStart => exact ⟨0, by omega, rfl, H0⟩
  case round =>
    clear H0
    obtain ⟨i, hi, rfl, hR⟩ := hrel
    have S := hR.out
    have c0 : wr.cell? ⟨db, 0, none⟩ = some (.slice (some ⟨g, 0, none⟩) n cap) := (S.boxGet k1m).cellv 0 _ rfl
    by_cases hlt : i < n
    · obtain ⟨p, hp⟩ : ∃ p, L[i]? = some p := ⟨_, List.getElem?_eq_getElem (by rw [HL.out.1]; exact hlt)⟩
      obtain ⟨g', c', e, hq⟩ := own_any (S.rowGet k2m) (by omega)
      injection e with e1 e2 e3
      injection e1 with e1
      injection e1 with e1
      subst e1
      obtain ⟨p1, p2⟩ := its_get hp
      have ci := (hq _ _ p1).1
      have cj := (hq _ _ p2).1
      have hi0 : (0 : Int) ≤ (i : Int) := by omega
      have hi1 : (i : Int) < (n : Nat) := by omega
      have hti : ((i : Nat) : Int).toNat = i := by omega
      have hwi : IntKind.i64.wrap ((i : Int) + 1) = ((i + 1 : Nat) : Int) := by rw [wi _ (by omega) (by omega)]; omega
      have hes := erase_step (m := m) hp
      have hlen : ((L.take i).eraseIdx m).length ≤ 5000 := by have := List.length_eraseIdx_le (L.take i) m; rw [List.length_take] at this; omega
      have HP : Keep (L[i]? = some p ∧ i < n) := ⟨hp, hlt⟩
      by_cases him : i = m
      · rw [if_pos him] at hes
        have H2 : Keep (Sep w0 wr (rowV 97 2 u4 ((L.take (i + 1)).eraseIdx m).length (its ((L.take (i + 1)).eraseIdx m)) :: boxA db [.slice (some ⟨g, 0, none⟩) n cap, z] 94 :: rowV 97 2 (.slice (some ⟨g, 0, none⟩) n cap) n (its L) :: l)) := ⟨by rw [hes]; exact S⟩
        have hdm : ((i : Int) = (m : Nat)) := by omega
        clear hes S hR p1 p2 hq e2 e3 hp hlen hi
        subst him
        go_wp2_with fail
        exact ⟨⟨i + 1, by have := HP.out.2; omega, rfl, H2⟩, by simp only [intOf]; have := HP.out.2; omega⟩
      · rw [if_neg him] at hes
        obtain ⟨g2, c2, w3, ap, S3⟩ := S.item p hlen
        rw [← hes] at S3
        have H2 := Keep.mk S3
        have AP := Keep.mk ap
        have hdm : ¬ ((i : Int) = (m : Nat)) := by omega
        clear hes S hR p1 p2 hq e2 e3 hp hlen hi S3 ap him
        generalize Value.slice (some ⟨g2, 0, none⟩) (((L.take i).eraseIdx m).length + 1) c2 = v' at *
        go_wp2_with ((first | (at_builtin; refine wpList_append_run _ rfl (.tmp 18) (.tmp 26) 92 rfl _ _ rfl rfl AP.out ?_)))
        exact ⟨⟨i + 1, by have := HP.out.2; omega, rfl, H2⟩, by simp only [intOf]; have := HP.out.2; omega⟩
    · obtain rfl : i = n := by omega
      rw [List.take_of_length_le (by rw [HL.out.1]; exact Nat.le_refl _)] at S
      have f0 : wr.frozen? ⟨db, 0, none⟩ = false := (S.boxGet k1m).frozen 0
      obtain ⟨a4, c4, rfl⟩ := own_slice (S.rowGet k0m)
      have H2 : Keep (Sep w0 (wr.setCell ⟨db, 0, none⟩ (.slice a4 (L.eraseIdx m).length c4)) (boxA db [.slice a4 (L.eraseIdx m).length c4, z] 94 :: rowV 97 2 (.slice a4 (L.eraseIdx m).length c4) (L.eraseIdx m).length (its (L.eraseIdx m)) :: l)) := ⟨((S.swap.boxPut 0 (.slice a4 (L.eraseIdx m).length c4)).third.tail).swap.perm (List.Perm.swap _ _ _)⟩
      clear S hR hlt hi
      go_wp2_with fail
      go_end0
      exact ⟨rfl, _, H2.out⟩
set_option maxHeartbeats 4000000 in
theorem rpeek_s {w0 W : World} {l : List As} {db sz : Nat} {L : KV} (k : ByteArray) (h : Sep w0 W (refA db sz L :: l)) (hn : L.length ≤ 4096) (hk : (Tb.keys L).Nodup) :
    Calls Try.prog 42 #[pt db, .string k] W fun r W' => r = .returned (.tuple #[iv ((Tb.look L k).getD 0), .bool (Tb.look L k).isSome]) ∧ W' = W := by
  obtain ⟨v, h⟩ := h.opn
  have c0 : W.cell? ⟨db, 0, none⟩ = some v := (h.boxGet k0m).cellv 0 _ rfl
  have hI := itm_of (h.rowGet k1m)
  rcases Tb.two L k hk with ⟨h1, h2⟩ | ⟨A, x, C, hL, hA, hC, h2⟩
  · rw [h2]
    have hp := place_no W db v L k c0 hI hn h1
    clear h hI h1 h2
    go_enter Try.func42, Try.ntmps42
    go_wp2_with fail
    refine hp.mono ?_
    rintro r w2 ⟨rfl, rfl⟩
    go_wp2_with fail
    go_ret2
    exact ⟨rfl, rfl⟩
  · rw [h2]
    have hp := place_at W db v L A C x k c0 hI hn hL hA
    obtain ⟨a, cap, rfl, q⟩ := hI.o
    obtain ⟨n, hnn⟩ : ∃ n, L.length = n := ⟨_, rfl⟩
    obtain ⟨m, hm⟩ : ∃ m, A.length = m := ⟨_, rfl⟩
    have hmn : m < n := by rw [← hnn, hL, ← hm]; simp
    obtain ⟨g, rfl, q2⟩ := q (by omega)
    obtain ⟨_, c2, _⟩ := q2 m (k, x) (by rw [hL, List.getElem?_append_right (by omega), hm, Nat.sub_self]; rfl)
    rw [hnn] at c0 hn
    rw [hm] at hp
    have hi0 : (0 : Int) ≤ (m : Int) := by omega
    have hi1 : (m : Int) < (n : Nat) := by omega
    have hti : ((m : Nat) : Int).toNat = m := by omega
    have hlt0 : decide ((m : Int) < 0) = false := by simp
    clear h hI h2 q q2 hL hm hnn
    go_enter Try.func42, Try.ntmps42
    go_wp2_with fail
    refine hp.mono ?_
    rintro r w2 ⟨rfl, rfl⟩
    go_wp2_with fail
    go_ret2
    exact ⟨rfl, rfl⟩
end Go.Proofs.Ytkaakbldkicnaaa
