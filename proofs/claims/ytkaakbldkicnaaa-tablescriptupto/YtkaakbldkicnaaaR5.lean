/- the document's table: Get, Put, Delete, Keys, Set, New. -/
import Derived.Test.YtkaakbldkicnaaaR4
namespace Go.Proofs.Ytkaakbldkicnaaa
open Go Go.RowKit Go.Maps

theorem mid_at {W : World} {g n cap : Nat} {L A C : KV} {k : ByteArray} {x : Int} (h : Itm W (.slice (some ⟨g, 0, none⟩) n cap) L) (hL : L = A ++ (k, x) :: C) :
    W.cell? ⟨g, A.length * 2, none⟩ = some (.string k) ∧ W.cell? ⟨g, A.length * 2 + 1, none⟩ = some (iv x) ∧ W.frozen? ⟨g, A.length * 2 + 1, none⟩ = false := by
  obtain ⟨a, c, e, q⟩ := h.o
  injection e with e1 e2 e3
  subst e1
  obtain ⟨g', e, q⟩ := q (by rw [hL, List.length_append, List.length_cons]; omega)
  injection e with e
  injection e with e
  subst e
  exact q A.length (k, x) (by rw [hL, List.getElem?_append_right (Nat.le_refl _), Nat.sub_self]; rfl)
theorem Itm.form {W : World} {v : Value} {L : KV} (h : Itm W v L) (hn : 0 < L.length) : ∃ g cap, v = .slice (some ⟨g, 0, none⟩) L.length cap := by
  obtain ⟨a, c, e, q⟩ := h.o
  obtain ⟨g', rfl, q⟩ := q hn
  exact ⟨_, _, e⟩
set_option maxHeartbeats 4000000 in
theorem rdel_s {w0 W : World} {l : List As} {db sz : Nat} {L : KV} (k : ByteArray) (h : Sep w0 W (refA db sz L :: l)) (hn : L.length ≤ 4096) (hk : (Tb.keys L).Nodup) :
    Calls Try.prog 44 #[pt db, .string k] W fun r W' => r = .returned (.bool (Tb.look L k).isSome) ∧ Sep w0 W' (refA db sz (Tb.rm L k) :: l) := by
  obtain ⟨v, h⟩ := h.opn
  have c0 : W.cell? ⟨db, 0, none⟩ = some v := (h.boxGet k0m).cellv 0 _ rfl
  have hI := itm_of (h.rowGet k1m)
  rcases Tb.two L k hk with ⟨h1, h2⟩ | ⟨A, x, C, hL, hA, hC, h2⟩
  · rw [h2, Tb.rm_none h1]
    have hp := place_no W db v L k c0 hI hn h1
    have H : Keep (Sep w0 W (refA db sz L :: l)) := ⟨Sep.cls (refL db sz L) v h⟩
    clear h hI h1 h2
    go_enter Try.func44, Try.ntmps44
    go_wp2_with fail
    refine hp.mono ?_
    rintro r w2 ⟨rfl, rfl⟩
    go_wp2_with fail
    go_ret
    exact ⟨rfl, H.out⟩
  · rw [h2]
    have hp := place_at W db v L A C x k c0 hI hn hL hA
    have ho := out_c w0 W db A.length v (iv (sz : Nat)) L l h hn (by rw [hL]; simp)
    have er : L.eraseIdx A.length = Tb.rm L k := by rw [hL, erase_mid, Tb.rm_mid hA hC]
    rw [er] at ho
    obtain ⟨m, hm⟩ : ∃ m, A.length = m := ⟨_, rfl⟩
    rw [hm] at ho hp
    have hlt0 : decide ((m : Int) < 0) = false := by simp
    clear h hI h2 hL hm er
    go_enter Try.func44, Try.ntmps44
    go_wp2_with fail
    refine hp.mono ?_
    rintro r w2 ⟨rfl, rfl⟩
    go_wp2_with fail
    refine ho.mono ?_
    rintro r w3 ⟨rfl, v', S⟩
    have H : Keep (Sep w0 w3 (refA db sz (Tb.rm L k) :: l)) := ⟨Sep.cls (refL db sz _) v' S⟩
    clear S ho
    go_wp2_with fail
    go_ret
    exact ⟨rfl, H.out⟩
set_option maxHeartbeats 4000000 in
theorem rset_s {w0 W : World} {l : List As} {db sz : Nat} {L : KV} (k : ByteArray) (y : Int) (h : Sep w0 W (refA db sz L :: l)) (hn : L.length ≤ 4096) (hk : (Tb.keys L).Nodup) :
    Calls Try.prog 54 #[pt db, .string k, iv y] W fun r W' => r = .returned (.tuple #[]) ∧ Sep w0 W' (refA db sz (Tb.setL L k y) :: l) := by
  obtain ⟨v, h⟩ := h.opn
  have c0 : W.cell? ⟨db, 0, none⟩ = some v := (h.boxGet k0m).cellv 0 _ rfl
  have hI := itm_of (h.rowGet k1m)
  rcases Tb.two L k hk with ⟨h1, h2⟩ | ⟨A, x, C, hL, hA, hC, h2⟩
  · rw [Tb.setL_none h1]
    have hp := place_no W db v L k c0 hI hn h1
    have H : Keep (Sep w0 W (refA db sz L :: l)) := ⟨Sep.cls (refL db sz L) v h⟩
    clear h hI h1 h2
    go_enter Try.func54, Try.ntmps54
    go_wp2_with fail
    refine hp.mono ?_
    rintro r w2 ⟨rfl, rfl⟩
    go_wp2_with fail
    go_end0
    exact ⟨rfl, H.out⟩
  · have hp := place_at W db v L A C x k c0 hI hn hL hA
    obtain ⟨g, cap, rfl⟩ := hI.form (by rw [hL, List.length_append, List.length_cons]; omega)
    obtain ⟨_, c2, f2⟩ := mid_at hI hL
    have es : (its L).set (A.length * 2 + 1) (iv y) = its (Tb.setL L k y) := by rw [hL, its_set, Tb.setL_mid hA hC]
    have el : (Tb.setL L k y).length = L.length := by simp [Tb.setL]
    have S := h.swap.rowSet (A.length * 2 + 1) (iv y)
    rw [es] at S
    have H : Keep (Sep w0 (W.setCell ⟨g, A.length * 2 + 1, none⟩ (iv y)) (refA db sz (Tb.setL L k y) :: l)) := ⟨Sep.cls (refL db sz _) (.slice (some ⟨g, 0, none⟩) L.length cap) (by unfold refL; rw [el]; exact S.swap)⟩
    obtain ⟨n, hnn⟩ : ∃ n, L.length = n := ⟨_, rfl⟩
    obtain ⟨m, hm⟩ : ∃ m, A.length = m := ⟨_, rfl⟩
    have hmn : m < n := by rw [← hnn, hL, ← hm]; simp
    rw [hnn] at c0
    rw [hm] at hp H c2 f2
    have hi0 : (0 : Int) ≤ (m : Int) := by omega
    have hi1 : (m : Int) < (n : Nat) := by omega
    have hti : ((m : Nat) : Int).toNat = m := by omega
    have hlt0 : decide ((m : Int) < 0) = false := by simp
    have hge0 : decide (0 ≤ (m : Int)) = true := by simp
    clear h hI h2 hL hm hnn es el S hn
    go_enter Try.func54, Try.ntmps54
    go_wp2_with fail
    refine hp.mono ?_
    rintro r w2 ⟨rfl, rfl⟩
    go_wp2_with fail
    go_end0
    exact ⟨rfl, H.out⟩
set_option maxHeartbeats 4000000 in
theorem rkeys_s {w0 W : World} {l : List As} {db sz : Nat} {L : KV} (h : Sep w0 W (refA db sz L :: l)) (hn : L.length ≤ 4096) :
    Calls Try.prog 46 #[pt db] W fun r W' => ∃ v, r = .returned v ∧ Sep w0 W' (rowA v (Tb.keys L) :: refA db sz L :: l) := by
  obtain ⟨v, h⟩ := h.opn
  have c0 : W.cell? ⟨db, 0, none⟩ = some v := (h.boxGet k0m).cellv 0 _ rfl
  have hI := itm_of (h.rowGet k1m)
  obtain ⟨a, cap, rfl, hI2⟩ := hI.o
  change Sep w0 W (boxA db [.slice a L.length cap, iv (sz : Nat)] 94 :: rowV 97 2 (.slice a L.length cap) L.length (its L) :: l) at h
  obtain ⟨n, hnn⟩ : ∃ n, L.length = n := ⟨_, rfl⟩
  rw [hnn] at h hn c0
  have HL : Keep (L.length = n) := ⟨hnn⟩
  have HI : Keep (∀ j : Nat, j < n → ∃ (g : Nat) (p : ByteArray × Int), a = some ⟨g, 0, none⟩ ∧ L[j]? = some p) := ⟨fun j hj => by
    obtain ⟨g, rfl, q⟩ := hI2 (by omega)
    exact ⟨g, _, rfl, List.getElem?_eq_getElem (by omega)⟩⟩
  have H0 : Keep (Sep w0 W (rowA (.slice none 0 0) [] :: boxA db [.slice a n cap, iv (sz : Nat)] 94 :: rowV 97 2 (.slice a n cap) n (its L) :: l)) := ⟨by
    refine Sep.new (l' := [rowA (.slice none 0 0) []]) h (World.grownBy.refl _ _) (Loc.one (a := rowA (.slice none 0 0) []) _ ⟨⟨by simp, .inl ⟨rfl, rfl⟩⟩, rfl⟩ (fun _ hi => by cases hi))⟩
  have hn4 : (n : Int) ≤ 4096 := by omega
  clear h hI hI2 hnn
  go_enter Try.func46, Try.ntmps46
  go_wp2_with fail
  clear c0
  go_loopw [3, 4] (fun u v wr => ∃ i : Nat, i ≤ n ∧ v = .int .i64 i ∧ Keep (Sep w0 wr (rowA u ((Tb.keys L).take i) :: boxA db [.slice a n cap, iv (sz : Nat)] 94 :: rowV 97 2 (.slice a n cap) n (its L) :: l))) (fun _ v _ => (n - intOf v).toNat)
  case atStart => exact ⟨0, by omega, rfl, H0⟩
  case round =>
    clear H0
    obtain ⟨i, hi, rfl, hR⟩ := hrel
    have S := hR.out
    have c0 : wr.cell? ⟨db, 0, none⟩ = some (.slice a n cap) := (S.boxGet k1m).cellv 0 _ rfl
    by_cases hlt : i < n
    · obtain ⟨g, p, rfl, hp⟩ := HI.out i hlt
      obtain ⟨g', c', e, hq⟩ := own_any (S.rowGet k2m) (by omega)
      injection e with e1 e2 e3
      injection e1 with e1
      injection e1 with e1
      subst e1
      have ci := (hq _ _ (its_get hp).1).1
      have hi0 : (0 : Int) ≤ (i : Int) := by omega
      have hi1 : (i : Int) < (n : Nat) := by omega
      have hti : ((i : Nat) : Int).toNat = i := by omega
      have hwi : IntKind.i64.wrap ((i : Int) + 1) = ((i + 1 : Nat) : Int) := by rw [wi _ (by omega) (by omega)]; omega
      obtain ⟨a', c2, w3, ap, S3⟩ := app_s p.1 S (by rw [List.length_take]; omega)
      have et : (Tb.keys L).take i ++ [p.1] = (Tb.keys L).take (i + 1) := by rw [List.take_add_one, List.getElem?_map, hp]; rfl
      rw [et] at S3
      have H2 := Keep.mk S3
      have AP := Keep.mk ap
      have HP : Keep (i < n) := ⟨hlt⟩
      clear S hR hq e2 e3 hp hi S3 ap et
      generalize p.1 = pk at *
      generalize Value.slice (some a') (((Tb.keys L).take i).length + 1) c2 = v' at *
      go_wp2_with ((first | (at_builtin; refine wpList_append_run _ rfl (.tmp 14) (.tmp 23) 22 rfl _ _ rfl rfl AP.out ?_)))
      exact ⟨⟨i + 1, by have := HP.out; omega, rfl, H2⟩, by simp only [intOf]; have := HP.out; omega⟩
    · obtain rfl : i = n := by omega
      rw [List.take_of_length_le (by rw [List.length_map, HL.out]; exact Nat.le_refl _)] at S
      have H2 : Keep (Sep w0 wr (rowA u3 (Tb.keys L) :: refA db sz L :: l)) := ⟨(Sep.cls (refL db sz L) (.slice a i cap) (by unfold refL; rw [HL.out]; exact S.perm ((List.perm_append_comm (l₁ := [_]) (l₂ := [_, _])).append_right l))).swap⟩
      clear S hR hlt hi
      go_wp2_with fail
      go_ret
      exact ⟨_, rfl, H2.out⟩
end Go.Proofs.Ytkaakbldkicnaaa
