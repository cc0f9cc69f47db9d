/- TableScript: whole. -/
import Derived.Test.YtkaakbldkicnaaaR8
namespace Go.Proofs.Ytkaakbldkicnaaa
open Go Go.RowKit Go.Maps

theorem Sep.sideAt {w0 W : World} {pb t t' d d' s s' : Nat} {L L' : KV} {tv wv : Value} {n : Nat} {R : List As} (h : Sep w0 W (stB false pb t t' d d' s s' L L' tv wv n R)) {i : Nat} (hi : i < 2) :
    ∃ b x x' y y' z z' M M', bn b = i ∧ Sep w0 W (stB b pb x x' y y' z z' M M' tv wv n R) ∧ ∀ W', Sep w0 W' (stB b pb x x' y y' z z' M M' tv wv n R) → Sep w0 W' (stB false pb t t' d d' s s' L L' tv wv n R) := by
  match i, hi with
  | 0, _ => exact ⟨false, t, t', d, d', s, s', L, L', rfl, h, fun _ q => q⟩
  | 1, _ => exact ⟨true, t', t, d', d, s', s, L', L, rfl, h.side, fun _ q => q.side⟩
/-- the list in its order again -/
theorem whole_back {w0 W : World} {b : Bool} {pb t t' d d' s s' : Nat} {L L' : KV} {tv wv : Value} {n : Nat} {R : List As} {r1 r2 : As} (h : Sep w0 W (r1 :: r2 :: refA d s L :: boxA pb (pcb b t t' d d' tv wv) 58 :: tabA t s L :: tabA t' s' L' :: refA d' s' L' :: bookA tv wv n :: R)) : Sep w0 W (stB b pb t t' d d' s s' L L' tv wv n R) :=
  bk1 [_, _] h.tail.tail
set_option maxRecDepth 100000 in
set_option maxHeartbeats 8000000 in
theorem whole_c (w0 W : World) (pb t t' d d' s s' : Nat) (L L' : KV) (tv wv : Value) (n : Nat) (R : List As) (h : Sep w0 W (stB false pb t t' d d' s s' L L' tv wv n R)) :
    Calls Try.prog 32 #[pt pb] W fun r W' => r = .returned (.bool true) ∧ Sep w0 W' (stB false pb t t' d d' s s' L L' tv wv n R) := by
  have H0 := Keep.mk h
  clear h
  go_enter Try.func32, Try.ntmps32
  go_wp2_with fail
  go_loopw [3] (fun v wr => ∃ i : Nat, i ≤ 2 ∧ v = .int .i64 i ∧ Keep (Sep w0 wr (stB false pb t t' d d' s s' L L' tv wv n R))) (fun v _ => (2 - intOf v).toNat)
  case atStart => exact ⟨0, by omega, rfl, H0⟩
  case round =>
    clear H0
    obtain ⟨i, hi, rfl, hR⟩ := hrel
    by_cases hlt : i < 2
    · obtain ⟨b, x, x', y, y', z, z', M, M', hb, S, hback⟩ := hR.out.sideAt hlt
      have HB := Keep.mk hback
      have HBI := Keep.mk hb
      have ok := S.tab k1m
      have pl := S.plc k0m
      rw [hb] at pl
      obtain ⟨pt0, pd0, _, _, _, _⟩ := pl
      have hK := rkeys_s (fr1 [_, _] S) ok.four
      have hi0 : (0 : Int) ≤ (i : Int) := by omega
      have hi1 : (i : Int) < 2 := by omega
      have hti : ((i : Nat) : Int).toNat = i := by omega
      have hwi : IntKind.i64.wrap ((i : Int) + 1) = ((i + 1 : Nat) : Int) := by rw [wi _ (by omega) (by omega)]; omega
      have HI : Keep (i < 2) := ⟨hlt⟩
      have HOK := Keep.mk ok
      clear S hback hb hR ok hlt hi
      go_wp2_with fail
      refine hK.mono ?_
      rintro r w1 ⟨v, rfl, S1⟩
      change Sep w0 w1 (rowA v (Tb.keys M) :: refA y z M :: boxA pb (pcb b x x' y y' tv wv) 58 :: tabA x z M :: tabA x' z' M' :: refA y' z' M' :: bookA tv wv n :: R) at S1
      clear hK pt0 pd0
      obtain ⟨m, hm⟩ : ∃ m, M.length = m := ⟨_, rfl⟩
      have hkm : (Tb.keys M).length = m := by rw [List.length_map]; exact hm
      have hL := len_s S1 k3m
      rw [hm] at hL
      have pl := S1.plc k2m
      rw [HBI.out] at pl
      obtain ⟨pt0, pd0, _, _, _, _⟩ := pl
      have hKK := keys_s S1 k3m
      have hm4 : (m : Int) ≤ 4096 := by have := HOK.out.four; omega
      clear hm
      by_cases hm0 : 0 < m
      · obtain ⟨a, c, rfl, _⟩ := (S1.row k0m).form (by rw [hkm]; exact hm0)
        rw [hkm] at S1 hKK ⊢
        have HKM := Keep.mk hkm
        have HS1 := Keep.mk S1
        clear S1 hkm
        go_wp2_with fail
        refine hL.mono ?_
        rintro r w2 ⟨rfl, hw⟩
        subst w2
        clear hL
        go_wp2_with fail
        refine hKK.mono ?_
        rintro r w2 ⟨v2, rfl, S2⟩
        clear hKK HS1 pt0 pd0
        have hT := texts_c w2 v2 _ _ _ (S2.row k0m) (S2.row k1m) (by rw [HKM.out]; omega)
        rw [decide_eq_true rfl] at hT
        have HS2 := Keep.mk S2
        clear S2
        go_wp2_with fail
        refine hT.mono ?_
        rintro r w3 ⟨rfl, g3⟩
        have HS3 := Keep.mk (HS2.out.grown g3)
        clear hT g3 HS2
        go_wp2_with fail
        go_loopw [5] (fun v wq => ∃ j : Nat, j ≤ m ∧ v = .int .i64 j ∧ Keep (Sep w0 wq (rowA v2 (Tb.keys M) :: rowA (.slice (some a) m c) (Tb.keys M) :: refA y z M :: boxA pb (pcb b x x' y y' tv wv) 58 :: tabA x z M :: tabA x' z' M' :: refA y' z' M' :: bookA tv wv n :: R))) (fun v _ => (m - intOf v).toNat)
        case atStart => exact ⟨0, by omega, rfl, HS3⟩
        case round =>
          clear HS3
          obtain ⟨j, hj, rfl, hQ⟩ := hrel
          by_cases hjl : j < m
          · obtain ⟨k, hk⟩ : ∃ k, (Tb.keys M)[j]? = some k := ⟨_, List.getElem?_eq_getElem (by rw [HKM.out]; exact hjl)⟩
            have S := hQ.out
            obtain ⟨a', c', e, hcs⟩ := (S.row k1m).form (by rw [HKM.out]; exact hm0)
            injection e with e1 e2 e3
            injection e1 with e1
            subst e1
            have ck := hcs j k hk
            have pl := S.plc k3m
            rw [HBI.out] at pl
            obtain ⟨pt1, pd1, _, _, _, _⟩ := pl
            obtain ⟨xv, hxv⟩ : ∃ xv, Tb.look M k = some xv := by
              cases hq : Tb.look M k with
              | none => exact absurd (List.mem_of_getElem? hk) (Tb.look_none.1 hq)
              | some xv => exact ⟨xv, rfl⟩
            have hks := HOK.out.small k (List.mem_of_getElem? hk)
            have hp1 : ∀ (q : Nat), Calls Try.prog 12 #[pt x, .string k] (wr.drewN q) fun r W' => r = .returned (.tuple #[iv xv, .bool true]) ∧ ∃ q2, W' = (wr.drewN q).drewN q2 := fun q => by
              have := peek_s k (S.grown (gr_drewN wr q none)) k4m (by omega)
              rw [hxv] at this
              exact this.mono fun _ _ ⟨h1, h2⟩ => ⟨h1, 0, h2⟩
            have hj0 : (0 : Int) ≤ (j : Int) := by omega
            have hj1 : (j : Int) < (m : Nat) := by omega
            have htj : ((j : Nat) : Int).toNat = j := by omega
            have hwj : IntKind.i64.wrap ((j : Int) + 1) = ((j + 1 : Nat) : Int) := by rw [wi _ (by omega) (by omega)]; omega
            have HJ : Keep (j < m ∧ (Tb.keys M)[j]? = some k ∧ Tb.look M k = some xv) := ⟨hjl, hk, hxv⟩
            clear S hcs hk hxv hks hj hjl e2 e3
            go_wp2_with fail
            go_quiet (((go_at_call 12; with_reducible exact Calls.quiet_of (hp1 _))))
            generalize hw4 : World.drewN wr _ = w4
            have S4 := hQ.out.grown (show wr.grownBy w4 none by rw [← hw4]; exact gr_drewN _ _ _)
            clear hw4 hp1 ck pt1 pd1 hQ
            obtain ⟨a', c', e, hcs⟩ := (S4.row k1m).form (by rw [HKM.out]; exact hm0)
            injection e with e1 e2 e3
            injection e1 with e1
            subst e1
            have ck := hcs j k HJ.out.2.1
            have pl := S4.plc k3m
            rw [HBI.out] at pl
            obtain ⟨pt1, pd1, _, _, _, _⟩ := pl
            have hp2 : ∀ (q : Nat), Calls Try.prog 42 #[pt y, .string k] (w4.drewN q) fun r W' => r = .returned (.tuple #[iv xv, .bool true]) ∧ ∃ q2, W' = (w4.drewN q).drewN q2 := fun q => by
              have := rpeek_s k (fr1 [_, _] (S4.grown (gr_drewN w4 q none))) HOK.out.four HOK.out.nk
              rw [HJ.out.2.2] at this
              exact this.mono fun _ _ ⟨h1, h2⟩ => ⟨h1, 0, h2⟩
            have HS4 := Keep.mk S4
            clear S4 hcs e2 e3
            go_wp2_with fail
            go_quiet (((go_at_call 42; with_reducible exact Calls.quiet_of (hp2 _))))
            generalize hw5 : World.drewN w4 _ = w5
            have HS5 := Keep.mk (HS4.out.grown (show w4.grownBy w5 none by rw [← hw5]; exact gr_drewN _ _ _))
            clear hw5 hp2 ck pt1 pd1 HS4
            go_wp2_with fail
            exact ⟨⟨j + 1, by have := HJ.out.1; omega, rfl, HS5⟩, by simp only [intOf]; have := HJ.out.1; omega⟩
          · obtain rfl : j = m := by omega
            have HF : Keep (Sep w0 wr (stB false pb t t' d d' s s' L L' tv wv n R)) := ⟨HB.out _ (whole_back hQ.out)⟩
            clear hQ HB hj hjl
            go_wp2_with fail
            exact ⟨⟨i + 1, by have := HI.out; omega, by simp, HF⟩, by simp only [intOf]; have := HI.out; omega⟩
      · obtain ⟨a, c, rfl⟩ := (S1.row k0m).slice
        rw [hkm] at S1 hKK ⊢
        have HKM := Keep.mk hkm
        have HS1 := Keep.mk S1
        clear S1 hkm
        go_wp2_with fail
        refine hL.mono ?_
        rintro r w2 ⟨rfl, hw⟩
        subst w2
        clear hL
        go_wp2_with fail
        refine hKK.mono ?_
        rintro r w2 ⟨v2, rfl, S2⟩
        clear hKK HS1 pt0 pd0
        have hT := texts_c w2 v2 _ _ _ (S2.row k0m) (S2.row k1m) (by rw [HKM.out]; omega)
        rw [decide_eq_true rfl] at hT
        have HS2 := Keep.mk S2
        clear S2
        go_wp2_with fail
        refine hT.mono ?_
        rintro r w3 ⟨rfl, g3⟩
        have HS3 := Keep.mk (HS2.out.grown g3)
        clear hT g3 HS2
        go_wp2_with fail
        go_loopw [5] (fun v wq => ∃ j : Nat, j ≤ m ∧ v = .int .i64 j ∧ Keep (Sep w0 wq (rowA v2 (Tb.keys M) :: rowA (.slice a m c) (Tb.keys M) :: refA y z M :: boxA pb (pcb b x x' y y' tv wv) 58 :: tabA x z M :: tabA x' z' M' :: refA y' z' M' :: bookA tv wv n :: R))) (fun v _ => (m - intOf v).toNat)
        case atStart => exact ⟨0, by omega, rfl, HS3⟩
        case round =>
          clear HS3
          obtain ⟨j, hj, rfl, hQ⟩ := hrel
          obtain rfl : j = m := by omega
          have HF : Keep (Sep w0 wr (stB false pb t t' d d' s s' L L' tv wv n R)) := ⟨HB.out _ (whole_back hQ.out)⟩
          clear hQ HB hj hm0
          go_wp2_with fail
          exact ⟨⟨i + 1, by have := HI.out; omega, by simp, HF⟩, by simp only [intOf]; have := HI.out; omega⟩
    · obtain rfl : i = 2 := by omega
      go_wp2_with fail
      go_ret
      exact ⟨rfl, hR.out⟩
end Go.Proofs.Ytkaakbldkicnaaa
