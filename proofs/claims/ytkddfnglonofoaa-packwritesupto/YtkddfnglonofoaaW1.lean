/- PackWrites: the walk. -/
import Derived.Test.YtkddfnglonofoaaR5
import Derived.Test.YtkddfnglonofoaaE0
namespace Go.Proofs.Ytkddfnglonofoaa
open Go Go.RowKit

theorem Mine.newV {w W : World} {l : List Ob} (h : Mine w W l) : Mine w (W.alloc (.cells #[.string ⟨#[]⟩, .int .i64 0] 52)) (vO W.heap.size (some []) :: l) :=
  ⟨h.g.trans (World.grownBy_alloc _ _ _), h.s.add h.g.size (World.grownBy_alloc _ _ _) ⟨⟨#[]⟩, Has.newA W _ 52, fun l e => (by cases e; rfl)⟩ (fun i hi => by rw [show i = W.heap.size from hi]; exact Nat.le_refl _)⟩
theorem lay1 (st : WS) (o : OpT) (h : o.kind = 1) : wLay st o = wNum st o.u o.size := by unfold wLay; rw [if_pos h]
theorem lay2 (st : WS) (o : OpT) (h : o.kind = 2) : wLay st o = wSig st o.i o.size := by unfold wLay; rw [if_neg (by omega), if_pos h]
theorem lay3 (st : WS) (o : OpT) (h : o.kind = 3) : wLay st o = wBytes st (sl o.s) := by unfold wLay; rw [if_neg (by omega), if_neg (by omega), if_pos h]
theorem lay4 (st : WS) (o : OpT) (h : o.kind = 4) : wLay st o = wText st (sl o.s) := by unfold wLay; rw [if_neg (by omega), if_neg (by omega), if_neg (by omega), if_pos h]
theorem lay0 (st : WS) (o : OpT) (h1 : o.kind ≠ 1) (h2 : o.kind ≠ 2) (h3 : o.kind ≠ 3) (h4 : o.kind ≠ 4) : wLay st o = st := by unfold wLay; rw [if_neg h1, if_neg h2, if_neg h3, if_neg h4]
set_option maxRecDepth 100000 in
set_option maxHeartbeats 8000000 in
theorem writes_walk (a : Option Addr) (n c : Nat) (xs : List OpT) (w : World) (hx : Scr w a n xs) (hn : n ≤ 100000000000000) (hb : bulk xs ≤ 100000000000000) :
    Calls Try.prog 8 #[.slice a n c] w fun e w' => e = .returned (.bool true) ∧ w.grownBy w' none := by
  have HX : Keep (Scr w a n xs) := ⟨hx⟩
  have HBK : Keep (bulk xs ≤ 100000000000000) := ⟨hb⟩
  clear hx hb
  go_enter Try.func8, Try.ntmps8
  go_wp2_with fail
  refine (alive_c w).mono ?_
  rintro e w1 ⟨rfl, g1⟩
  go_wp2_with fail
  refine (newW_c w1).mono ?_
  rintro e w2 ⟨wb, rfl, a2, g2, hb2⟩
  have H2 : Keep (Mine w w2 [wO wb (.slice none 0 0) (some [])]) := ⟨Mine.newW ⟨g1, Sep.nil _ _⟩ a2 g2 (by omega)⟩
  clear a2 g2 hb2 g1
  have H3 : Keep (Mine w (w2.alloc (.cells #[.string ⟨#[]⟩, .int .i64 0] 52)) [vO w2.heap.size (some []), wO wb (.slice none 0 0) (some [])]) := ⟨H2.out.newV⟩
  obtain ⟨w3, hw3⟩ : ∃ q, w2.alloc (.cells #[.string ⟨#[]⟩, .int .i64 0] 52) = q := ⟨_, rfl⟩
  obtain ⟨vb, hvb⟩ : ∃ q, w2.heap.size = q := ⟨_, rfl⟩
  rw [hw3, hvb] at H3
  go_wp2_with fail
  clear hw3 hvb H2
  go_loopw [5] (fun t w' => ∃ i : Nat, i ≤ n ∧ t = .int .i64 i ∧ Keep (∃ v, Mine w w' ([] ++ vO vb (wLays (some []) (xs.take i)) :: [wO wb v (wLays (some []) (xs.take i))]))) (fun t _ => n - (intOf t).toNat)
  case atStart => exact ⟨0, Nat.zero_le _, rfl, ⟨_, H3.out⟩⟩
  case round =>
    obtain ⟨i, hi, rfl, HI⟩ := hrel
    clear H3
    by_cases hlt : i < n
    · have hlt2 : (i : Int) < n := by omega
      obtain ⟨Bx, kx, o, rfl, hoi, hok, hat⟩ := HX.out.get hlt
      obtain ⟨v, HM⟩ := HI.out
      have HOK : Keep o.Ok := ⟨hok⟩
      have HRM : Keep (((wLays (some []) (xs.take i)).getD []).length + o.s.size ≤ 140737488355312) := ⟨lays_room xs i o hoi HBK.out⟩
      have HST : Keep (wLays (some []) (xs.take (i + 1)) = wLay (wLays (some []) (xs.take i)) o) := ⟨wLays_step _ _ _ _ hoi⟩
      obtain ⟨q0, q1, q2, q3, q4⟩ := hat.kept HM.g
      have hwi : IntKind.i64.wrap ((i : Int) + 1) = ((i + 1 : Nat) : Int) := by rw [wi _ (by omega) (by omega)]; omega
      obtain ⟨st, hst⟩ : ∃ q, wLays (some []) (xs.take i) = q := ⟨_, rfl⟩
      rw [hst] at HM HRM HST
      clear hst
      have HM1 : Keep (Mine w (wr.alloc (.cells #[.int .i64 o.kind, .int .u64 o.u, .int .i64 o.i, .int .i64 o.size, .string o.s] 30)) ([hO wr.heap.size (ocs o) 30, vO vb st] ++ [wO wb v st])) := ⟨HM.newH _ 30⟩
      clear HI HM hat hok hoi
      obtain ⟨kd, hkd⟩ : ∃ q, o.kind = q := ⟨_, rfl⟩
      rw [hkd] at q0
      have HKD : Keep (o.kind = kd) := ⟨hkd⟩
      obtain ⟨w8, hw8⟩ : ∃ q, wr.alloc (.cells #[.int .i64 kd, .int .u64 o.u, .int .i64 o.i, .int .i64 o.size, .string o.s] 30) = q := ⟨_, rfl⟩
      rw [hkd, hw8] at HM1
      obtain ⟨ob, hob⟩ : ∃ q, wr.heap.size = q := ⟨_, rfl⟩
      rw [hob] at HM1
      have hcs : ocs o = [.int .i64 kd, .int .u64 o.u, .int .i64 o.i, .int .i64 o.size, .string o.s] := by rw [← hkd]
      rw [hcs] at HM1
      clear hkd hcs
      have p0 : w8.cell? ⟨ob, 0, none⟩ = some (.int .i64 kd) := (Mine.h (A := []) HM1.out).cellv 0 _ rfl
      have p1 : w8.cell? ⟨ob, 1, none⟩ = some (.int .u64 o.u) := (Mine.h (A := []) HM1.out).cellv 1 _ rfl
      have p2 : w8.cell? ⟨ob, 2, none⟩ = some (.int .i64 o.i) := (Mine.h (A := []) HM1.out).cellv 2 _ rfl
      have p3 : w8.cell? ⟨ob, 3, none⟩ = some (.int .i64 o.size) := (Mine.h (A := []) HM1.out).cellv 3 _ rfl
      have p4 : w8.cell? ⟨ob, 4, none⟩ = some (.string o.s) := (Mine.h (A := []) HM1.out).cellv 4 _ rfl
      by_cases h1 : kd = 1
      · subst h1
        have HL : Keep (wLays (some []) (xs.take (i + 1)) = wNum st o.u o.size) := ⟨by rw [HST.out]; exact lay1 st o HKD.out⟩
        go_wp2_with fail
        refine (wNumber_c wb v st o.u o.size w8 HM1.out.w HOK.out.u (by have := HRM.out; omega)).mono ?_
        rintro e wa ⟨rfl, v2, d2⟩
        have HM2 : Keep (Mine w wa ([hO ob [.int .i64 1, .int .u64 o.u, .int .i64 o.i, .int .i64 o.size, .string o.s] 30] ++ vO vb st :: [wO wb v2 (wNum st o.u o.size)])) := ⟨HM1.out.wdid d2⟩
        clear d2 HM1 q0 q1 q2 q3 q4 hw8 p0 p1 p2 p3 p4
        have p1 : wa.cell? ⟨ob, 1, none⟩ = some (.int .u64 o.u) := (Mine.h (A := []) HM2.out).cellv 1 _ rfl
        have p3 : wa.cell? ⟨ob, 3, none⟩ = some (.int .i64 o.size) := (Mine.h (A := []) HM2.out).cellv 3 _ rfl
        go_wp2_with fail
        refine (vNumber_c vb st o.u o.size wa (Mine.v (A := [_]) HM2.out) HOK.out.u (by have := HRM.out; omega)).mono ?_
        rintro e wz ⟨rfl, d3⟩
        have HZ : Keep (∃ v, Mine w wz ([] ++ vO vb (wLays (some []) (xs.take (i + 1))) :: [wO wb v (wLays (some []) (xs.take (i + 1)))])) := ⟨v2, by rw [HL.out]; exact (Mine.vdid (A := [_]) HM2.out d3).sub (List.sublist_cons_self _ _)⟩
        clear d3 HM2
        go_wp2_with fail
        exact ⟨⟨i + 1, by omega, by simp, HZ⟩, by simp only [intOf]; omega⟩
      · skip
        by_cases h2 : kd = 2
        · subst h2
          have HL : Keep (wLays (some []) (xs.take (i + 1)) = wSig st o.i o.size) := ⟨by rw [HST.out]; exact lay2 st o HKD.out⟩
          go_wp2_with fail
          refine (wSigned_c wb v st o.i o.size w8 HM1.out.w HOK.out.i (by have := HRM.out; omega)).mono ?_
          rintro e wa ⟨rfl, v2, d2⟩
          have HM2 : Keep (Mine w wa ([hO ob [.int .i64 2, .int .u64 o.u, .int .i64 o.i, .int .i64 o.size, .string o.s] 30] ++ vO vb st :: [wO wb v2 (wSig st o.i o.size)])) := ⟨HM1.out.wdid d2⟩
          clear d2 HM1 q0 q1 q2 q3 q4 hw8 p0 p1 p2 p3 p4
          have p2 : wa.cell? ⟨ob, 2, none⟩ = some (.int .i64 o.i) := (Mine.h (A := []) HM2.out).cellv 2 _ rfl
          have p3 : wa.cell? ⟨ob, 3, none⟩ = some (.int .i64 o.size) := (Mine.h (A := []) HM2.out).cellv 3 _ rfl
          go_wp2_with fail
          refine (vSigned_c vb st o.i o.size wa (Mine.v (A := [_]) HM2.out) HOK.out.i (by have := HRM.out; omega)).mono ?_
          rintro e wz ⟨rfl, d3⟩
          have HZ : Keep (∃ v, Mine w wz ([] ++ vO vb (wLays (some []) (xs.take (i + 1))) :: [wO wb v (wLays (some []) (xs.take (i + 1)))])) := ⟨v2, by rw [HL.out]; exact (Mine.vdid (A := [_]) HM2.out d3).sub (List.sublist_cons_self _ _)⟩
          clear d3 HM2
          go_wp2_with fail
          exact ⟨⟨i + 1, by omega, by simp, HZ⟩, by simp only [intOf]; omega⟩
        · skip
          by_cases h3 : kd = 3
          · subst h3
            have HL : Keep (wLays (some []) (xs.take (i + 1)) = wBytes st (sl o.s)) := ⟨by rw [HST.out]; exact lay3 st o HKD.out⟩
            go_wp2_with fail
            refine (wBytes_c wb v st o.s w8 HM1.out.w (by have := HRM.out; omega)).mono ?_
            rintro e wa ⟨rfl, v2, d2⟩
            have HM2 : Keep (Mine w wa ([hO ob [.int .i64 3, .int .u64 o.u, .int .i64 o.i, .int .i64 o.size, .string o.s] 30] ++ vO vb st :: [wO wb v2 (wBytes st (sl o.s))])) := ⟨HM1.out.wdid d2⟩
            clear d2 HM1 q0 q1 q2 q3 q4 hw8 p0 p1 p2 p3 p4
            have p4 : wa.cell? ⟨ob, 4, none⟩ = some (.string o.s) := (Mine.h (A := []) HM2.out).cellv 4 _ rfl
            go_wp2_with fail
            refine (vBytes_c vb st o.s wa (Mine.v (A := [_]) HM2.out) (by have := HRM.out; omega)).mono ?_
            rintro e wz ⟨rfl, d3⟩
            have HZ : Keep (∃ v, Mine w wz ([] ++ vO vb (wLays (some []) (xs.take (i + 1))) :: [wO wb v (wLays (some []) (xs.take (i + 1)))])) := ⟨v2, by rw [HL.out]; exact (Mine.vdid (A := [_]) HM2.out d3).sub (List.sublist_cons_self _ _)⟩
            clear d3 HM2
            go_wp2_with fail
            exact ⟨⟨i + 1, by omega, by simp, HZ⟩, by simp only [intOf]; omega⟩
          · skip
            by_cases h4 : kd = 4
            · subst h4
              have HL : Keep (wLays (some []) (xs.take (i + 1)) = wText st (sl o.s)) := ⟨by rw [HST.out]; exact lay4 st o HKD.out⟩
              go_wp2_with fail
              refine (wText_c wb v st o.s w8 HM1.out.w HRM.out).mono ?_
              rintro e wa ⟨rfl, v2, d2⟩
              have HM2 : Keep (Mine w wa ([hO ob [.int .i64 4, .int .u64 o.u, .int .i64 o.i, .int .i64 o.size, .string o.s] 30] ++ vO vb st :: [wO wb v2 (wText st (sl o.s))])) := ⟨HM1.out.wdid d2⟩
              clear d2 HM1 q0 q1 q2 q3 q4 hw8 p0 p1 p2 p3 p4
              have p4 : wa.cell? ⟨ob, 4, none⟩ = some (.string o.s) := (Mine.h (A := []) HM2.out).cellv 4 _ rfl
              go_wp2_with fail
              refine (vText_c vb st o.s wa (Mine.v (A := [_]) HM2.out) HRM.out).mono ?_
              rintro e wz ⟨rfl, d3⟩
              have HZ : Keep (∃ v, Mine w wz ([] ++ vO vb (wLays (some []) (xs.take (i + 1))) :: [wO wb v (wLays (some []) (xs.take (i + 1)))])) := ⟨v2, by rw [HL.out]; exact (Mine.vdid (A := [_]) HM2.out d3).sub (List.sublist_cons_self _ _)⟩
              clear d3 HM2
              go_wp2_with fail
              exact ⟨⟨i + 1, by omega, by simp, HZ⟩, by simp only [intOf]; omega⟩
            · skip
              have HL : Keep (wLays (some []) (xs.take (i + 1)) = st) := ⟨by rw [HST.out]; exact lay0 st o (by rw [HKD.out]; exact h1) (by rw [HKD.out]; exact h2) (by rw [HKD.out]; exact h3) (by rw [HKD.out]; exact h4)⟩
              go_wp2_with fail
              refine (wDone_c wb v st w8 HM1.out.w).mono ?_
              rintro e wa ⟨rfl, ga⟩
              have HM2 : Keep (Mine w wa ([hO ob [.int .i64 kd, .int .u64 o.u, .int .i64 o.i, .int .i64 o.size, .string o.s] 30] ++ vO vb st :: [wO wb v st])) := ⟨HM1.out.grown ga⟩
              clear ga HM1 q0 q1 q2 q3 q4 hw8 p0 p1 p2 p3 p4
              go_wp2_with fail
              refine (vDone_c vb st wa (Mine.v (A := [_]) HM2.out)).mono ?_
              rintro e wz ⟨rfl, gz⟩
              have HZ : Keep (∃ v, Mine w wz ([] ++ vO vb (wLays (some []) (xs.take (i + 1))) :: [wO wb v (wLays (some []) (xs.take (i + 1)))])) := ⟨v, by rw [HL.out]; exact (HM2.out.grown gz).sub (List.sublist_cons_self _ _)⟩
              clear gz HM2 HL HST HRM
              generalize (⟨(st.getD []).toArray⟩ : ByteArray) = sx
              generalize werr st = ex
              go_wp2_with fail
              exact ⟨⟨i + 1, by omega, by simp, HZ⟩, by simp only [intOf]; omega⟩
    · have hlt2 : ¬ ((i : Int) < n) := by omega
      obtain ⟨v, HM⟩ := HI.out
      obtain ⟨st, hst⟩ : ∃ q, wLays (some []) (xs.take i) = q := ⟨_, rfl⟩
      rw [hst] at HM
      clear hst
      have HM1 : Keep (Mine w wr ([vO vb st] ++ [wO wb v st])) := ⟨HM⟩
      clear HI HM
      go_wp2_with fail
      refine (wDone_c wb v st wr HM1.out.w).mono ?_
      rintro e w4 ⟨rfl, g4⟩
      have HM2 : Keep (Mine w w4 ([] ++ vO vb st :: [wO wb v st])) := ⟨HM1.out.grown g4⟩
      clear g4 HM1
      go_wp2_with fail
      refine (vDone_c vb st w4 HM2.out.v).mono ?_
      rintro e w5 ⟨rfl, g5⟩
      have HG : Keep (w.grownBy w5 none) := ⟨HM2.out.g.trans g5⟩
      clear g5 HM2
      generalize (⟨(st.getD []).toArray⟩ : ByteArray) = sx
      generalize werr st = ex
      go_wp2_with fail
      go_ret
      exact ⟨by simp, HG.out⟩
end Go.Proofs.Ytkddfnglonofoaa
