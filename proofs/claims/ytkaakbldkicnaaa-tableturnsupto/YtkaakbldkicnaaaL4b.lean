/- TableTurns: many keys, none. -/
import Derived.Test.YtkaakbldkicnaaaL4
namespace Go.Proofs.Ytkaakbldkicnaaa
open Go Go.RowKit Go.Maps

set_option maxRecDepth 100000 in
set_option maxHeartbeats 8000000 in
theorem turns_long (a : Option Addr) (nk cap : Nat) (add : Int) (D : ByteArray) (w : World) (hn : 200 < nk) (hn2 : nk ≤ 4611686018427387904) :
    Calls Try.prog 5 #[.slice a nk cap, iv add, .string D] w fun r w' => r = .returned (.bool true) ∧ w.grownBy w' none := by
  have hnb : (200 : Int) < (nk : Int) := by omega
  have S0 := ((Sep.nil w).addBox (iv add) 3).addBox (.string D) 9
  have G0 : Keep (w.grownBy ((w.alloc (.cells #[iv add] 3)).alloc (.cells #[.string D] 9)) none) := ⟨S0.g⟩
  clear S0
  go_enter Try.func5, Try.ntmps5
  go_wp2_with fail
  refine (alive_c _).mono ?_
  rintro r w1 ⟨rfl, g1⟩
  have G1 : Keep (w.grownBy w1 none) := ⟨G0.out.trans g1⟩
  clear g1
  go_wp2_with fail
  refine (alive_c _).mono ?_
  rintro r w2 ⟨rfl, g2⟩
  have G2 : Keep (w.grownBy w2 none) := ⟨G1.out.trans g2⟩
  clear g2
  go_wp2_with fail
  go_ret
  exact ⟨rfl, G2.out⟩
theorem k6m {a b c d e f g : As} {l : List As} : a ∈ b :: c :: d :: e :: f :: g :: a :: l := List.mem_cons_of_mem _ k5m
theorem k7m {a b c d e f g h : As} {l : List As} : a ∈ b :: c :: d :: e :: f :: g :: h :: a :: l := List.mem_cons_of_mem _ k6m
set_option maxRecDepth 100000 in
set_option maxHeartbeats 16000000 in
theorem turns_zero (a : Option Addr) (cap : Nat) (add : Int) (D : ByteArray) (w : World) (hD : D.size ≤ 1048576) :
    Calls Try.prog 5 #[.slice a 0 cap, iv add, .string D] w fun r w' => r = .returned (.bool true) ∧ w.grownBy w' none := by
  have S0 := ((Sep.nil w).addBox (iv add) 3).addBox (.string D) 9
  go_enter Try.func5, Try.ntmps5
  go_wp2_with fail
  refine (alive_c _).mono ?_
  rintro r w1 ⟨rfl, g1⟩
  have H1 := Keep.mk (S0.grown g1)
  clear g1 S0
  obtain ⟨ab, hab⟩ : ∃ ab, w.heap.size = ab := ⟨_, rfl⟩
  obtain ⟨db, hdb⟩ : ∃ db, (w.alloc (.cells #[iv add] 3)).heap.size = db := ⟨_, rfl⟩
  rw [hab, hdb] at H1
  rw [heap1, hab] at hdb
  rw [hab, hdb]
  clear hab hdb
  go_wp2_with fail
  refine (new_s 2 H1.out (by omega) (by omega)).mono ?_
  rintro r w2 ⟨tb, rfl, S2⟩
  have H2 := Keep.mk (S2.addBox (pt tb) 26)
  clear S2 H1
  go_wp2_with fail
  obtain ⟨pb, hpb⟩ : ∃ pb, w2.heap.size = pb := ⟨_, rfl⟩
  rw [hpb] at H2 ⊢
  clear hpb
  obtain ⟨w3, hw3⟩ : ∃ w3, w2.alloc (.cells #[pt tb] 26) = w3 := ⟨_, rfl⟩
  rw [hw3] at H2 ⊢
  clear hw3
  have H3 : Keep (Sep w w3 [tabA tb 2 [], boxA pb [pt tb] 26, boxA db [.string D] 9, boxA ab [iv add] 3]) := ⟨H2.out.swap⟩
  clear H2
  go_loopw [9] (fun v wr => wr = w3 ∧ v = .int .i64 0) (fun _ _ => 0)
  case atStart => exact ⟨rfl, rfl⟩
  case round =>
    obtain ⟨rfl, rfl⟩ := hrel
    have cp : wr.cell? ⟨pb, 0, none⟩ = some (pt tb) := (H3.out.boxGet k1m).cellv 0 _ rfl
    have hKA := keys_s H3.out k0m
    go_wp2_with fail
    refine hKA.mono ?_
    rintro r w4 ⟨vk, rfl, S4⟩
    clear hKA cp
    obtain ⟨ak, ck, rfl⟩ := (S4.row k0m).slice
    rw [show (Tb.keys ([] : KV)).length = 0 from rfl] at S4 ⊢
    have S5 := S4.addBox (.slice none 0 0) 22
    have cp : (w4.alloc (.cells #[.slice none 0 0] 22)).cell? ⟨pb, 0, none⟩ = some (pt tb) := (S5.boxGet k3m).cellv 0 _ rfl
    obtain ⟨cb, hcb⟩ : ∃ cb, w4.heap.size = cb := ⟨_, rfl⟩
    rw [hcb] at S5
    have HS5 := Keep.mk (fr1 [_, _] S5.nilrow.swap)
    have HS6 := Keep.mk (fr1 [_, _, _] S5.nilrow)
    clear S4 S5 HS5
    go_wp2_with fail
    refine (each_nil w _ tb 2 _ _ HS6.out).mono ?_
    rintro r w5 ⟨rfl, S7⟩
    clear HS6 cp hcb
    have cc : w5.cell? ⟨cb, 0, none⟩ = some (.slice none 0 0) := (S7.boxGet k2m).cellv 0 _ rfl
    have hT1 := texts_c w5 _ _ [] [] (S7.row k1m) (S7.row k3m) (by simp)
    rw [show decide (([] : List ByteArray) = []) = true by simp] at hT1
    have H7 := Keep.mk S7
    clear S7
    go_wp2_with fail
    refine hT1.mono ?_
    rintro r w6 ⟨rfl, g6⟩
    have H8 := Keep.mk (H7.out.grown g6)
    have cp : w6.cell? ⟨pb, 0, none⟩ = some (pt tb) := (H8.out.boxGet k4m).cellv 0 _ rfl
    have hK8 := keys_s H8.out k0m
    clear H7 g6 hT1 cc
    go_wp2_with fail
    refine hK8.mono ?_
    rintro r w7 ⟨v7, rfl, S9⟩
    have hT2 := texts_c w7 _ _ [] [] (S9.row k0m) (S9.row k4m) (by simp)
    rw [show decide (([] : List ByteArray) = []) = true by simp] at hT2
    have H9 := Keep.mk S9.tail
    clear S9 hK8 H8 cp
    go_wp2_with fail
    refine hT2.mono ?_
    rintro r w8 ⟨rfl, g8⟩
    have H10 := Keep.mk (H9.out.grown g8)
    clear H9 g8 hT2
    go_wp2_with fail
    go_loopw [12] (fun v wr => wr = w8 ∧ v = .int .i64 0) (fun _ _ => 0)
    case atStart => exact ⟨rfl, rfl⟩
    case round =>
      obtain ⟨rfl, rfl⟩ := hrel
      have cp : wr.cell? ⟨pb, 0, none⟩ = some (pt tb) := (H10.out.boxGet k4m).cellv 0 _ rfl
      have cd : wr.cell? ⟨db, 0, none⟩ = some (.string D) := (H10.out.boxGet (List.mem_cons_of_mem _ k4m)).cellv 0 _ rfl
      have hP := peek_s D H10.out k0m (by omega)
      rw [show Tb.look ([] : KV) D = none from rfl] at hP
      go_wp2_with fail
      refine hP.mono ?_
      rintro r w9 ⟨rfl, hw⟩
      subst w9
      clear hP cp cd
      have S11 := (H10.out.addBox (iv 0) 3).addBox (.string Tb.newOne) 9
      go_wp2_with fail
      obtain ⟨nb, hnb'⟩ : ∃ nb, wr.heap.size = nb := ⟨_, rfl⟩
      rw [heap1, hnb'] at S11
      rw [hnb']
      obtain ⟨fb, hfb⟩ : ∃ fb, nb + 1 = fb := ⟨_, rfl⟩
      rw [hfb] at S11 ⊢
      clear hnb' hfb H10
      obtain ⟨w10, hw10⟩ : ∃ w10, (wr.alloc (.cells #[iv 0] 3)).alloc (.cells #[.string Tb.newOne] 9) = w10 := ⟨_, rfl⟩
      have H11 := Keep.mk S11
      rw [hw10] at H11
      rw [hw10]
      clear S11 hw10
      go_loopw [19] (fun v wr => wr = w10 ∧ v = .int .i64 0) (fun _ _ => 0)
      case atStart => exact ⟨rfl, rfl⟩
      case round =>
        obtain ⟨rfl, rfl⟩ := hrel
        have cf : wr.cell? ⟨fb, 0, none⟩ = some (.string Tb.newOne) := (H11.out.boxGet k0m).cellv 0 _ rfl
        have cz : wr.frozen? ⟨fb, 0, none⟩ = false := (H11.out.boxGet k0m).frozen 0
        have cd : wr.cell? ⟨db, 0, none⟩ = some (.string D) := (H11.out.boxGet (List.mem_cons_of_mem _ (List.mem_cons_of_mem _ (List.mem_cons_of_mem _ k4m)))).cellv 0 _ rfl
        obtain ⟨F0, hF0⟩ : ∃ F0, Tb.newOne = F0 := ⟨_, rfl⟩
        have hsz : F0.size ≤ 9 := by rw [← hF0]; decide
        rw [hF0] at cf H11
        by_cases hFD : F0 = D
        · have ha := addS2 F0 ⟨#[33]⟩ (by show _ + 1 ≤ _; omega)
          have hlen : (F0 ++ ⟨#[33]⟩ : ByteArray).size = F0.size + 1 := ByteArray.size_append ..
          generalize (F0 ++ ⟨#[33]⟩ : ByteArray) = FF at *
          subst hFD
          have SX := Keep.mk (fr1 [_, _] (H11.out.boxSet (.string FF)))
          clear H11
          have cp : (wr.setCell ⟨fb, 0, none⟩ (.string FF)).cell? ⟨pb, 0, none⟩ = some (pt tb) := (SX.out.boxGet k6m).cellv 0 _ rfl
          go_wp2_with fail
          refine (each_nil w _ tb 2 _ _ SX.out).mono ?_
          rintro r w12 ⟨rfl, S12⟩
          have b1 : w12.cell? ⟨pb, 0, none⟩ = some (pt tb) := (S12.boxGet k6m).cellv 0 _ rfl
          have b2 : w12.cell? ⟨db, 0, none⟩ = some (.string F0) := (S12.boxGet k7m).cellv 0 _ rfl
          have b3 : w12.cell? ⟨fb, 0, none⟩ = some (.string FF) := (S12.boxGet k1m).cellv 0 _ rfl
          have b4 : w12.cell? ⟨nb, 0, none⟩ = some (iv 0) := (S12.boxGet k2m).cellv 0 _ rfl
          have hP1 := peek_s F0 S12 k0m (by omega)
          have hP2 := peek_s FF S12 k0m (by omega)
          rw [show Tb.look ([] : KV) F0 = none from rfl] at hP1
          rw [show Tb.look ([] : KV) FF = none from rfl] at hP2
          have HG : Keep (w.grownBy w12 none) := ⟨S12.g⟩
          clear S12 SX cp
          go_wp2_with fail
          refine hP1.mono ?_
          rintro r w13 ⟨rfl, hw⟩
          subst w13
          clear hP1
          go_wp2_with fail
          refine hP2.mono ?_
          rintro r w13 ⟨rfl, hw⟩
          subst w13
          clear hP2
          go_wp2_with fail
          go_ret
          exact ⟨rfl, HG.out⟩
        · have hsn := str_ne hFD
          have SX := Keep.mk (fr1 [_, _] H11.out)
          clear H11
          have cp : wr.cell? ⟨pb, 0, none⟩ = some (pt tb) := (SX.out.boxGet k6m).cellv 0 _ rfl
          go_wp2_with fail
          refine (each_nil w _ tb 2 _ _ SX.out).mono ?_
          rintro r w12 ⟨rfl, S12⟩
          have b1 : w12.cell? ⟨pb, 0, none⟩ = some (pt tb) := (S12.boxGet k6m).cellv 0 _ rfl
          have b2 : w12.cell? ⟨db, 0, none⟩ = some (.string D) := (S12.boxGet k7m).cellv 0 _ rfl
          have b3 : w12.cell? ⟨fb, 0, none⟩ = some (.string F0) := (S12.boxGet k1m).cellv 0 _ rfl
          have b4 : w12.cell? ⟨nb, 0, none⟩ = some (iv 0) := (S12.boxGet k2m).cellv 0 _ rfl
          have hP1 := peek_s D S12 k0m (by omega)
          have hP2 := peek_s F0 S12 k0m (by omega)
          rw [show Tb.look ([] : KV) D = none from rfl] at hP1
          rw [show Tb.look ([] : KV) F0 = none from rfl] at hP2
          have HG : Keep (w.grownBy w12 none) := ⟨S12.g⟩
          clear S12 SX cp
          go_wp2_with fail
          refine hP1.mono ?_
          rintro r w13 ⟨rfl, hw⟩
          subst w13
          clear hP1
          go_wp2_with fail
          refine hP2.mono ?_
          rintro r w13 ⟨rfl, hw⟩
          subst w13
          clear hP2
          go_wp2_with fail
          go_ret
          exact ⟨rfl, HG.out⟩
theorem turns_c (add : Int) (v : Value) (K : List ByteArray) (D : ByteArray) (w : World) (hS : Str w v K) (hl : K.length ≤ 8796093022207) (hs : ∀ x ∈ K, x.size ≤ 1048576) (hD : D.size ≤ 1048576) :
    Calls Try.prog 5 #[v, iv add, .string D] w fun r w' => r = .returned (.bool true) ∧ w.grownBy w' none := by
  by_cases h0 : 1 ≤ K.length
  · obtain ⟨a, cap, rfl, q⟩ := hS.form h0
    by_cases h1 : 200 < K.length
    · exact turns_long _ _ cap add D w h1 (by omega)
    · exact turns_pos a _ cap K add D w rfl h0 (by omega) hs hD q
  · obtain ⟨a, cap, rfl⟩ := hS.slice
    rw [show K.length = 0 by omega]
    exact turns_zero a cap add D w hD
end Go.Proofs.Ytkaakbldkicnaaa
