/- TableTurns' walk. -/
import Derived.Test.YtkaakbldkicnaaaE3
import Derived.Test.YtkaakbldkicnaaaB2
import Derived.Test.YtkaakbldkicnaaaP5
import Derived.Deep.RegionWith
namespace Go.Proofs.Ytkaakbldkicnaaa
open Go Go.RowKit Go.Maps

theorem fr1 {w0 W : World} (A : List As) {a : As} {B : List As} (h : Sep w0 W (A ++ a :: B)) : Sep w0 W (a :: (A ++ B)) := h.perm List.perm_middle
theorem peek_q {w0 W : World} {l : List As} {tb sz : Nat} {L : KV} (k : ByteArray) (h : Sep w0 W l) (hm : tabA tb sz L ∈ l) (hk : k.size ≤ 4611686018427387904) (m : Nat) :
    Calls Try.prog 12 #[pt tb, .string k] (W.drewN m) fun r W' => r = .returned (.tuple #[iv ((Tb.look L k).getD 0), .bool (Tb.look L k).isSome]) ∧ ∃ n, W' = (W.drewN m).drewN n :=
  (peek_s k (h.grown (gr_drewN _ _ _)) hm hk).mono fun _ _ ⟨h1, h2⟩ => ⟨h1, 0, h2⟩
theorem addS2 (a b : ByteArray) (h : a.size + b.size ≤ 9223372036854775807) (W : World) : (Op.stringOp .add a b).run Try.prog W = .ok (.string (a ++ b)) W := by
  simp only [Op.stringOp]
  rw [if_neg (by have : IntKind.i64.max = 9223372036854775807 := by decide
                 omega)]
  rfl
theorem wrap_back (j add : Int) (h0 : 0 ≤ j) (h1 : j ≤ 1000) : IntKind.i64.wrap (IntKind.i64.wrap (j + add) - add) = j := by
  rw [IntKind.wrap_i64, IntKind.wrap_i64]; omega
theorem put_ne1 {L : KV} {sz : Nat} {k : ByteArray} {x : Int} : 1 ≤ (Tb.putL sz L k x).length := by
  unfold Tb.putL
  split
  · simp
  · split
    · simp
    · simp
set_option maxRecDepth 100000 in
set_option maxHeartbeats 16000000 in
theorem turns_pos (p : Addr) (nk cap : Nat) (K : List ByteArray) (add : Int) (D : ByteArray) (w : World) (hK : K.length = nk) (hnk : 1 ≤ nk) (hn : nk ≤ 200) (hs : ∀ x ∈ K, x.size ≤ 1048576) (hD : D.size ≤ 1048576) (hc : ∀ j x, K[j]? = some x → w.cell? (p.add j) = some (.string x)) :
    Calls Try.prog 5 #[.slice (some p) nk cap, iv add, .string D] w fun r w' => r = .returned (.bool true) ∧ w.grownBy w' none := by
  have HA : Keep (K.length = nk ∧ (∀ x ∈ K, x.size ≤ 1048576) ∧ ∀ j x, K[j]? = some x → w.cell? (p.add j) = some (.string x)) := ⟨hK, hs, hc⟩
  have hnb : (nk : Int) ≤ 200 := by omega
  have hw2 : IntKind.i64.wrap ((nk : Int) + 2) = ((nk + 2 : Nat) : Int) := by rw [wi _ (by omega) (by omega)]; omega
  clear hK hs hc
  have S0 := ((Sep.nil w).addBox (iv add) 3).addBox (.string D) 9
  go_enter Try.func5, Try.ntmps5
  go_wp2_with fail
  refine (alive_c _).mono ?_
  rintro r w1 ⟨rfl, g1⟩
  have H1 := Keep.mk (S0.grown g1)
  clear g1 S0
  obtain ⟨ab, hab⟩ : ∃ ab, w.heap.size = ab := ⟨_, rfl⟩
  obtain ⟨db, hdb⟩ : ∃ db, (w.alloc (.cells #[iv add] 3)).heap.size = db := ⟨_, rfl⟩
  rw [hab, hdb] at H1
  rw [heap1, hab] at hdb
  rw [hab, hdb]
  clear hab hdb
  go_wp2_with fail
  refine (new_s (nk + 2) H1.out (by omega) (by omega)).mono ?_
  rintro r w2 ⟨tb, rfl, S2⟩
  have H2 := Keep.mk (S2.addBox (pt tb) 26)
  clear S2 H1
  go_wp2_with fail
  obtain ⟨pb, hpb⟩ : ∃ pb, w2.heap.size = pb := ⟨_, rfl⟩
  rw [hpb] at H2 ⊢
  clear hpb
  obtain ⟨w3, hw3⟩ : ∃ w3, w2.alloc (.cells #[pt tb] 26) = w3 := ⟨_, rfl⟩
  rw [hw3] at H2 ⊢
  clear hw3
  have H3 : Keep (∃ L, Tb.Num K 0 L ∧ L.length ≤ 0 ∧ (1 ≤ 0 → 1 ≤ L.length) ∧ Sep w w3 [tabA tb (nk + 2) L, boxA pb [pt tb] 26, boxA db [.string D] 9, boxA ab [iv add] 3]) := ⟨[], (fun _ h => by cases h), Nat.le_refl _, (fun h => by omega), H2.out.swap⟩
  clear H2
  go_loopw [9] (fun v wr => ∃ i : Nat, i ≤ nk ∧ v = .int .i64 i ∧ Keep (∃ L, Tb.Num K i L ∧ L.length ≤ i ∧ (1 ≤ i → 1 ≤ L.length) ∧ Sep w wr [tabA tb (nk + 2) L, boxA pb [pt tb] 26, boxA db [.string D] 9, boxA ab [iv add] 3])) (fun v _ => (nk - intOf v).toNat)
  case atStart => exact ⟨0, by omega, rfl, H3⟩
  case round =>
    clear H3
    obtain ⟨i, hi, rfl, hR⟩ := hrel
    obtain ⟨L, hNu, hle, hne, S⟩ := hR.out
    by_cases hlt : i < nk
    · obtain ⟨k, hk⟩ : ∃ k, K[i]? = some k := ⟨_, List.getElem?_eq_getElem (by rw [HA.out.1]; exact hlt)⟩
      have hks : k.size ≤ 1048576 := HA.out.2.1 k (List.mem_of_getElem? hk)
      have ci := S.cell (HA.out.2.2 i k hk)
      have cp : wr.cell? ⟨pb, 0, none⟩ = some (pt tb) := (S.boxGet k1m).cellv 0 _ rfl
      have hi0 : (0 : Int) ≤ (i : Int) := by omega
      have hi1 : (i : Int) < (nk : Nat) := by omega
      have hti : ((i : Nat) : Int).toNat = i := by omega
      have hwi : IntKind.i64.wrap ((i : Int) + 1) = ((i + 1 : Nat) : Int) := by rw [wi _ (by omega) (by omega)]; omega
      have hP := put_s k (i : Nat) (S.grown (gr_drew _ _)) (by omega)
      have HX : Keep (i < nk ∧ Tb.Num K (i + 1) (Tb.putL (nk + 2) L k i) ∧ (Tb.putL (nk + 2) L k i).length ≤ i + 1 ∧ 1 ≤ (Tb.putL (nk + 2) L k i).length) := ⟨hlt, (hNu.put hle (by omega) k hk (S.tab k0m).nk).1, (hNu.put hle (by omega) k hk (S.tab k0m).nk).2, put_ne1⟩
      clear hk S hR hNu hle hne hi
      go_wp2_with fail
      go_region_with (go_at_call 10; refine hP.mono ?_; rintro r w4 ⟨rfl, S4⟩; have H4 : Keep (∃ L, Tb.Num K (i + 1) L ∧ L.length ≤ i + 1 ∧ (1 ≤ i + 1 → 1 ≤ L.length) ∧ Sep w w4 [tabA tb (nk + 2) L, boxA pb [pt tb] 26, boxA db [.string D] 9, boxA ab [iv add] 3]) := ⟨_, HX.out.2.1, HX.out.2.2.1, fun _ => HX.out.2.2.2, S4⟩; clear S4 hP)
      all_goals go_wp2_with fail
      all_goals exact ⟨⟨i + 1, by have := HX.out; omega, rfl, H4⟩, by have := HX.out; simp only [intOf]; omega⟩
    · obtain rfl : i = nk := by omega
      have cp : wr.cell? ⟨pb, 0, none⟩ = some (pt tb) := (S.boxGet k1m).cellv 0 _ rfl
      have ok := S.tab k0m
      have hKA := keys_s S k0m
      obtain ⟨n, hn'⟩ : ∃ n, L.length = n := ⟨_, rfl⟩
      have hkl : (Tb.keys L).length = n := by rw [List.length_map]; exact hn'
      have HL : Keep (Tb.Num K i L ∧ (Tb.keys L).Nodup ∧ L.length = n ∧ (Tb.keys L).length = n ∧ 1 ≤ n ∧ n ≤ i ∧ ∀ k ∈ Tb.keys L, k.size ≤ 1048576) := ⟨hNu, ok.nk, hn', hkl, by rw [← hn']; exact hne hnk, by omega, fun k hk => by
        obtain ⟨p, hp, rfl⟩ := List.mem_map.1 hk
        obtain ⟨j, _, _, h3⟩ := hNu p hp
        exact HA.out.2.1 _ (List.mem_of_getElem? h3)⟩
      have hn1 : 1 ≤ n := HL.out.2.2.2.2.1
      have hn2 : n ≤ 200 := by have := HL.out.2.2.2.2.2.1; omega
      clear hR S ok hNu hle hne hi hlt hn'
      go_wp2_with fail
      refine hKA.mono ?_
      rintro r w4 ⟨vk, rfl, S4⟩
      clear hKA cp
      obtain ⟨ak, ck, rfl, _⟩ := (S4.row k0m).form (by rw [hkl]; omega)
      rw [hkl] at S4 ⊢
      clear hkl
      have S5 := S4.addBox (.slice none 0 0) 22
      have cp : (w4.alloc (.cells #[.slice none 0 0] 22)).cell? ⟨pb, 0, none⟩ = some (pt tb) := (S5.boxGet k3m).cellv 0 _ rfl
      obtain ⟨cb, hcb⟩ : ∃ cb, w4.heap.size = cb := ⟨_, rfl⟩
      rw [hcb] at S5
      have HS5 := Keep.mk S5
      clear S4 S5
      go_wp2_with fail
      have S6 := fr1 [_, _, _, _] (fr1 [_, _] (fr1 [_] (fr1 [_, _, _, _, _, _] HS5.out.nilrow)))
      refine (each1 w _ tb (i + 2) n cb ab L add _ S6 HL.out.2.2.1 (by omega)).mono ?_
      rintro r w5 ⟨rfl, vc, S7⟩
      clear S6 HS5 cp hcb
      obtain ⟨L1, hL1⟩ : ∃ L1 : KV, L.map (fun p => (p.1, up add p.2)) = L1 := ⟨_, rfl⟩
      rw [hL1] at S7
      have hk1 : Tb.keys L1 = Tb.keys L := by rw [← hL1]; simp [Tb.keys, Function.comp_def]
      have HL1 : Keep (L.map (fun p => (p.1, up add p.2)) = L1 ∧ Tb.keys L1 = Tb.keys L) := ⟨hL1, hk1⟩
      clear hL1
      have cc : w5.cell? ⟨cb, 0, none⟩ = some vc := (S7.boxGet k1m).cellv 0 _ rfl
      have hT1 := texts_c w5 _ _ (Tb.keys L) (Tb.keys L) (S7.row k2m) (S7.row k4m) (by rw [HL.out.2.2.2.1]; omega)
      rw [show decide (Tb.keys L = Tb.keys L) = true by simp] at hT1
      have H7 : Keep (Sep w w5 [tabA tb (i + 2) L1, boxA ab [iv add] 3, rowA (.slice (some ak) n ck) (Tb.keys L), boxA pb [pt tb] 26, boxA db [.string D] 9]) := ⟨S7.swap.tail.swap.tail⟩
      clear S7
      go_wp2_with fail
      refine hT1.mono ?_
      rintro r w6 ⟨rfl, g6⟩
      have H8 := Keep.mk (H7.out.grown g6)
      have cp : w6.cell? ⟨pb, 0, none⟩ = some (pt tb) := (H8.out.boxGet k3m).cellv 0 _ rfl
      have hK8 := keys_s H8.out k0m
      rw [hk1] at hK8
      clear H7 g6 hT1 cc
      go_wp2_with fail
      refine hK8.mono ?_
      rintro r w7 ⟨v7, rfl, S9⟩
      have hT2 := texts_c w7 _ _ (Tb.keys L) (Tb.keys L) (S9.row k0m) (S9.row k3m) (by rw [HL.out.2.2.2.1]; omega)
      rw [show decide (Tb.keys L = Tb.keys L) = true by simp] at hT2
      have H9 : Keep (Sep w w7 [tabA tb (i + 2) L1, boxA ab [iv add] 3, rowA (.slice (some ak) n ck) (Tb.keys L), boxA pb [pt tb] 26, boxA db [.string D] 9]) := ⟨S9.tail⟩
      clear S9 hK8 H8 cp
      go_wp2_with fail
      refine hT2.mono ?_
      rintro r w8 ⟨rfl, g8⟩
      have H10 := Keep.mk (H9.out.grown g8)
      clear H9 g8 hT2
      go_wp2_with fail
      go_loopw [12] (fun v wr => ∃ e : Nat, e ≤ n ∧ v = .int .i64 e ∧ Keep (Sep w wr [tabA tb (i + 2) L1, boxA ab [iv add] 3, rowA (.slice (some ak) n ck) (Tb.keys L), boxA pb [pt tb] 26, boxA db [.string D] 9])) (fun v _ => (n - intOf v).toNat)
      case atStart => exact ⟨0, by omega, rfl, H10⟩
      case round =>
        clear H10
        obtain ⟨e, he, rfl, hR⟩ := hrel
        by_cases hlt : e < n
        · as_aux_lemma =>
            obtain ⟨q, hq⟩ : ∃ q, L[e]? = some q := ⟨_, List.getElem?_eq_getElem (by rw [HL.out.2.2.1]; exact hlt)⟩
            obtain ⟨j, hj1, hj2, hj3⟩ := HL.out.1 q (List.mem_of_getElem? hq)
            have hkq : (Tb.keys L)[e]? = some q.1 := by simp [Tb.keys, hq]
            have hlook : Tb.look L1 q.1 = some (up add q.2) := by
              have nk := (hR.out.tab k0m).nk
              have hm : (q.1, up add q.2) ∈ L1 := by
                rw [← HL1.out.1]
                exact List.mem_map.2 ⟨q, List.mem_of_getElem? hq, rfl⟩
              obtain ⟨A, C, hAC⟩ := List.append_of_mem hm
              rw [hAC] at nk ⊢
              exact Tb.look_mid (Tb.nodup_mid nk).1
            have hks := HL.out.2.2.2.2.2.2 q.1 (List.mem_of_getElem? hkq)
            have hP := peek_q q.1 hR.out k0m (by omega)
            rw [hlook, hj1] at hP
            have hback := wrap_back j add (by omega) (by omega)
            have cw := (hR.out.row k2m).cell hkq
            have ck2 := hR.out.cell (HA.out.2.2 j q.1 hj3)
            have cp : wr.cell? ⟨pb, 0, none⟩ = some (pt tb) := (hR.out.boxGet k3m).cellv 0 _ rfl
            have ca : wr.cell? ⟨ab, 0, none⟩ = some (iv add) := (hR.out.boxGet k1m).cellv 0 _ rfl
            have hi0 : (0 : Int) ≤ (e : Int) := by omega
            have hi1 : (e : Int) < (n : Nat) := by omega
            have hti : ((e : Nat) : Int).toNat = e := by omega
            have hwi : IntKind.i64.wrap ((e : Int) + 1) = ((e + 1 : Nat) : Int) := by rw [wi _ (by omega) (by omega)]; omega
            have HX : Keep (e < n) := ⟨hlt⟩
            obtain ⟨ji, hji⟩ : ∃ ji : Int, (j : Int) = ji := ⟨_, rfl⟩
            have g0 : 0 ≤ ji := by omega
            have g1 : ji < (i : Nat) := by omega
            have g2 : ji.toNat = j := by omega
            rw [hji] at hP hback
            change ∀ m, Calls Try.prog 12 #[pt tb, .string q.1] (wr.drewN m) fun r W' => r = .returned (.tuple #[iv (IntKind.i64.wrap (ji + add)), .bool true]) ∧ ∃ n, W' = (wr.drewN m).drewN n at hP
            generalize IntKind.i64.wrap (ji + add) = X at *
            generalize q.1 = k at *
            clear hq hj1 hj2 hj3 hkq hlook hji hk1 he
            go_wp2_with fail
            go_quiet ((go_at_call 12; exact Calls.quiet_of (hP _)))
            go_wp2_with fail
            have e1 : decide (ji < 0) = false := decide_eq_false (by omega)
            have e2 : decide ((i : Int) ≤ ji) = false := decide_eq_false (by omega)
            have e12 : (decide (ji < 0) || decide ((i : Int) ≤ ji)) = false := by rw [e1, e2]; rfl
            go_quiet (fail)
            go_wp2_with fail
            exact ⟨⟨e + 1, by have := HX.out; omega, rfl, ⟨hR.out.grown (by first | exact gr_drewN _ _ _ | exact (gr_drewN _ _ _).trans (gr_drewN _ _ _))⟩⟩, by have := HX.out; simp only [intOf]; omega⟩
        · obtain rfl : e = n := by omega
          have cp : wr.cell? ⟨pb, 0, none⟩ = some (pt tb) := (hR.out.boxGet k3m).cellv 0 _ rfl
          have cd : wr.cell? ⟨db, 0, none⟩ = some (.string D) := (hR.out.boxGet k4m).cellv 0 _ rfl
          have hP := peek_s D hR.out k0m (by omega)
          have HR := hR
          clear hR hlt he
          go_wp2_with fail
          refine hP.mono ?_
          rintro r w9 ⟨rfl, hw⟩
          subst w9
          clear hP cp cd
          have S11 := (HR.out.addBox (iv 0) 3).addBox (.string ⟨#[97, 32, 110, 101, 119, 32, 111, 110, 101]⟩) 9
          clear HR
          obtain ⟨th, hth⟩ : ∃ th, (Tb.look L1 D).isSome = th := ⟨_, rfl⟩
          have HTH : Keep ((Tb.look L1 D).isSome = th) := ⟨hth⟩
          rw [hth]
          clear hth
          generalize (Tb.look L1 D).getD 0 = g15
          go_wp2_with fail
          obtain ⟨nb, hnb'⟩ : ∃ nb, wr.heap.size = nb := ⟨_, rfl⟩
          rw [heap1, hnb'] at S11
          rw [hnb']
          obtain ⟨fb, hfb⟩ : ∃ fb, nb + 1 = fb := ⟨_, rfl⟩
          rw [hfb] at S11 ⊢
          clear hnb' hfb
          obtain ⟨w10, hw10⟩ : ∃ w10, (wr.alloc (.cells #[iv 0] 3)).alloc (.cells #[.string Tb.newOne] 9) = w10 := ⟨_, rfl⟩
          have H11 : Keep (Sep w w10 [boxA fb [.string (Tb.fsh (Tb.keys L) 0)] 9, boxA nb [iv 0] 3, tabA tb (i + 2) L1, boxA ab [iv add] 3, rowA (.slice (some ak) e ck) (Tb.keys L), boxA pb [pt tb] 26, boxA db [.string D] 9]) := ⟨by rw [← hw10]; exact S11⟩
          rw [hw10]
          clear S11 hw10
          go_loopw [19] (fun v wr => ∃ q : Nat, q ≤ e ∧ v = .int .i64 q ∧ Keep (Sep w wr [boxA fb [.string (Tb.fsh (Tb.keys L) q)] 9, boxA nb [iv 0] 3, tabA tb (i + 2) L1, boxA ab [iv add] 3, rowA (.slice (some ak) e ck) (Tb.keys L), boxA pb [pt tb] 26, boxA db [.string D] 9])) (fun v _ => (e - intOf v).toNat)
          case atStart => exact ⟨0, by omega, rfl, H11⟩
          case round =>
            clear H11
            obtain ⟨q, hq, rfl, hR⟩ := hrel
            have hsz := Tb.fsh_le (Tb.keys L) HL.out.2.2.2.2.2.2 q
            by_cases hlt : q < e
            · obtain ⟨k, hk⟩ : ∃ k, (Tb.keys L)[q]? = some k := ⟨_, List.getElem?_eq_getElem (by rw [HL.out.2.2.2.1]; exact hlt)⟩
              have hks := HL.out.2.2.2.2.2.2 k (List.mem_of_getElem? hk)
              have cw := (hR.out.row k4m).cell hk
              have cf : wr.cell? ⟨fb, 0, none⟩ = some (.string (Tb.fsh (Tb.keys L) q)) := (hR.out.boxGet k0m).cellv 0 _ rfl
              have cz : wr.frozen? ⟨fb, 0, none⟩ = false := (hR.out.boxGet k0m).frozen 0
              have ha := addS2 (Tb.fsh (Tb.keys L) q) k (by omega)
              have hs1 : Tb.fsh (Tb.keys L) q ++ k = Tb.fsh (Tb.keys L) (q + 1) := by rw [Tb.fsh, List.getD, hk]; rfl
              rw [hs1] at ha
              have hi0 : (0 : Int) ≤ (q : Int) := by omega
              have hi1 : (q : Int) < (e : Nat) := by omega
              have hti : ((q : Nat) : Int).toNat = q := by omega
              have hwi : IntKind.i64.wrap ((q : Int) + 1) = ((q + 1 : Nat) : Int) := by rw [wi _ (by omega) (by omega)]; omega
              have HX : Keep (q < e) := ⟨hlt⟩
              have HN : Keep (Sep w (wr.setCell ⟨fb, 0, none⟩ (.string (Tb.fsh (Tb.keys L) (q + 1)))).drew [boxA fb [.string (Tb.fsh (Tb.keys L) (q + 1))] 9, boxA nb [iv 0] 3, tabA tb (i + 2) L1, boxA ab [iv add] 3, rowA (.slice (some ak) e ck) (Tb.keys L), boxA pb [pt tb] 26, boxA db [.string D] 9]) := ⟨(hR.out.boxSet _).grown (gr_drew _ _)⟩
              generalize hg1 : Tb.fsh (Tb.keys L) (q + 1) = s1 at *
              have HG1 : Keep (Tb.fsh (Tb.keys L) (q + 1) = s1) := ⟨hg1⟩
              clear hg1
              generalize Tb.fsh (Tb.keys L) q = s0 at *
              clear hk hR hs1 hsz hq
              go_wp2_with fail
              go_region
              go_wp2_with fail
              exact ⟨⟨q + 1, by have := HX.out; omega, rfl, by rw [HG1.out]; exact HN⟩, by have := HX.out; simp only [intOf]; omega⟩
            · obtain rfl : q = e := by omega
              have cf : wr.cell? ⟨fb, 0, none⟩ = some (.string (Tb.fsh (Tb.keys L) q)) := (hR.out.boxGet k0m).cellv 0 _ rfl
              have cz : wr.frozen? ⟨fb, 0, none⟩ = false := (hR.out.boxGet k0m).frozen 0
              have cd : wr.cell? ⟨db, 0, none⟩ = some (.string D) := (hR.out.boxGet (List.mem_cons_of_mem _ (List.mem_cons_of_mem _ k4m))).cellv 0 _ rfl
              obtain ⟨F0, hF0⟩ : ∃ F0, Tb.fsh (Tb.keys L) q = F0 := ⟨_, rfl⟩
              have hF1 : (Tb.fsh (Tb.keys L) (Tb.keys L).length).size ≤ F0.size := by rw [HL.out.2.2.2.1, hF0]; exact Nat.le_refl _
              rw [hF0] at hR cf hsz
              clear hF0 hlt hq
              by_cases hFD : F0 = D
              · as_aux_lemma =>
                  have ha := addS2 F0 ⟨#[33]⟩ (by show _ + 1 ≤ _; omega)
                  have hlen : (F0 ++ ⟨#[33]⟩ : ByteArray).size = F0.size + 1 := ByteArray.size_append ..
                  generalize (F0 ++ ⟨#[33]⟩ : ByteArray) = FF at *
                  have HF0 : Keep (FF ∉ Tb.keys L ∧ FF ≠ D ∧ FF.size ≤ 281474976710656) := ⟨Tb.fsh_not (by omega), fun h => by rw [h, ← hFD] at hlen; omega, by omega⟩
                  subst hFD
                  have HF : Keep (Sep w (wr.setCell ⟨fb, 0, none⟩ (.string FF)) [boxA fb [.string FF] 9, boxA nb [iv 0] 3, tabA tb (i + 2) L1, boxA ab [iv add] 3, rowA (.slice (some ak) q ck) (Tb.keys L), boxA pb [pt tb] 26, boxA db [.string F0] 9]) := ⟨hR.out.boxSet _⟩
                  clear hR hF1 hsz hlen
                  have hf1 : FF ∉ Tb.keys L1 := by rw [hk1]; exact HF0.out.1
                  have hf2 : FF ≠ F0 := HF0.out.2.1
                  have hf3 : FF.size ≤ 281474976710656 := HF0.out.2.2
                  have hl1 : L1.length = q := by rw [← HL1.out.1, List.length_map]; exact HL.out.2.2.1
                  have nk1 : (Tb.keys L1).Nodup := by rw [hk1]; exact HL.out.2.1
                  have S12 := fr1 [_, _, _, _, _, _] (fr1 [_, _, _, _, _] (fr1 [_, _, _, _, _, _] (fr1 [_, _, _, _, _] (fr1 [_, _] (fr1 [_, _, _, _] (fr1 [_, _, _, _] HF.out))))))
                  have cp : (wr.setCell ⟨fb, 0, none⟩ (.string FF)).cell? ⟨pb, 0, none⟩ = some (pt tb) := (HF.out.boxGet (List.mem_cons_of_mem _ k4m)).cellv 0 _ rfl
                  have hE := each2 w (wr.setCell ⟨fb, 0, none⟩ (.string FF)) tb (i + 2) q nb db pb fb ab L1 F0 FF add _ S12 hl1 (by omega) hf1 (by rw [hl1]; have := HL.out.2.2.2.2.2.1; omega) hf3 hD
                  have HPU : Keep (Tb.look (Tb.dn (lw add) F0 FF L1 q) F0 = none ∧ Tb.look (Tb.dn (lw add) F0 FF L1 q) FF = some 5 ∧ (Tb.dn (lw add) F0 FF L1 q).length + (if th then 1 else 0) = q + 1) := by
                    have a1 := Tb.dn_noD (g := lw add) (L := L1) (by omega) hf2
                    have a2 := Tb.dn_isF (g := lw add) (D := F0) (L := L1) (by omega) hf1
                    have a3 := Tb.dn_len (g := lw add) (D := F0) (f := FF) (L := L1) (by omega) nk1
                    rw [hl1] at a1 a2 a3
                    rw [HTH.out] at a3
                    exact ⟨a1, a2, a3⟩
                  generalize hLf : Tb.dn (lw add) F0 FF L1 q = Lf at *
                  clear S12 hf1 hf2 nk1 hLf HF HF0
                  go_wp2_with fail
                  refine hE.mono ?_
                  rintro r w10 ⟨rfl, S13⟩
                  clear hE cp
                  have b := bx S13
                  have HS13 := Keep.mk S13
                  have hP1 := peek_s F0 S13 k0m (by omega)
                  rw [HPU.out.1] at hP1
                  have hP2 := peek_s FF S13 k0m (by omega)
                  rw [HPU.out.2.1] at hP2
                  have hLn := len_s S13 k0m
                  have HG : Keep (w.grownBy w10 none) := ⟨S13.g⟩
                  clear S13
                  obtain ⟨b1, b2, b3, b4, b5, b6⟩ := b
                  have hll := HPU.out.2.2
                  generalize Lf.length = ll at *
                  clear HPU HS13
                  go_wp2_with fail
                  refine hP1.mono ?_
                  rintro r w11 ⟨rfl, hw⟩
                  subst w11
                  clear hP1
                  go_wp2_with fail
                  refine hP2.mono ?_
                  rintro r w11 ⟨rfl, hw⟩
                  subst w11
                  clear hP2
                  have hq0 : ((q : Int) == 0) = false := by simpa using (show ¬ q = 0 by omega)
                  have hq1 : IntKind.i64.wrap ((q : Int) + 1) = (q : Int) + 1 := wi _ (by omega) (by omega)
                  have hq2 : IntKind.i64.wrap ((q : Int) + 1 - 1) = (q : Int) := by rw [wi _ (by omega) (by omega)]; omega
                  cases th with
                  | true =>
                    have hle : (ll : Int) = q := by simp at hll; omega
                    go_wp2_with fail
                    refine hLn.mono ?_
                    rintro r w11 ⟨rfl, hw⟩
                    subst w11
                    clear hLn
                    rw [hle]
                    go_wp2_with fail
                    go_ret
                    exact ⟨rfl, HG.out⟩
                  | false =>
                    have hle : (ll : Int) = q + 1 := by simp at hll; omega
                    go_wp2_with fail
                    refine hLn.mono ?_
                    rintro r w11 ⟨rfl, hw⟩
                    subst w11
                    clear hLn
                    rw [hle]
                    go_wp2_with fail
                    go_ret
                    exact ⟨rfl, HG.out⟩
              · as_aux_lemma =>
                  have hsn := str_ne hFD
                  have HF0 : Keep (F0 ∉ Tb.keys L ∧ F0 ≠ D ∧ F0.size ≤ 281474976710656) := ⟨Tb.fsh_not hF1, hFD, by omega⟩
                  have HF := hR
                  clear hR hF1 hsz hFD
                  have hf1 : F0 ∉ Tb.keys L1 := by rw [hk1]; exact HF0.out.1
                  have hf2 : F0 ≠ D := HF0.out.2.1
                  have hf3 : F0.size ≤ 281474976710656 := HF0.out.2.2
                  have hl1 : L1.length = q := by rw [← HL1.out.1, List.length_map]; exact HL.out.2.2.1
                  have nk1 : (Tb.keys L1).Nodup := by rw [hk1]; exact HL.out.2.1
                  have S12 := fr1 [_, _, _, _, _, _] (fr1 [_, _, _, _, _] (fr1 [_, _, _, _, _, _] (fr1 [_, _, _, _, _] (fr1 [_, _] (fr1 [_, _, _, _] (fr1 [_, _, _, _] HF.out))))))
                  have cp : wr.cell? ⟨pb, 0, none⟩ = some (pt tb) := (HF.out.boxGet (List.mem_cons_of_mem _ k4m)).cellv 0 _ rfl
                  have hE := each2 w wr tb (i + 2) q nb db pb fb ab L1 D F0 add _ S12 hl1 (by omega) hf1 (by rw [hl1]; have := HL.out.2.2.2.2.2.1; omega) hf3 hD
                  have HPU : Keep (Tb.look (Tb.dn (lw add) D F0 L1 q) D = none ∧ Tb.look (Tb.dn (lw add) D F0 L1 q) F0 = some 5 ∧ (Tb.dn (lw add) D F0 L1 q).length + (if th then 1 else 0) = q + 1) := by
                    have a1 := Tb.dn_noD (g := lw add) (L := L1) (by omega) hf2
                    have a2 := Tb.dn_isF (g := lw add) (D := D) (L := L1) (by omega) hf1
                    have a3 := Tb.dn_len (g := lw add) (D := D) (f := F0) (L := L1) (by omega) nk1
                    rw [hl1] at a1 a2 a3
                    rw [HTH.out] at a3
                    exact ⟨a1, a2, a3⟩
                  generalize hLf : Tb.dn (lw add) D F0 L1 q = Lf at *
                  clear S12 hf1 hf2 nk1 hLf HF HF0
                  go_wp2_with fail
                  refine hE.mono ?_
                  rintro r w10 ⟨rfl, S13⟩
                  clear hE cp
                  have b := bx S13
                  have HS13 := Keep.mk S13
                  have hP1 := peek_s D S13 k0m (by omega)
                  rw [HPU.out.1] at hP1
                  have hP2 := peek_s F0 S13 k0m (by omega)
                  rw [HPU.out.2.1] at hP2
                  have hLn := len_s S13 k0m
                  have HG : Keep (w.grownBy w10 none) := ⟨S13.g⟩
                  clear S13
                  obtain ⟨b1, b2, b3, b4, b5, b6⟩ := b
                  have hll := HPU.out.2.2
                  generalize Lf.length = ll at *
                  clear HPU HS13
                  go_wp2_with fail
                  refine hP1.mono ?_
                  rintro r w11 ⟨rfl, hw⟩
                  subst w11
                  clear hP1
                  go_wp2_with fail
                  refine hP2.mono ?_
                  rintro r w11 ⟨rfl, hw⟩
                  subst w11
                  clear hP2
                  have hq0 : ((q : Int) == 0) = false := by simpa using (show ¬ q = 0 by omega)
                  have hq1 : IntKind.i64.wrap ((q : Int) + 1) = (q : Int) + 1 := wi _ (by omega) (by omega)
                  have hq2 : IntKind.i64.wrap ((q : Int) + 1 - 1) = (q : Int) := by rw [wi _ (by omega) (by omega)]; omega
                  cases th with
                  | true =>
                    have hle : (ll : Int) = q := by simp at hll; omega
                    go_wp2_with fail
                    refine hLn.mono ?_
                    rintro r w11 ⟨rfl, hw⟩
                    subst w11
                    clear hLn
                    rw [hle]
                    go_wp2_with fail
                    go_ret
                    exact ⟨rfl, HG.out⟩
                  | false =>
                    have hle : (ll : Int) = q + 1 := by simp at hll; omega
                    go_wp2_with fail
                    refine hLn.mono ?_
                    rintro r w11 ⟨rfl, hw⟩
                    subst w11
                    clear hLn
                    rw [hle]
                    go_wp2_with fail
                    go_ret
                    exact ⟨rfl, HG.out⟩
end Go.Proofs.Ytkaakbldkicnaaa
