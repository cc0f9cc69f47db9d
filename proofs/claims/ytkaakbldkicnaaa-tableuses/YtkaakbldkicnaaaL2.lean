/- TableUses' walk. -/
import Derived.Test.YtkaakbldkicnaaaB2
import Derived.Test.YtkaakbldkicnaaaB3
import Derived.Deep.DeepCutAuto
namespace Go.Proofs.Ytkaakbldkicnaaa
open Go Go.RowKit Go.Maps

set_option maxRecDepth 100000 in
set_option maxHeartbeats 4000000 in
theorem uses_no (sz : Int) (v : Value) (w : World) (h : ¬ (1 ≤ sz ∧ sz ≤ 4096)) :
    Calls Try.prog 6 #[iv sz, v] w fun r w' => r = .returned (.bool true) ∧ w.grownBy w' none := by
  have hN := fun W => new_no sz W h
  go_enter Try.func6, Try.ntmps6
  go_wp2_with fail
  refine (alive_c _).mono ?_
  rintro r w1 ⟨rfl, g1⟩
  have G1 : Keep (w.grownBy w1 none) := ⟨g1⟩
  clear g1
  go_wp2_with fail
  refine (hN w1).mono ?_
  rintro r w2 ⟨rfl, hw⟩
  subst w2
  clear hN
  by_cases h0 : sz < 1
  · go_wp2_with fail
    refine (num_c 110 _).mono ?_
    rintro r w2 ⟨rfl, hw⟩
    subst w2
    go_wp2_with fail
    go_ret
    exact ⟨rfl, G1.out⟩
  · have h1 : 4096 < sz := by omega
    go_wp2_with fail
    refine (num_c 110 _).mono ?_
    rintro r w2 ⟨rfl, hw⟩
    subst w2
    go_wp2_with fail
    go_ret
    exact ⟨rfl, G1.out⟩
set_option maxHeartbeats 32000000 in
set_option maxRecDepth 100000 in
theorem uses_yes (sz : Nat) (pa : Addr) (n cap : Nat) (K : List ByteArray) (w : World) (hK : K.length = n) (hn : n ≤ 120) (hs : ∀ x ∈ K, x.size ≤ 140737488351232) (hc : ∀ j x, K[j]? = some x → w.cell? (pa.add j) = some (.string x)) (h1 : 1 ≤ sz) (h2 : sz ≤ 4096) :
    Calls Try.prog 6 #[iv (sz : Nat), .slice (some pa) n cap] w fun r w' => r = .returned (.bool true) ∧ w.grownBy w' none := by
  have HA : Keep (K.length = n ∧ (∀ x ∈ K, x.size ≤ 140737488351232) ∧ ∀ j x, K[j]? = some x → w.cell? (pa.add j) = some (.string x)) := ⟨hK, hs, hc⟩
  have hnb : (n : Int) ≤ 120 := by omega
  clear hK hs hc
  have h1' : ¬ ((sz : Int) < 1) := by omega
  have h2' : ¬ (4096 < (sz : Int)) := by omega
  go_enter Try.func6, Try.ntmps6
  go_wp2_with fail
  refine (alive_c _).mono ?_
  rintro r w1 ⟨rfl, g1⟩
  have G1 : Keep (w.grownBy w1 none) := ⟨g1⟩
  clear g1
  go_wp2_with fail
  refine (new_s sz (Sep.start G1.out) h1 (by omega)).mono ?_
  rintro r w2 ⟨tb, rfl, S2⟩
  have H2 : Keep (∃ U L, Tb.Used sz K 0 U L ∧ U.length ≤ 0 ∧ Sep w w2 [tabA tb sz L, rowA (.slice none 0 0) U]) := ⟨[], [], Tb.Used.start sz K, Nat.le_refl _, S2.nilrow.swap⟩
  clear S2 G1
  go_wp2_with fail
  refine (num_c 0 _).mono ?_
  rintro r w' ⟨rfl, hw⟩
  subst w'
  go_wp2_with fail
  go_loopw [7, 8] (fun u v wr => ∃ i : Nat, i ≤ n ∧ v = .int .i64 i ∧ Keep (∃ U L, Tb.Used sz K i U L ∧ U.length ≤ i ∧ Sep w wr [tabA tb sz L, rowA u U])) (fun _ v _ => (n - (intOf v)).toNat)
  case atStart => exact ⟨0, by omega, rfl, H2⟩
  case round =>
    clear H2
    obtain ⟨i, hi, rfl, hR⟩ := hrel
    by_cases hlt : i < n
    · obtain ⟨U, L, hU, hUl, S⟩ := hR.out
      clear hR
      obtain ⟨k, hk⟩ : ∃ k, K[i]? = some k := ⟨_, List.getElem?_eq_getElem (by rw [HA.out.1]; exact hlt)⟩
      have hks : k.size ≤ 281474976710656 := by have := HA.out.2.1 k (List.mem_of_getElem? hk); omega
      have ci := S.cell (HA.out.2.2 i k hk)
      have hP := peek_s k S (List.mem_cons_self ..) (by omega)
      have HC : Keep (∀ W l, Sep w W l → W.cell? (pa.add i) = some (.string k)) := ⟨fun W l q => q.cell (HA.out.2.2 i k hk)⟩
      have hi0 : (0 : Int) ≤ (i : Int) := by omega
      have hi1 : (i : Int) < (n : Nat) := by omega
      have hti : ((i : Nat) : Int).toNat = i := by omega
      have hwi : IntKind.i64.wrap ((i : Int) + 1) = ((i + 1 : Nat) : Int) := by rw [wi _ (by omega) (by omega)]; omega
      have HI : Keep (i < n) := ⟨hlt⟩
      have HK : Keep (K[i]? = some k ∧ U.length ≤ i ∧ (Tb.keys L).Nodup ∧ L.length ≤ sz ∧ Tb.Used sz K i U L) := ⟨hk, hUl, tnk S, tlen S, hU⟩
      have HS0 : Keep (Sep w wr [tabA tb sz L, rowA u7 U]) := ⟨S⟩
      clear hk S hU hUl hi hlt
      go_wp2_with fail
      refine hP.mono ?_
      rintro r w' ⟨rfl, hw⟩
      subst w'
      clear hP
      obtain ⟨t, ht⟩ : ∃ t : Int, (i : Int).tmod 2 = t := ⟨_, rfl⟩
      have HT : Keep ((i : Int).tmod 2 = t) := ⟨ht⟩
      have hwt : IntKind.i64.wrap t = t := by
        rw [← ht, Int.tmod_eq_emod_of_nonneg (by omega)]
        exact wi _ (by omega) (by omega)
      obtain ⟨g9, hg9⟩ : ∃ g, (Tb.look L k).getD 0 = g := ⟨_, rfl⟩
      obtain ⟨g10, hg10⟩ : ∃ g, (Tb.look L k).isSome = g := ⟨_, rfl⟩
      have HG9 : Keep ((Tb.look L k).getD 0 = g9 ∧ (Tb.look L k).isSome = g10) := ⟨hg9, hg10⟩
      rw [hg9, hg10]
      clear hg9 hg10
      go_upto_if 73 with fail
      go_cut [7] (fun u wx => ∃ (au : Addr) (ul cu : Nat), u = .slice (some au) ul cu ∧ Keep (∃ U L, (Tb.Used sz K (i + 1) U L ∧ U.length = ul ∧ ul ≤ i + 1 ∧ L.length ≤ sz) ∧ Sep w wx [tabA tb sz L, rowA (.slice (some au) ul cu) U]))
      case first =>
        by_cases hev : i % 2 = 0
        · have hmd : t = 0 := by rw [← HT.out, Int.tmod_eq_emod_of_nonneg (by omega)]; omega
          subst hmd
          have hPut := put_s k i HS0.out hks
          have HE : Keep (i % 2 = 0) := ⟨hev⟩
          clear hev
          go_wp2_with fail
          refine hPut.mono ?_
          rintro r w3 ⟨rfl, S3⟩
          clear hPut
          have c3 := HC.out w3 _ S3
          obtain ⟨au, cu, w4, ap, S4⟩ := app_s k S3.swap (by have := HK.out.2.1; have := HI.out; omega)
          obtain ⟨ul, hul⟩ : ∃ ul, U.length + 1 = ul := ⟨_, rfl⟩
          rw [hul] at ap S4
          have HQ1 : Keep (∃ U L, (Tb.Used sz K (i + 1) U L ∧ U.length = ul ∧ ul ≤ i + 1 ∧ L.length ≤ sz) ∧ Sep w w4 [tabA tb sz L, rowA (.slice (some au) ul cu) U]) := ⟨U ++ [k], Tb.putL sz L k i, ⟨HK.out.2.2.2.2.put h1 k HK.out.1 HE.out HK.out.2.2.1, by simpa using hul, by have := HK.out.2.1; omega, tlen S4.swap⟩, S4.swap⟩
          have AP : Keep _ := ⟨ap⟩
          clear S3 S4 ap hul HS0 HK ci HE
          go_wp2_with ((first | (at_builtin; refine wpList_append_run _ rfl (.tmp 81) (.tmp 86) 22 rfl _ _ rfl rfl AP.out ?_)))
          go_meet
          exact ⟨au, ul, cu, rfl, HQ1⟩
        · have hmd : t = 1 := by rw [← HT.out, Int.tmod_eq_emod_of_nonneg (by omega)]; omega
          subst hmd
          have hUp : 0 < U.length := by
            have := HK.out.2.2.2.2.n (by omega)
            exact List.length_pos_iff.2 this
          obtain ⟨au, cu, hau, hun⟩ := (HS0.out.row (List.mem_cons_of_mem _ (List.mem_cons_self ..))).form hUp
          clear hun
          have hi1' : 1 ≤ i := by omega
          have hG := get_s k HS0.out (by omega)
          clear hUp hev
          cases hlk : Tb.look L k with
          | none =>
            rw [hlk] at hG
            have hg10 : g10 = false := by rw [← HG9.out.2, hlk]; rfl
            subst hg10
            have eL : Tb.useL L k = L := by unfold Tb.useL; rw [hlk]
            rw [eL] at hG
            have HA2 : Keep (u7 = .slice (some au) U.length cu) := ⟨hau⟩
            clear hlk eL hau
            go_wp2_with fail
            refine hG.mono ?_
            rintro r w3 ⟨rfl, S3⟩
            clear hG
            have HQ1 : Keep (∃ (au : Addr) (ul cu : Nat), u7 = .slice (some au) ul cu ∧ Keep (∃ U L, (Tb.Used sz K (i + 1) U L ∧ U.length = ul ∧ ul ≤ i + 1 ∧ L.length ≤ sz) ∧ Sep w w3 [tabA tb sz L, rowA (.slice (some au) ul cu) U])) := ⟨au, U.length, cu, HA2.out, ⟨U, L, ⟨HK.out.2.2.2.2.skip hi1', rfl, by have := HK.out.2.1; omega, HK.out.2.2.2.1⟩, by rw [← HA2.out]; exact S3⟩⟩
            clear S3
            go_wp2_with fail
            go_meet
            exact HQ1.out
          | some x0 =>
            rw [hlk] at hG
            have hg10 : g10 = true := by rw [← HG9.out.2, hlk]; rfl
            subst hg10
            have HL : Keep (Tb.look L k = some x0) := ⟨hlk⟩
            clear hlk hau
            go_wp2_with fail
            refine hG.mono ?_
            rintro r w3 ⟨rfl, S3⟩
            clear hG
            have c3 := HC.out w3 _ S3
            obtain ⟨au2, cu2, w4, ap, S4⟩ := app_s k S3.swap (by have := HK.out.2.1; have := HI.out; omega)
            obtain ⟨ul, hul⟩ : ∃ ul, U.length + 1 = ul := ⟨_, rfl⟩
            rw [hul] at ap S4
            have HQ1 : Keep (∃ U L, (Tb.Used sz K (i + 1) U L ∧ U.length = ul ∧ ul ≤ i + 1 ∧ L.length ≤ sz) ∧ Sep w w4 [tabA tb sz L, rowA (.slice (some au2) ul cu2) U]) := ⟨U ++ [k], Tb.useL L k, ⟨HK.out.2.2.2.2.use k x0 HL.out HK.out.2.2.1, by simpa using hul, by have := HK.out.2.1; omega, tlen S4.swap⟩, S4.swap⟩
            have AP : Keep _ := ⟨ap⟩
            clear S3 S4 ap hul HS0 HK ci HL
            go_wp2_with ((first | (at_builtin; refine wpList_append_run _ rfl (.tmp 101) (.tmp 106) 22 rfl _ _ rfl rfl AP.out ?_)))
            go_meet
            exact ⟨au2, ul, cu2, rfl, HQ1⟩
      case rest =>
        obtain ⟨au, ul, cu, hu7, HC1⟩ := hcut
        subst hu7
        clear HS0 HK ci HT ht hwt HG9
        obtain ⟨U, L, hQ, hS⟩ := HC1.out
        have HQ := Keep.mk hQ
        have HS := Keep.mk hS
        clear hQ hS HC1
        obtain ⟨U', L', ku, xu, eU, eL⟩ := HQ.out.1.ends h1 (by omega)
        have hLp : 0 < L.length := by rw [eL]; simp
        have hup : 0 < ul := by rw [← HQ.out.2.1, eU]; simp
        have hlm : (Tb.keys L)[L.length - 1]? = some ku := by rw [eL]; simp [Tb.keys]
        have hum : U[ul - 1]? = some ku := by rw [← HQ.out.2.1, eU]; simp
        clear eU eL
        have hK := keys_s HS.out (List.mem_cons_self ..)
        go_wp2_with fail
        refine hK.mono ?_
        rintro r w1 ⟨vl, rfl, S1⟩
        clear hK
        have hl := S1.row (List.mem_cons_self ..)
        have hu := S1.row (List.mem_cons_of_mem _ (List.mem_cons_of_mem _ (List.mem_cons_self ..)))
        have hLen := len_s S1 (List.mem_cons_of_mem _ (List.mem_cons_self ..))
        have hll : (Tb.keys L).length = L.length := List.length_map ..
        obtain ⟨al, cl, rfl, hcl⟩ := hl.form (by omega)
        obtain ⟨au', cu', eu, hcu⟩ := hu.form (by rw [HQ.out.2.1]; exact hup)
        injection eu with eu1 eu2 eu3
        injection eu1 with eu1
        subst eu1
        have HLU : Keep ((Tb.keys L)[L.length - 1]? = some ku ∧ U[ul - 1]? = some ku) := ⟨hlm, hum⟩
        rw [hll] at S1 hl ⊢
        have HS1 : Keep (Sep w w1 [rowA (.slice (some al) L.length cl) (Tb.keys L), tabA tb sz L, rowA (.slice (some au) ul cu) U]) := ⟨S1⟩
        have hLz : ((L.length : Nat) : Int) ≤ (sz : Nat) := by have := HQ.out.2.2.2; omega
        have HLZ : Keep (L.length ≤ sz ∧ U.length = ul ∧ ul ≤ 121 ∧ 0 < ul) := ⟨HQ.out.2.2.2, HQ.out.2.1, by have := HQ.out.2.2.1; omega, hup⟩
        clear hcl hcu hl hu S1 hlm hum hup hll HS eu2 eu3
        have hLd : decide (sz < L.length) = false := decide_eq_false (by have := HLZ.out.1; omega)
        have hLd2 : decide ((sz : Int) < (L.length : Int)) = false := decide_eq_false (by omega)
        go_wp2_with fail
        refine hLen.mono ?_
        rintro r w2 ⟨rfl, hw⟩
        subst w2
        clear hLen
        go_wp2_with fail
        go_loopw [14] (fun v wr => ∃ j : Nat, j ≤ L.length ∧ v = .int .i64 (j : Int) ∧ Keep (Sep w wr [rowA (.slice (some al) L.length cl) (Tb.keys L), tabA tb sz L, rowA (.slice (some au) ul cu) U])) (fun v _ => (L.length - intOf v).toNat)
        case atStart => exact ⟨0, by omega, rfl, HS1⟩
        case round =>
          clear HS1
          obtain ⟨j, hj, rfl, HS1⟩ := hrel
          have HU1 : Keep (Str wr (.slice (some au) ul cu) U ∧ Str wr (.slice (some al) L.length cl) (Tb.keys L)) := ⟨HS1.out.row (List.mem_cons_of_mem _ (List.mem_cons_of_mem _ (List.mem_cons_self ..))), HS1.out.row (List.mem_cons_self ..)⟩
          by_cases hjl : j < L.length
          · obtain ⟨p, hp⟩ : ∃ p, L[j]? = some p := ⟨_, List.getElem?_eq_getElem hjl⟩
            obtain ⟨x, hx1, hx2, hx3, hx4⟩ := HQ.out.1.v p (List.mem_of_getElem? hp)
            have hkj : (Tb.keys L)[j]? = some p.1 := by simp [Tb.keys, hp]
            have cj := HU1.out.2.cell hkj
            have ok := HS1.out.tab (List.mem_cons_of_mem _ (List.mem_cons_self ..))
            have nk := ok.nk
            have hlook : Tb.look L p.1 = some (x : Int) := by
              obtain ⟨A, C, hAC⟩ := List.append_of_mem (List.mem_of_getElem? hp)
              have hpe : p = (p.1, (x : Int)) := by rw [← hx1]
              rw [hpe] at hAC
              rw [hAC] at nk ⊢
              exact Tb.look_mid (Tb.nodup_mid nk).1
            have hP := peek_s p.1 HS1.out (List.mem_cons_of_mem _ (List.mem_cons_self ..)) (by have := ok.small p.1 (List.mem_of_getElem? hkj); omega)
            rw [hlook] at hP
            have cx : wr.cell? (pa.add x) = some (.string p.1) := HS1.out.cell (HA.out.2.2 x p.1 hx4)
            have hm := Tb.lastI_mem.2 (HQ.out.1.mem (List.mem_of_getElem? hkj))
            have hq1 := last_q wr _ U p.1 HU1.out.1 (by have := HLZ.out; omega)
            have hj0 : (0 : Int) ≤ (j : Int) := by omega
            have hj1 : (j : Int) < ((L.length : Nat) : Int) := by omega
            have hjt : ((j : Nat) : Int).toNat = j := by omega
            have hx0 : (0 : Int) ≤ (x : Int) := by omega
            have hxi : (x : Int) ≤ (i : Int) := by omega
            have hxn : (x : Int) < (n : Nat) := by have := HI.out; omega
            have hxt : ((x : Nat) : Int).toNat = x := by omega
            have hxm : (x : Int).tmod 2 = 0 := by rw [Int.tmod_eq_emod_of_nonneg (by omega)]; omega
            have hwj : IntKind.i64.wrap ((j : Int) + 1) = ((j + 1 : Nat) : Int) := by rw [wi _ (by omega) (by omega)]; omega
            have HX : Keep (j < L.length) := ⟨hjl⟩
            obtain ⟨xi, hxi'⟩ : ∃ xi : Int, (x : Int) = xi := ⟨_, rfl⟩
            rw [hxi'] at hx0 hxi hxn hxt hxm hP
            clear hxi'
            by_cases hj00 : j = 0
            · as_aux_lemma =>
                have hjp : ¬ (0 : Int) < (j : Int) := by omega
                generalize hlz : Tb.lastI U p.1 = z1 at *
                generalize p.1 = kj at *
                clear hp hx4 hkj hlook nk hx1 hx2 hx3 hlz ok hj00 hj
                go_wp2_with fail
                refine hP.mono ?_
                rintro r w2 ⟨rfl, hw⟩
                subst w2
                clear hP
                go_wp2_with fail
                have e1 : decide (xi < 0) = false := decide_eq_false (by omega)
                have e2 : decide ((i : Int) < xi) = false := decide_eq_false (by omega)
                have e12 : (decide (xi < 0) || decide ((i : Int) < xi)) = false := by rw [e1, e2]; rfl
                have e3 : decide (z1 < 0) = false := decide_eq_false (by omega)
                have e4 : decide ((0 : Int) < (j : Int)) = false := decide_eq_false (by omega)
                have e6 : decide (0 < j) = false := decide_eq_false (by omega)
                go_quiet ((go_at_call 27; exact Calls.quiet_of (hq1 _)))
                go_wp2_with fail
                exact ⟨⟨j + 1, by have := HX.out; omega, rfl, ⟨HS1.out.grown (gr_drewN _ _ _)⟩⟩, by have := HX.out; simp only [intOf]; omega⟩
            · as_aux_lemma =>
                obtain ⟨j', hj'⟩ : ∃ j', j = j' + 1 := ⟨j - 1, by omega⟩
                obtain ⟨p0, hp0⟩ : ∃ p0, L[j']? = some p0 := ⟨_, List.getElem?_eq_getElem (by omega)⟩
                have hkj0 : (Tb.keys L)[j']? = some p0.1 := by simp [Tb.keys, hp0]
                have cj0 := HU1.out.2.cell hkj0
                have hq0 := last_q wr _ U p0.1 HU1.out.1 (by have := HLZ.out; omega)
                have hsrt : Tb.lastI U p0.1 < Tb.lastI U p.1 := by
                  have := List.pairwise_iff_getElem.1 HQ.out.1.sorted j' j (by rw [List.length_map]; omega) (by rw [List.length_map]; omega) (by omega)
                  rw [(List.getElem?_eq_some_iff.1 hkj0).2, (List.getElem?_eq_some_iff.1 hkj).2] at this
                  exact this
                have hws : IntKind.i64.wrap ((j : Int) - 1) = (j' : Int) := by rw [wi _ (by omega) (by omega)]; omega
                have hj0' : (0 : Int) ≤ (j' : Int) := by omega
                have hj1' : (j' : Int) < ((L.length : Nat) : Int) := by omega
                have hjt' : ((j' : Nat) : Int).toNat = j' := by omega
                have hjp : (0 : Int) < (j : Int) := by omega
                generalize hlz0 : Tb.lastI U p0.1 = z0 at *
                generalize hlz : Tb.lastI U p.1 = z1 at *
                generalize p.1 = kj at *
                generalize p0.1 = kj0 at *
                clear hp hx4 hkj hlook nk hx1 hx2 hx3 hlz hp0 hkj0 hlz0 hj' hj hj00 ok
                go_wp2_with fail
                refine hP.mono ?_
                rintro r w2 ⟨rfl, hw⟩
                subst w2
                clear hP
                go_wp2_with fail
                have e1 : decide (xi < 0) = false := decide_eq_false (by omega)
                have e2 : decide ((i : Int) < xi) = false := decide_eq_false (by omega)
                have e12 : (decide (xi < 0) || decide ((i : Int) < xi)) = false := by rw [e1, e2]; rfl
                have e3 : decide (z1 < 0) = false := decide_eq_false (by omega)
                have e4 : decide ((0 : Int) < (j : Int)) = true := decide_eq_true (by omega)
                have e6 : decide (0 < j) = true := decide_eq_true (by omega)
                have e5 : decide (z1 ≤ z0) = false := decide_eq_false (by omega)
                go_quiet ((go_at_call 27; first | with_reducible exact Calls.quiet_of (hq1 _) | with_reducible exact Calls.quiet_of (hq0 _)))
                go_wp2_with fail
                exact ⟨⟨j + 1, by have := HX.out; omega, rfl, ⟨HS1.out.grown (gr_drewN _ _ _)⟩⟩, by have := HX.out; simp only [intOf]; omega⟩
          · obtain rfl : j = L.length := by omega
            clear hjl hj
            have hlat : ∃ k0 l0, Tb.keys L = k0 :: l0 ∧ ∀ (j : Nat) (u : ByteArray), Tb.lastI U k0 < (j : Int) → U[j]? = some u → u ∈ k0 :: l0 := by
              have hu := HQ.out.1
              cases L with
              | nil => simp at hLp
              | cons p0 Lr => exact ⟨p0.1, Tb.keys Lr, rfl, fun j u h1 h2 => hu.later h1 h2⟩
            obtain ⟨k0, l0, hkl, hlat⟩ := hlat
            have hs2 := HU1.out.2
            have cLast := HU1.out.2.cell HLU.out.1
            have uLast := HU1.out.1.cell HLU.out.2
            have hll : (Tb.keys L).length = L.length := List.length_map ..
            have hq2 := later_q wr _ (.slice (some al) L.length cl) U l0 k0 HU1.out.1 (by rw [← hkl]; exact hs2) (by have := HLZ.out; omega) (by rw [← hkl, hll]; have := HLZ.out; omega) (by have := HLZ.out; omega) hlat
            have hmL : IntKind.i64.wrap (((L.length : Nat) : Int) - 1) = ((L.length - 1 : Nat) : Int) := by rw [wi _ (by omega) (by omega)]; omega
            have hmU : IntKind.i64.wrap ((ul : Int) - 1) = ((ul - 1 : Nat) : Int) := by have := HLZ.out; rw [wi _ (by omega) (by omega)]; omega
            have y1 : (0 : Int) ≤ ((L.length - 1 : Nat) : Int) := by omega
            have y2 : ((L.length - 1 : Nat) : Int) < ((L.length : Nat) : Int) := by omega
            have y3 : (0 : Int) ≤ ((ul - 1 : Nat) : Int) := by omega
            have y4 : ((ul - 1 : Nat) : Int) < (ul : Int) := by have := HLZ.out; omega
            have y5 : ((L.length - 1 : Nat) : Int).toNat = L.length - 1 := by omega
            have y6 : ((ul - 1 : Nat) : Int).toNat = ul - 1 := by omega
            have y7 : (0 : Int) < ((L.length : Nat) : Int) := by omega
            have HF : Keep (∀ q, ∃ U L, Tb.Used sz K (i + 1) U L ∧ U.length ≤ i + 1 ∧ Sep w (wr.drewN q) [tabA tb sz L, rowA (.slice (some au) ul cu) U]) := ⟨fun q => ⟨U, L, HQ.out.1, by rw [HQ.out.2.1]; exact HQ.out.2.2.1, HS1.out.tail.grown (gr_drewN _ _ _)⟩⟩
            by_cases hful : L.length < sz
            · as_aux_lemma =>
                have hq3 := all_q wr _ (.slice (some al) L.length cl) U (Tb.keys L) HU1.out.1 hs2 (by have := HLZ.out; omega) (by rw [hll]; have := HLZ.out; omega) (fun u hu => HQ.out.1.all hful hu)
                have hful' : ((L.length : Nat) : Int) < (sz : Nat) := by omega
                clear hlat hkl hs2 hll HS1 HU1 HLZ HQ HLU
                generalize hUL : ul - 1 = um at *
                generalize hLL : L.length - 1 = lm at *
                clear hUL hLL
                generalize hLL : L.length = ll at *
                clear hLL hLp hful
                go_wp2_with fail
                have f1 : decide ((ll : Int) < (sz : Int)) = true := decide_eq_true hful'
                have f3 : decide (0 < ll) = true := decide_eq_true (by omega)
                have f4 : decide ((0 : Int) < (ll : Int)) = true := decide_eq_true (by omega)
                have f5 : decide (ll = 0) = false := decide_eq_false (by omega)
                have f6 : decide ((ll : Int) = 0) = false := decide_eq_false (by omega)
                have f7 : ((ll : Int) == 0) = false := by simpa using (show ¬ ll = 0 by omega)
                have f8 : (ll == 0) = false := by simpa using (show ¬ ll = 0 by omega)
                go_quiet ((first | (go_at_call 28; exact Calls.quiet_of (hq3 _)) | (go_at_call 29; exact Calls.quiet_of (hq2 _))))
                go_wp2_with fail
                exact ⟨⟨i + 1, by have := HI.out; omega, rfl, ⟨HF.out _⟩⟩, by have := HI.out; simp only [intOf]; omega⟩
            · as_aux_lemma =>
                have hful' : ¬ ((L.length : Nat) : Int) < (sz : Nat) := by omega
                clear hlat hkl hs2 hll HS1 HU1 HLZ HQ HLU
                generalize hUL : ul - 1 = um at *
                generalize hLL : L.length - 1 = lm at *
                clear hUL hLL
                generalize hLL : L.length = ll at *
                clear hLL hLp hful
                go_wp2_with fail
                have f1 : decide ((ll : Int) < (sz : Int)) = false := decide_eq_false (by omega)
                have f2 : decide (ll < sz) = false := decide_eq_false (by omega)
                have f3 : decide (0 < ll) = true := decide_eq_true (by omega)
                have f4 : decide ((0 : Int) < (ll : Int)) = true := decide_eq_true (by omega)
                have f5 : decide (ll = 0) = false := decide_eq_false (by omega)
                have f6 : decide ((ll : Int) = 0) = false := decide_eq_false (by omega)
                have f7 : ((ll : Int) == 0) = false := by simpa using (show ¬ ll = 0 by omega)
                have f8 : (ll == 0) = false := by simpa using (show ¬ ll = 0 by omega)
                go_quiet (((go_at_call 29; exact Calls.quiet_of (hq2 _))))
                go_wp2_with fail
                exact ⟨⟨i + 1, by have := HI.out; omega, rfl, ⟨HF.out _⟩⟩, by have := HI.out; simp only [intOf]; omega⟩
    · obtain rfl : i = n := by omega
      obtain ⟨U, L, hU, hUl, S⟩ := hR.out
      have HG : Keep (w.grownBy wr none) := ⟨S.g⟩
      clear hR hU hUl S
      go_wp2_with fail
      go_ret
      exact ⟨rfl, HG.out⟩
end Go.Proofs.Ytkaakbldkicnaaa
