/- TableFresh's walk. -/
import Derived.Test.YtkaakbldkicnaaaD1
import Derived.Test.YtkaakbldkicnaaaB2
import Derived.Test.YtkaakbldkicnaaaP3
import Derived.Deep.RegionWith
namespace Go.Proofs.Ytkaakbldkicnaaa
open Go Go.RowKit Go.Maps

abbrev mine : ByteArray := ⟨#[109, 105, 110, 101]⟩
abbrev other : ByteArray := ⟨#[111, 116, 104, 101, 114]⟩
theorem addS (a b : ByteArray) (h : a.size + b.size ≤ 9223372036854775807) (W : World) : (Op.stringOp .add a b).run Try.prog W = .ok (.string (a ++ b)) W := by
  simp only [Op.stringOp]
  rw [if_neg (by have : IntKind.i64.max = 9223372036854775807 := by decide
                 omega)]
  rfl
theorem Sep.front {w0 W : World} (A : List As) {a : As} {B : List As} (h : Sep w0 W (A ++ a :: B)) : Sep w0 W (a :: (A ++ B)) := h.perm List.perm_middle
theorem m0 {a : As} {l : List As} : a ∈ a :: l := List.mem_cons_self ..
theorem m1 {a b : As} {l : List As} : a ∈ b :: a :: l := List.mem_cons_of_mem _ m0
theorem m2 {a b c : As} {l : List As} : a ∈ b :: c :: a :: l := List.mem_cons_of_mem _ m1
theorem m3 {a b c d : As} {l : List As} : a ∈ b :: c :: d :: a :: l := List.mem_cons_of_mem _ m2
theorem m4 {a b c d e : As} {l : List As} : a ∈ b :: c :: d :: e :: a :: l := List.mem_cons_of_mem _ m3
theorem m5 {a b c d e f : As} {l : List As} : a ∈ b :: c :: d :: e :: f :: a :: l := List.mem_cons_of_mem _ m4
theorem put_ne {L : List (ByteArray × ByteArray)} {sz : Nat} {k x : ByteArray} : 1 ≤ (Tb.putL sz L k x).length := by
  unfold Tb.putL
  split
  · simp
  · split
    · simp
    · simp
set_option maxRecDepth 100000 in
set_option maxHeartbeats 32000000 in
theorem fresh_some (sz : Nat) (p : Addr) (nk cap : Nat) (K : List ByteArray) (w : World) (hK : K.length = nk) (hnk : 1 ≤ nk) (hn : nk ≤ 8796093022207) (hs : ∀ x ∈ K, x.size ≤ 140737488351232) (hc : ∀ j x, K[j]? = some x → w.cell? (p.add j) = some (.string x)) (h1 : 1 ≤ sz) (h2 : sz ≤ 4096) :
    Calls Try.prog 4 #[.slice (some p) nk cap, iv (sz : Nat)] w fun r w' => r = .returned (.bool true) ∧ w.grownBy w' none := by
  have HA : Keep (K.length = nk ∧ (∀ x ∈ K, x.size ≤ 140737488351232) ∧ ∀ j x, K[j]? = some x → w.cell? (p.add j) = some (.string x)) := ⟨hK, hs, hc⟩
  have hnb : (nk : Int) ≤ 8796093022207 := by omega
  clear hK hs hc hn
  have h1' : ¬ ((sz : Int) < 1) := by omega
  have h2' : ¬ (4096 < (sz : Int)) := by omega
  go_enter Try.func4, Try.ntmps4
  go_wp2_with fail
  refine (alive_c _).mono ?_
  rintro r w1 ⟨rfl, g1⟩
  have G1 : Keep (w.grownBy w1 none) := ⟨g1⟩
  clear g1
  go_wp2_with fail
  refine (Sx.new_s sz (Sep.start G1.out) h1 (by omega)).mono ?_
  rintro r w2 ⟨tb, rfl, S2⟩
  have hN2 := Sx.new_s sz S2 h1 (by omega)
  clear S2 G1
  go_wp2_with fail
  refine hN2.mono ?_
  rintro r w3 ⟨ub, rfl, S3⟩
  have H3 : Keep (Sep w w3 [Sx.tabA tb sz [], Sx.tabA ub sz []]) := ⟨S3.swap⟩
  clear S3 hN2
  go_wp2_with fail
  go_loopw [9] (fun v wr => ∃ i : Nat, i ≤ nk ∧ v = .int .i64 i ∧ Keep (∃ L, Tb.Bang L ∧ (1 ≤ i → 1 ≤ L.length) ∧ (i = 0 → L = []) ∧ Sep w wr [Sx.tabA tb sz L, Sx.tabA ub sz []])) (fun v _ => (nk - intOf v).toNat)
  case atStart => exact ⟨0, by omega, rfl, ⟨[], Tb.Bang.nil, fun h => by omega, fun _ => rfl, H3.out⟩⟩
  case round =>
    clear H3
    obtain ⟨i, hi, rfl, hR⟩ := hrel
    obtain ⟨L, hBg, hne, hz, S⟩ := hR.out
    by_cases hlt : i < nk
    · obtain ⟨k, hk⟩ : ∃ k, K[i]? = some k := ⟨_, List.getElem?_eq_getElem (by rw [HA.out.1]; exact hlt)⟩
      have hks : k.size ≤ 140737488351232 := HA.out.2.1 k (List.mem_of_getElem? hk)
      have ci := S.cell (HA.out.2.2 i k hk)
      have hi0 : (0 : Int) ≤ (i : Int) := by omega
      have hi1 : (i : Int) < (nk : Nat) := by omega
      have hti : ((i : Nat) : Int).toNat = i := by omega
      have hwi : IntKind.i64.wrap ((i : Int) + 1) = ((i + 1 : Nat) : Int) := by rw [wi _ (by omega) (by omega)]; omega
      have ha := addS k ⟨#[33]⟩ (by show _ + 1 ≤ _; omega)
      have hP := Sx.put_s k (k ++ ⟨#[33]⟩) (S.grown (gr_drew _ _)) (by omega)
      have HX : Keep (i < nk ∧ Tb.Bang L) := ⟨hlt, hBg⟩
      generalize hkb : (k ++ ⟨#[33]⟩ : ByteArray) = kb at *
      clear hk S hR hBg hne hi hz
      go_wp2_with fail
      go_region_with (go_at_call 15; refine hP.mono ?_; rintro r w4 ⟨rfl, S4⟩; have H4 : Keep (∃ L, Tb.Bang L ∧ (1 ≤ i + 1 → 1 ≤ L.length) ∧ (i + 1 = 0 → L = []) ∧ Sep w w4 [Sx.tabA tb sz L, Sx.tabA ub sz []]) := ⟨_, by rw [← hkb]; exact HX.out.2.put sz k, fun _ => put_ne, fun h => by omega, S4⟩; clear S4 hP)
      all_goals go_wp2_with fail
      all_goals exact ⟨⟨i + 1, by have := HX.out; omega, rfl, H4⟩, by have := HX.out; simp only [intOf]; omega⟩
    · obtain rfl : i = nk := by omega
      have ok := Sx.stab S m0
      have hKA := Sx.keysR_s S m0
      obtain ⟨n, hn⟩ : ∃ n, L.length = n := ⟨_, rfl⟩
      have hkl : (Tb.keys L).length = n := by rw [List.length_map]; exact hn
      have hn2 : n ≤ 4096 := by rw [← hn]; have := ok.le; have := ok.hi; omega
      have hn1 : 1 ≤ n := by rw [← hn]; exact hne hnk
      have HL : Keep (Tb.Bang L ∧ (Tb.keys L).Nodup ∧ L.length = n ∧ (Tb.keys L).length = n ∧ ∀ k ∈ Tb.keys L, k.size ≤ 281474976710656) := ⟨hBg, ok.nk, hn, hkl, ok.small⟩
      rw [hn] at hKA
      clear hR S ok hBg hz hne
      go_wp2_with fail
      refine hKA.mono ?_
      rintro r w2 ⟨ga, rfl, S2⟩
      clear hKA
      obtain ⟨vw, w3, ap, S3⟩ := S2.copyAll m0 hkl hn2
      obtain ⟨aw, cw, hvw⟩ := (S3.row m0).slice
      rw [hkl] at hvw
      obtain ⟨pw, rfl⟩ : ∃ p, aw = some p := by
        rcases (S3.row m0).o with ⟨e, e2⟩ | ⟨p, c, e, _⟩
        · rw [e2] at hkl; simp at hkl; omega
        · rw [hvw] at e; injection e with e; exact ⟨p, e⟩
      subst hvw
      have HS3 : Keep (Sep w w3 [rowA (.slice (some pw) n cw) (Tb.keys L), boxA ga ((Tb.keys L).map sv) 9, Sx.tabA tb sz L, Sx.tabA ub sz []]) := ⟨S3⟩
      have AP : Keep _ := ⟨ap⟩
      have hKB := Sx.keysR_s S3 m2
      rw [hn] at hKB
      clear ap S2 S3 hn
      go_wp2_with ((first | (at_builtin; refine wpList_append_run _ rfl (.tmp 73) (.tmp 74) 22 rfl _ _ rfl rfl AP.out ?_)))
      clear AP
      refine hKB.mono ?_
      rintro r w4 ⟨gb, rfl, S4⟩
      clear hKB
      have H4 : Keep (Sep w w4 [boxA ga ((Tb.wr mine (Tb.keys L) 0).map sv) 9, boxA gb ((Tb.keys L).map sv) 9, rowA (.slice (some pw) n cw) (Tb.keys L), Sx.tabA tb sz L, Sx.tabA ub sz []]) := ⟨by rw [Tb.wr_zero]; exact S4.front [_, _]⟩
      clear S4 HS3
      go_wp2_with fail
      go_loopw [13] (fun v wr => ∃ i : Nat, i ≤ n ∧ v = .int .i64 i ∧ Keep (Sep w wr [boxA ga ((Tb.wr mine (Tb.keys L) i).map sv) 9, boxA gb ((Tb.keys L).map sv) 9, rowA (.slice (some pw) n cw) (Tb.keys L), Sx.tabA tb sz L, Sx.tabA ub sz []])) (fun v _ => (n - intOf v).toNat)
      case atStart => exact ⟨0, by omega, rfl, H4⟩
      case round =>
        clear H4
        obtain ⟨i, hi, rfl, hR⟩ := hrel
        by_cases hlt : i < n
        · have hb := hR.out.box m0
          have hce : (wr.cell? ⟨ga, i, none⟩).isSome = true := by rw [hb.cell, List.getElem?_map, List.getElem?_eq_getElem (by rw [Tb.wr_len _ _ (by rw [HL.out.2.2.2.1]; omega), HL.out.2.2.2.1]; exact hlt)]; rfl
          obtain ⟨old, hold⟩ := Option.isSome_iff_exists.1 hce
          have hfz := hb.frozen i
          have HX : Keep (i < n) := ⟨hlt⟩
          have hi0 : (0 : Int) ≤ (i : Int) := by omega
          have hi1 : (i : Int) < (n : Nat) := by omega
          have hti : ((i : Nat) : Int).toNat = i := by omega
          have hwi : IntKind.i64.wrap ((i : Int) + 1) = ((i + 1 : Nat) : Int) := by rw [wi _ (by omega) (by omega)]; omega
          have HN : Keep (Sep w (wr.setCell ⟨ga, i, none⟩ (.string mine)) [boxA ga ((Tb.wr mine (Tb.keys L) (i + 1)).map sv) 9, boxA gb ((Tb.keys L).map sv) 9, rowA (.slice (some pw) n cw) (Tb.keys L), Sx.tabA tb sz L, Sx.tabA ub sz []]) := ⟨by
            have := hR.out.setBox i (.string mine)
            rw [show (Value.string mine) = sv mine from rfl, ← List.map_set, Tb.wr_step _ _ (by rw [HL.out.2.2.2.1]; exact hlt)] at this
            exact this⟩
          clear hR hb hce hi
          go_wp2_with fail
          exact ⟨⟨i + 1, by have := HX.out; omega, rfl, HN⟩, by have := HX.out; simp only [intOf]; omega⟩
        · obtain rfl : i = n := by omega
          have H5 : Keep (Sep w wr [lngA ga i mine (.slice (some ⟨ga, 0, none⟩) i i) 0, boxA ga ((List.replicate i mine).map sv) 9, boxA gb ((Tb.keys L).map sv) 9, rowA (.slice (some pw) i cw) (Tb.keys L), Sx.tabA tb sz L, Sx.tabA ub sz []]) := ⟨by
            have := hR.out
            have e := Tb.wr_all mine (Tb.keys L)
            rw [HL.out.2.2.2.1] at e
            rw [e] at this
            exact this.lng ga i mine⟩
          clear hR hlt hi
          go_wp2_with fail
          go_loopw [14, 15] (fun u v wr => ∃ (j : Nat) (a : Addr) (c : Nat), j ≤ 40 ∧ v = .int .i64 j ∧ u = .slice (some a) (i + j) c ∧ Keep (Sep w wr [lngA ga i mine (.slice (some a) (i + j) c) j, boxA ga ((List.replicate i mine).map sv) 9, boxA gb ((Tb.keys L).map sv) 9, rowA (.slice (some pw) i cw) (Tb.keys L), Sx.tabA tb sz L, Sx.tabA ub sz []])) (fun _ v _ => (40 - intOf v).toNat)
          case atStart => exact ⟨0, _, _, by omega, rfl, rfl, H5⟩
          case round =>
            clear H5
            obtain ⟨jc, a, c, hj, rfl, rfl, hR⟩ := hrel
            by_cases hlt : jc < 40
            · obtain ⟨a', c', w5, ap, S5⟩ := hR.out.lngStep hn2 (by omega)
              have AP : Keep _ := ⟨ap⟩
              have H6 : Keep (Sep w w5 [lngA ga i mine (.slice (some a') (i + (jc + 1)) c') (jc + 1), boxA ga ((List.replicate i mine).map sv) 9, boxA gb ((Tb.keys L).map sv) 9, rowA (.slice (some pw) i cw) (Tb.keys L), Sx.tabA tb sz L, Sx.tabA ub sz []]) := ⟨S5⟩
              have HX : Keep (jc < 40) := ⟨hlt⟩
              have hwi : IntKind.i64.wrap ((jc : Int) + 1) = ((jc + 1 : Nat) : Int) := by rw [wi _ (by omega) (by omega)]; omega
              clear ap S5 hR hj
              go_wp2_with ((first | (at_builtin; refine wpList_append_run _ rfl (.tmp 92) (.tmp 93) 22 rfl _ _ rfl rfl AP.out ?_)))
              exact ⟨⟨jc + 1, a', c', by have := HX.out; omega, rfl, rfl, H6⟩, by have := HX.out; simp only [intOf]; omega⟩
            · have HJC : Keep (jc = 40) := ⟨by omega⟩
              have hjc' : ¬ (jc : Int) < 40 := by omega
              as_aux_lemma =>
                have hb := (hR.out.box m2).str HL.out.2.2.2.1
                have hw := hR.out.row m3
                have hT1 := texts_c wr _ _ (Tb.keys L) (Tb.keys L) hb hw (by rw [HL.out.2.2.2.1]; omega)
                rw [show decide (Tb.keys L = Tb.keys L) = true by simp] at hT1
                have HS := hR
                clear hR hj hlt hb hw
                obtain ⟨cl, hcl⟩ : ∃ cl, i + jc = cl := ⟨_, rfl⟩
                rw [hcl] at HS ⊢
                have HCL : Keep (i + jc = cl) := ⟨hcl⟩
                have hclb : (cl : Int) ≤ 5000 := by have := HJC.out; omega
                clear hcl
                go_wp2_with fail
                refine hT1.mono ?_
                rintro r w6 ⟨rfl, g6⟩
                have HS6 := Keep.mk (HS.out.grown g6)
                have hK6 := Sx.keysR_s HS6.out m4
                rw [HL.out.2.2.1] at hK6
                clear HS g6 hT1
                go_wp2_with fail
                refine hK6.mono ?_
                rintro r w7 ⟨gk, rfl, S7⟩
                have hT2 := texts_c w7 _ _ (Tb.keys L) (Tb.keys L) ((S7.box m0).str HL.out.2.2.2.1) (S7.row m4) (by rw [HL.out.2.2.2.1]; omega)
                rw [show decide (Tb.keys L = Tb.keys L) = true by simp] at hT2
                have HS7 := Keep.mk S7.tail
                clear HS6 hK6 S7
                go_wp2_with fail
                refine hT2.mono ?_
                rintro r w8 ⟨rfl, g8⟩
                have H8 : Keep (Sep w w8 [boxA gb ((Tb.wr other (Tb.keys L) 0).map sv) 9, lngA ga i mine (.slice (some a) cl c) jc, boxA ga ((List.replicate i mine).map sv) 9, rowA (.slice (some pw) i cw) (Tb.keys L), Sx.tabA tb sz L, Sx.tabA ub sz []]) := ⟨by rw [Tb.wr_zero]; exact (HS7.out.grown g8).front [_, _]⟩
                clear HS7 hT2 g8
                go_wp2_with fail
                go_loopw [16] (fun v wr => ∃ e : Nat, e ≤ i ∧ v = .int .i64 e ∧ Keep (Sep w wr [boxA gb ((Tb.wr other (Tb.keys L) e).map sv) 9, lngA ga i mine (.slice (some a) cl c) jc, boxA ga ((List.replicate i mine).map sv) 9, rowA (.slice (some pw) i cw) (Tb.keys L), Sx.tabA tb sz L, Sx.tabA ub sz []])) (fun v _ => (i - intOf v).toNat)
                case atStart => exact ⟨0, by omega, rfl, H8⟩
                case round =>
                  clear H8
                  obtain ⟨e, he, rfl, hR⟩ := hrel
                  by_cases hlt : e < i
                  · have hb := hR.out.box m0
                    have hce : (wr.cell? ⟨gb, e, none⟩).isSome = true := by rw [hb.cell, List.getElem?_map, List.getElem?_eq_getElem (by rw [Tb.wr_len _ _ (by rw [HL.out.2.2.2.1]; omega), HL.out.2.2.2.1]; exact hlt)]; rfl
                    obtain ⟨old, hold⟩ := Option.isSome_iff_exists.1 hce
                    have hfz := hb.frozen e
                    have HX : Keep (e < i) := ⟨hlt⟩
                    have hi0 : (0 : Int) ≤ (e : Int) := by omega
                    have hi1 : (e : Int) < (i : Nat) := by omega
                    have hti : ((e : Nat) : Int).toNat = e := by omega
                    have hwi : IntKind.i64.wrap ((e : Int) + 1) = ((e + 1 : Nat) : Int) := by rw [wi _ (by omega) (by omega)]; omega
                    have HN : Keep (Sep w (wr.setCell ⟨gb, e, none⟩ (.string other)) [boxA gb ((Tb.wr other (Tb.keys L) (e + 1)).map sv) 9, lngA ga i mine (.slice (some a) cl c) jc, boxA ga ((List.replicate i mine).map sv) 9, rowA (.slice (some pw) i cw) (Tb.keys L), Sx.tabA tb sz L, Sx.tabA ub sz []]) := ⟨by
                      have := hR.out.setBox e (.string other)
                      rw [show (Value.string other) = sv other from rfl, ← List.map_set, Tb.wr_step _ _ (by rw [HL.out.2.2.2.1]; exact hlt)] at this
                      exact this⟩
                    clear hR hb hce he
                    go_wp2_with fail
                    exact ⟨⟨e + 1, by have := HX.out; omega, rfl, HN⟩, by have := HX.out; simp only [intOf]; omega⟩
                  · obtain rfl : e = i := by omega
                    as_aux_lemma =>
                      have H9 : Keep (Sep w wr [lngA gb e other (.slice (some ⟨gb, 0, none⟩) e e) 0, boxA gb ((List.replicate e other).map sv) 9, lngA ga e mine (.slice (some a) cl c) jc, boxA ga ((List.replicate e mine).map sv) 9, rowA (.slice (some pw) e cw) (Tb.keys L), Sx.tabA tb sz L, Sx.tabA ub sz []]) := ⟨by
                        have := hR.out
                        have q := Tb.wr_all other (Tb.keys L)
                        rw [HL.out.2.2.2.1] at q
                        rw [q] at this
                        exact this.lng gb e other⟩
                      clear hR hlt he
                      go_wp2_with fail
                      go_loopw [17, 18] (fun u v wr => ∃ (j : Nat) (ad : Addr) (d : Nat), j ≤ 40 ∧ v = .int .i64 j ∧ u = .slice (some ad) (e + j) d ∧ Keep (Sep w wr [lngA gb e other (.slice (some ad) (e + j) d) j, boxA gb ((List.replicate e other).map sv) 9, lngA ga e mine (.slice (some a) cl c) jc, boxA ga ((List.replicate e mine).map sv) 9, rowA (.slice (some pw) e cw) (Tb.keys L), Sx.tabA tb sz L, Sx.tabA ub sz []])) (fun _ v _ => (40 - intOf v).toNat)
                      case atStart => exact ⟨0, _, _, by omega, rfl, rfl, H9⟩
                      case round =>
                        clear H9
                        obtain ⟨jd, ad, d, hj, rfl, rfl, hR⟩ := hrel
                        by_cases hlt : jd < 40
                        · obtain ⟨a', c', w5, ap, S5⟩ := hR.out.lngStep hn2 (by omega)
                          have AP : Keep _ := ⟨ap⟩
                          have H6 : Keep (Sep w w5 [lngA gb e other (.slice (some a') (e + (jd + 1)) c') (jd + 1), boxA gb ((List.replicate e other).map sv) 9, lngA ga e mine (.slice (some a) cl c) jc, boxA ga ((List.replicate e mine).map sv) 9, rowA (.slice (some pw) e cw) (Tb.keys L), Sx.tabA tb sz L, Sx.tabA ub sz []]) := ⟨S5⟩
                          have HX : Keep (jd < 40) := ⟨hlt⟩
                          have hwi : IntKind.i64.wrap ((jd : Int) + 1) = ((jd + 1 : Nat) : Int) := by rw [wi _ (by omega) (by omega)]; omega
                          clear ap S5 hR hj
                          go_wp2_with ((first | (at_builtin; refine wpList_append_run _ rfl (.tmp 120) (.tmp 121) 22 rfl _ _ rfl rfl AP.out ?_)))
                          exact ⟨⟨jd + 1, a', c', by have := HX.out; omega, rfl, rfl, H6⟩, by have := HX.out; simp only [intOf]; omega⟩
                        · have HJD : Keep (jd = jc) := ⟨by have := HJC.out; omega⟩
                          have hjd' : ¬ (jd : Int) < 40 := by omega
                          as_aux_lemma =>
                            have HCD : Keep (e + jd = cl) := ⟨by rw [HJD.out]; exact HCL.out⟩
                            have H10 : Keep (Sep w wr [lngA gb e other (.slice (some ad) cl d) jd, boxA gb ((List.replicate e other).map sv) 9, lngA ga e mine (.slice (some a) cl c) jc, boxA ga ((List.replicate e mine).map sv) 9, rowA (.slice (some pw) e cw) (Tb.keys L), Sx.tabA tb sz L, Sx.tabA ub sz []]) := ⟨by have := hR.out; rw [HCD.out] at this; exact this⟩
                            clear hR hlt hj
                            rw [HCD.out]
                            go_wp2_with fail
                            go_loopw [19] (fun v wr => ∃ q : Nat, q ≤ cl ∧ v = .int .i64 q ∧ Keep (Sep w wr [lngA gb e other (.slice (some ad) cl d) jd, boxA gb ((List.replicate e other).map sv) 9, lngA ga e mine (.slice (some a) cl c) jc, boxA ga ((List.replicate e mine).map sv) 9, rowA (.slice (some pw) e cw) (Tb.keys L), Sx.tabA tb sz L, Sx.tabA ub sz []])) (fun v _ => (cl - intOf v).toNat)
                            case atStart => exact ⟨0, by omega, rfl, H10⟩
                            case round =>
                              clear H10
                              obtain ⟨q, hq, rfl, hR⟩ := hrel
                              by_cases hlt : q < cl
                              · have x1 := hR.out.lngCell m2 (by have := HJC.out; omega) (i := q) (by rw [HCL.out]; exact hlt)
                                have x2 := hR.out.lngCell m0 (by have := HJC.out; have := HJD.out; omega) (i := q) (by rw [HCD.out]; exact hlt)
                                have HX : Keep (q < cl) := ⟨hlt⟩
                                have hi0 : (0 : Int) ≤ (q : Int) := by omega
                                have hi1 : (q : Int) < (cl : Nat) := by omega
                                have hti : ((q : Nat) : Int).toNat = q := by omega
                                have hwi : IntKind.i64.wrap ((q : Int) + 1) = ((q + 1 : Nat) : Int) := by rw [wi _ (by omega) (by omega)]; omega
                                by_cases hqe : q < e
                                · have x3 : wr.cell? ⟨ga, q, none⟩ = some (.string mine) := (hR.out.box m3).cellv q _ (by simp [hqe])
                                  have x4 : wr.cell? ⟨gb, q, none⟩ = some (.string other) := (hR.out.box m1).cellv q _ (by simp [hqe])
                                  have hqe' : (q : Int) < (e : Nat) := by omega
                                  go_wp2_with fail
                                  exact ⟨⟨q + 1, by have := HX.out; omega, rfl, hR⟩, by have := HX.out; simp only [intOf]; omega⟩
                                · have hqe' : ¬ (q : Int) < (e : Nat) := by omega
                                  go_wp2_with fail
                                  exact ⟨⟨q + 1, by have := HX.out; omega, rfl, hR⟩, by have := HX.out; simp only [intOf]; omega⟩
                              · obtain rfl : q = cl := by omega
                                as_aux_lemma =>
                                  have H11 : Keep (Sep w wr [Sx.tabA ub sz [], Sx.tabA tb sz (Tb.rot L 0), rowA (.slice (some pw) e cw) (Tb.keys L)]) := ⟨by rw [Tb.rot_zero]; exact (hR.out.tail.tail.tail.tail).third.perm (List.Perm.cons _ (List.Perm.swap _ _ _))⟩
                                  clear hR hlt hq
                                  go_wp2_with fail
                                  go_loopw [20] (fun v wr => ∃ q : Nat, q ≤ e ∧ v = .int .i64 q ∧ Keep (Sep w wr [Sx.tabA ub sz [], Sx.tabA tb sz (Tb.rot L q), rowA (.slice (some pw) e cw) (Tb.keys L)])) (fun v _ => (e - intOf v).toNat)
                                  case atStart => exact ⟨0, by omega, rfl, H11⟩
                                  case round =>
                                    clear H11
                                    obtain ⟨q, hq, rfl, hR⟩ := hrel
                                    by_cases hlt : q < e
                                    · obtain ⟨p0, hp0⟩ : ∃ p0, L[q]? = some p0 := ⟨_, List.getElem?_eq_getElem (by rw [HL.out.2.2.1]; exact hlt)⟩
                                      have hk0 : (Tb.keys L)[q]? = some p0.1 := by simp [Tb.keys, hp0]
                                      have hbg := HL.out.1 p0 (List.mem_of_getElem? hp0)
                                      have nk := (Sx.stab hR.out m1).nk
                                      obtain ⟨hr1, hr2⟩ := Tb.rot_step hp0 nk
                                      have cw0 := (hR.out.row m2).cell hk0
                                      have hks := HL.out.2.2.2.2 p0.1 (List.mem_of_getElem? hk0)
                                      have hG := Sx.get_s p0.1 hR.out.swap (by omega)
                                      rw [hr1, hr2, hbg] at hG
                                      have ha := addS p0.1 ⟨#[33]⟩ (by show _ + 1 ≤ _; omega)
                                      have hi0 : (0 : Int) ≤ (q : Int) := by omega
                                      have hi1 : (q : Int) < (e : Nat) := by omega
                                      have hti : ((q : Nat) : Int).toNat = q := by omega
                                      have hwi : IntKind.i64.wrap ((q : Int) + 1) = ((q + 1 : Nat) : Int) := by rw [wi _ (by omega) (by omega)]; omega
                                      have HX : Keep (q < e) := ⟨hlt⟩
                                      have HC : Keep ((Tb.keys L)[q]? = some p0.1 ∧ p0.1.size ≤ 281474976710656) := ⟨hk0, hks⟩
                                      generalize hkb : (p0.1 ++ ⟨#[33]⟩ : ByteArray) = kb at *
                                      generalize p0.1 = k0 at *
                                      clear hp0 hbg hr1 hr2 nk hk0 hR hq hkb
                                      go_wp2_with fail
                                      refine hG.mono ?_
                                      rintro r w9 ⟨rfl, S9⟩
                                      clear hG
                                      have cw1 := (S9.row m2).cell HC.out.1
                                      have hG2 := Sx.get_s k0 S9.swap (by have := HC.out.2; omega)
                                      rw [show Tb.look ([] : Sx.KV) k0 = none from rfl] at hG2
                                      clear S9 cw0
                                      go_wp2_with fail
                                      refine hG2.mono ?_
                                      rintro r w10 ⟨rfl, S10⟩
                                      clear hG2 cw1
                                      have cw2 := (S10.row m2).cell HC.out.1
                                      have H13 : Keep (Sep w w10 [Sx.tabA ub sz [], Sx.tabA tb sz (Tb.rot L (q + 1)), rowA (.slice (some pw) e cw) (Tb.keys L)]) := ⟨S10⟩
                                      clear S10
                                      go_wp2_with fail
                                      exact ⟨⟨q + 1, by have := HX.out; omega, rfl, H13⟩, by have := HX.out; simp only [intOf]; omega⟩
                                    · obtain rfl : q = e := by omega
                                      have H12 : Keep (Sep w wr [Sx.tabA ub sz [], Sx.tabA tb sz L, rowA (.slice (some pw) q cw) (Tb.keys L)]) := ⟨by
                                        have := hR.out
                                        rw [← HL.out.2.2.1, Tb.rot_all, HL.out.2.2.1] at this
                                        exact this⟩
                                      have hP := Sx.peek_s ⟨#[]⟩ H12.out m0 (by decide)
                                      rw [show Tb.look ([] : Sx.KV) ⟨#[]⟩ = none from rfl] at hP
                                      have hK := Sx.keysR_s H12.out m1
                                      rw [HL.out.2.2.1] at hK
                                      clear hR hlt hq
                                      go_wp2_with fail
                                      refine hP.mono ?_
                                      rintro r w9 ⟨rfl, hw⟩
                                      subst w9
                                      clear hP
                                      go_wp2_with fail
                                      refine hK.mono ?_
                                      rintro r w10 ⟨gk, rfl, S10⟩
                                      have hT := texts_c w10 _ _ (Tb.keys L) (Tb.keys L) ((S10.box m0).str HL.out.2.2.2.1) (S10.row m3) (by rw [HL.out.2.2.2.1]; omega)
                                      rw [show decide (Tb.keys L = Tb.keys L) = true by simp] at hT
                                      have HS10 := Keep.mk S10
                                      clear hK S10
                                      go_wp2_with fail
                                      refine hT.mono ?_
                                      rintro r w11 ⟨rfl, g11⟩
                                      have hLe := Sx.len_s (HS10.out.grown g11) m1
                                      have HG : Keep (w.grownBy w11 none) := ⟨HS10.out.g.trans g11⟩
                                      clear hT HS10 g11
                                      go_wp2_with fail
                                      refine hLe.mono ?_
                                      rintro r w12 ⟨rfl, hw⟩
                                      subst w12
                                      clear hLe
                                      go_wp2_with fail
                                      go_ret
                                      exact ⟨rfl, HG.out⟩
end Go.Proofs.Ytkaakbldkicnaaa
