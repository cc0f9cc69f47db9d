/- BoardMemory: the walk. -/
import Derived.Test.YtglnmmifedlgmaaM0
namespace Go.Proofs.Ytglnmmifedlgmaa
open Go Go.RowKit

theorem rep_step (A : List (Int × Int)) (i : Nat) (p : Int × Int) (hi : i < A.length) : ((List.replicate i p) ++ A.drop i).set i p = List.replicate (i + 1) p ++ A.drop (i + 1) := by
  rw [List.set_append_right _ _ (by simp), List.length_replicate, Nat.sub_self, List.drop_eq_getElem_cons hi, List.set_cons_zero, List.replicate_succ', List.append_assoc]
  rfl
theorem rep_get (A : List (Int × Int)) (i : Nat) (p : Int × Int) (_ : i < A.length) : ((List.replicate i p) ++ A.drop i)[i]? = A[i]? := by
  rw [List.getElem?_append_right (by simp), List.length_replicate, Nat.sub_self, List.getElem?_drop, Nat.add_zero]
theorem rep_len (A : List (Int × Int)) (i : Nat) (p : Int × Int) (hi : i ≤ A.length) : ((List.replicate i p) ++ A.drop i).length = A.length := by
  simp; omega
set_option maxHeartbeats 32000000 in
set_option maxRecDepth 100000 in
theorem memory_w (s r : ByteArray) (w : World) : Calls Try.prog 4 #[.string s, .string r] w fun e w' => e = .returned (.bool true) ∧ w.grownBy w' none := by
  have hA := alive_c w
  go_enter Try.func4, Try.ntmps4
  go_wp2_with fail
  refine hA.mono ?_
  rintro e w1 ⟨rfl, g1⟩
  have hP := parse_c w1 s
  have HG1 := Keep.mk g1
  clear hA g1
  generalize lns s = L at *
  go_wp2_with fail
  refine hP.mono ?_
  rintro e w2 ⟨g2, h2⟩
  have HG2 := Keep.mk (HG1.out.trans g2)
  clear hP HG1 g2
  rcases h2 with ⟨_, rfl⟩ | ⟨_, _, rfl⟩ | ⟨he, hs, v, rfl, hB⟩
  · go_wp2_with fail
    go_ret
    exact ⟨rfl, HG2.out⟩
  · go_wp2_with fail
    go_ret
    exact ⟨rfl, HG2.out⟩
  obtain ⟨kb, _, _, hv, _⟩ := hB.o
  subst hv
  have hPr := print_c w2 _ L hB
  have HBD := Keep.mk hB
  have HE := Keep.mk he
  have hl0 : 0 < (spn L).length := List.length_pos_iff.2 hs
  have hl1 : (spn L).length ≤ 5000 := by
    have q1 := spA_len L L.length
    have : L.length * wd L ≤ 64 * 64 := Nat.mul_le_mul he.1.2 he.2.1.2
    unfold spn
    omega
  have HSP := Keep.mk (fun p hp => sp_of he (p := p) hp)
  clear hB he hs
  obtain ⟨T, hT⟩ : ∃ T : ByteArray, ⟨(prt L).toArray⟩ = T := ⟨_, rfl⟩
  rw [hT] at hPr
  have HT := Keep.mk hT
  clear hT
  go_wp2_with fail
  refine hPr.mono ?_
  rintro e w3 ⟨rfl, g3⟩
  have hs1 := spawns_c w3 _ L (HBD.out.kept g3)
  have HG3 := Keep.mk g3
  have HSA : Keep (∀ W, Bd W (pt kb) L → Calls Try.prog 16 #[pt kb] W fun e w' => ∃ u, e = .returned u ∧ Sep W w' [vrow u (spn L)]) := ⟨fun W h => spawns_c W _ L h⟩
  clear hPr g3
  obtain ⟨A, hAA⟩ : ∃ A, spn L = A := ⟨_, rfl⟩
  rw [hAA] at hs1 HSA HSP hl0 hl1
  clear hAA
  obtain ⟨n, hn⟩ : ∃ n, A.length = n := ⟨_, rfl⟩
  rw [hn] at hl0 hl1
  have HN := Keep.mk hn
  go_wp2_with fail
  refine hs1.mono ?_
  rintro e w4 ⟨u, rfl, S4⟩
  obtain ⟨ga, ca, e1, _⟩ := own_any (S4.rowGet k0m) (by rw [hn]; exact hl0)
  rw [hn] at e1
  subst e1
  have S4' := (Sep.start HG3.out).seq S4
  have hs2 := HSA.out w4 (HBD.out.kept S4'.g)
  have HS4 := Keep.mk S4'
  clear hs1 S4 S4' HG3
  go_wp2_with fail
  refine hs2.mono ?_
  rintro e w5 ⟨u, rfl, S5⟩
  obtain ⟨gb, cb, e1, _⟩ := own_any (S5.rowGet k0m) (by rw [hn]; exact hl0)
  rw [hn] at e1
  subst e1
  have S5' := HS4.out.seq S5
  clear hs2 S5 HS4
  have g6 := World.grownBy_alloc w5 (.cells #[] 32) none
  obtain ⟨gc, cc, W6, r1, r2⟩ := Sep.vcopy (a := ⟨w5.heap.size, 0, none⟩) (S5'.grown g6) (k1m (b := vrow (.slice (some ⟨gb, 0, none⟩) n cb) A) (a := vrow (.slice (some ⟨ga, 0, none⟩) n ca) A)) hn (by omega) hl0
  have HA := Keep.mk r1
  have HS : Keep (Sep w2 W6 [vrow (.slice (some ⟨ga, 0, none⟩) n ca) A, vrow (.slice (some ⟨gb, 0, none⟩) n cb) A, vrow (.slice (some ⟨gc, 0, none⟩) n cc) A]) := ⟨r2.perm (List.reverse_perm _).symm⟩
  have hln : (1 : Int) ≤ (n : Int) := by omega
  clear r1 r2 S5' g6 hn
  go_wp2_with (at_builtin; refine wpList_append_run _ rfl (.tmp 45) (.tmp 46) 35 rfl _ _ rfl rfl HA.out ?_)
  have hP2 := parse_c W6 r
  refine hP2.mono ?_
  rintro e w7 ⟨g7, h7⟩
  have HS7 := Keep.mk (HS.out.grown g7)
  obtain ⟨v11, e12, rfl, hc⟩ : ∃ v11 e12, e = .returned (.tuple #[v11, iv e12]) ∧ ((v11 = .pointer none ∧ e12 ≠ 0) ∨ (e12 = 0 ∧ Bd w7 v11 (lns r))) := by
    rcases h7 with ⟨_, rfl⟩ | ⟨_, _, rfl⟩ | ⟨_, _, v, rfl, hB⟩
    · exact ⟨_, _, rfl, .inl ⟨rfl, by decide⟩⟩
    · exact ⟨_, _, rfl, .inl ⟨rfl, by decide⟩⟩
    · exact ⟨_, _, rfl, .inr ⟨rfl, hB⟩⟩
  clear hP2 g7 h7 HS HA
  rcases hc with ⟨rfl, he⟩ | ⟨rfl, hB⟩
  · have hcut := HS7
    clear HS7
    go_wp2_with fail
    go_loopw [13] (fun u wr => ∃ i : Nat, i ≤ n ∧ u = iv i ∧ Keep (Sep w2 wr [vrow (.slice (some ⟨ga, 0, none⟩) n ca) A, vrow (.slice (some ⟨gb, 0, none⟩) n cb) A, vrow (.slice (some ⟨gc, 0, none⟩) n cc) A])) (fun u _ => (n - intOf u).toNat)
    case atStart => exact ⟨0, by omega, rfl, hcut⟩
    case round =>
      clear hcut
      obtain ⟨i, hi, rfl, hR⟩ := hrel
      by_cases hik : i < n
      · obtain ⟨p, hp⟩ : ∃ p, A[i]? = some p := ⟨_, List.getElem?_eq_getElem (by rw [HN.out]; exact hik)⟩
        obtain ⟨⟨x0, x1⟩, _⟩ := hR.out.vgetM k0m hp
        obtain ⟨⟨y0, y1⟩, _⟩ := hR.out.vgetM k1m hp
        obtain ⟨⟨z0, z1⟩, _⟩ := hR.out.vgetM k2m hp
        have hi1 : (i : Int) < (n : Nat) := by omega
        have hti : ((i : Nat) : Int).toNat = i := by omega
        have hwi : IntKind.i64.wrap ((i : Int) + 1) = ((i + 1 : Nat) : Int) := by rw [wi _ (by omega) (by omega)]; omega
        clear hp
        go_wp2_with fail
        go_quiet (fail)
        go_wp2_with fail
        go_roundw
        case rel => exact ⟨i + 1, by omega, rfl, ⟨hR.out.grown (gr_drewN _ _ _)⟩⟩
        case measure => simp [intOf]; omega
      · have hik2 : (n : Int) ≤ (i : Int) := by omega
        go_wp2_with fail
        go_loopw [14] (fun u ws => ∃ i : Nat, i ≤ n ∧ u = iv i ∧ Keep (Sep w2 ws [vrow (.slice (some ⟨ga, 0, none⟩) n ca) (List.replicate i (1, 0) ++ A.drop i), vrow (.slice (some ⟨gb, 0, none⟩) n cb) A, vrow (.slice (some ⟨gc, 0, none⟩) n cc) A])) (fun u _ => (n - intOf u).toNat)
        case atStart => exact ⟨0, by omega, rfl, hR⟩
        case round =>
          clear hR hik hik2 hi
          obtain ⟨i2, hi, rfl, hR⟩ := hrel
          by_cases hik : i2 < n
          · obtain ⟨p, hp⟩ : ∃ p, A[i2]? = some p := ⟨_, List.getElem?_eq_getElem (by rw [HN.out]; exact hik)⟩
            obtain ⟨⟨x0, x1⟩, f0, f1⟩ := hR.out.vgetM k0m ((rep_get A i2 (1, 0) (by rw [HN.out]; exact hik)).trans hp)
            have HV : Keep (Sep w2 _ _) := ⟨hR.out.vset (by rw [rep_len A i2 (1, 0) (by rw [HN.out]; omega)]; exact HN.out) i2 hik 1 0⟩
            rw [rep_step A i2 (1, 0) (by rw [HN.out]; exact hik)] at HV
            have hi1 : (i2 : Int) < (n : Nat) := by omega
            have hti : ((i2 : Nat) : Int).toNat = i2 := by omega
            have hwi : IntKind.i64.wrap ((i2 : Int) + 1) = ((i2 + 1 : Nat) : Int) := by rw [wi _ (by omega) (by omega)]; omega
            clear hp hR
            go_wp2_with fail
            go_roundw
            case rel => exact ⟨i2 + 1, by omega, rfl, HV⟩
            case measure => simp [intOf]; omega
          · have hin : i2 = n := by omega
            have hR2 : Sep w2 wr [vrow (.slice (some ⟨ga, 0, none⟩) n ca) (List.replicate n (1, 0)), vrow (.slice (some ⟨gb, 0, none⟩) n cb) A, vrow (.slice (some ⟨gc, 0, none⟩) n cc) A] := by
              have := hR.out
              rw [hin, List.drop_of_length_le (by rw [HN.out]; omega), List.append_nil] at this
              exact this
            have g6 := World.grownBy_alloc wr (.cells #[iv 1, iv 0, iv 1, iv 0, iv 1, iv 0] 32) none
            obtain ⟨gm, cm, W6, r1, r2⟩ := Sep.more (N := List.replicate 3 (1, 0)) (a := ⟨wr.heap.size, 0, none⟩) (m := 3) (k := 3) (hR2.grown g6) (by simp) (by simp) (by omega) (by omega) hl0 (fun j u hu => by
              rw [Addr.add_mid, Nat.zero_add]; exact (Has.newA wr #[iv 1, iv 0, iv 1, iv 0, iv 1, iv 0] 32).cellv j u hu)
            rw [List.replicate_append_replicate] at r2
            have HA := Keep.mk r1
            have HS6 : Keep (Sep w2 W6 [vrow (.slice (some ⟨gb, 0, none⟩) n cb) A, rdA ga (vcs (List.replicate n (1, 0))) gm (vcs (List.replicate (n + 3) (1, 0))), vrow (.slice (some ⟨gc, 0, none⟩) n cc) A]) := ⟨r2.swap⟩
            have hik2 : (n : Int) ≤ (i2 : Int) := by omega
            clear hR hR2 g6 r1 r2 hik hi
            go_wp2_with (at_builtin; refine wpList_append_run _ rfl (.tmp 109) (.tmp 113) 35 rfl _ _ rfl rfl HA.out ?_)
            go_loopw [16] (fun u ws => ∃ i : Nat, i ≤ n ∧ u = iv i ∧ Keep (Sep w2 ws [vrow (.slice (some ⟨gb, 0, none⟩) n cb) (List.replicate i (0, 2) ++ A.drop i), rdA ga (vcs (List.replicate n (1, 0))) gm (vcs (List.replicate (n + 3) (1, 0))), vrow (.slice (some ⟨gc, 0, none⟩) n cc) A])) (fun u _ => (n - intOf u).toNat)
            case atStart => exact ⟨0, by omega, rfl, HS6⟩
            case round =>
              clear HS6 HA hik2
              obtain ⟨i3, hi, rfl, hR⟩ := hrel
              by_cases hik : i3 < n
              · obtain ⟨p, hp⟩ : ∃ p, A[i3]? = some p := ⟨_, List.getElem?_eq_getElem (by rw [HN.out]; exact hik)⟩
                obtain ⟨⟨x0, x1⟩, f0, f1⟩ := hR.out.vgetM k0m ((rep_get A i3 (0, 2) (by rw [HN.out]; exact hik)).trans hp)
                obtain ⟨⟨y0, y1⟩, _⟩ := hR.out.vgetM k2m hp
                have hi1 : (i3 : Int) < (n : Nat) := by omega
                have hti : ((i3 : Nat) : Int).toNat = i3 := by omega
                have hwi : IntKind.i64.wrap ((i3 : Int) + 1) = ((i3 + 1 : Nat) : Int) := by rw [wi _ (by omega) (by omega)]; omega
                have HP := Keep.mk hp
                clear hp
                go_wp2_with fail
                go_quiet (fail)
                have hR2 := hR.out.grown (gr_drewN wr nq none)
                obtain ⟨⟨x0, x1⟩, f0, f1⟩ := hR2.vgetM k0m ((rep_get A i3 (0, 2) (by rw [HN.out]; exact hik)).trans HP.out)
                have HV : Keep (Sep w2 _ _) := ⟨hR2.vset (by rw [rep_len A i3 (0, 2) (by rw [HN.out]; omega)]; exact HN.out) i3 hik 0 2⟩
                rw [rep_step A i3 (0, 2) (by rw [HN.out]; exact hik)] at HV
                clear hR2
                go_wp2_with fail
                go_roundw
                case rel => exact ⟨i3 + 1, by omega, rfl, HV⟩
                case measure => simp [intOf]; omega
              · have hin : i3 = n := by omega
                have hR2 : Sep w2 wr [vrow (.slice (some ⟨gb, 0, none⟩) n cb) (List.replicate n (0, 2)), rdA ga (vcs (List.replicate n (1, 0))) gm (vcs (List.replicate (n + 3) (1, 0))), vrow (.slice (some ⟨gc, 0, none⟩) n cc) A] := by
                  have := hR.out
                  rw [hin, List.drop_of_length_le (by rw [HN.out]; omega), List.append_nil] at this
                  exact this
                have g6 := World.grownBy_alloc wr (.cells #[iv 0, iv 2, iv 0, iv 2] 32) none
                obtain ⟨gn, cn, W7, r1, r2⟩ := Sep.more (N := List.replicate 2 (0, 2)) (a := ⟨wr.heap.size, 0, none⟩) (m := 2) (k := 2) (hR2.grown g6) (by simp) (by simp) (by omega) (by omega) hl0 (fun j u hu => by
                  rw [Addr.add_mid, Nat.zero_add]; exact (Has.newA wr #[iv 0, iv 2, iv 0, iv 2] 32).cellv j u hu)
                rw [List.replicate_append_replicate] at r2
                have HA := Keep.mk r1
                have HS7 := Keep.mk r2
                have hs4 := HSA.out W7 (HBD.out.kept r2.g)
                have hik2 : (n : Int) ≤ (i3 : Int) := by omega
                clear hR hR2 g6 r1 r2 hik hi
                go_wp2_with (at_builtin; refine wpList_append_run _ rfl (.tmp 134) (.tmp 137) 35 rfl _ _ rfl rfl HA.out ?_)
                refine hs4.mono ?_
                rintro e w8 ⟨u, rfl, S8⟩
                obtain ⟨gd, cd, e1, _⟩ := own_any (S8.rowGet k0m) (by rw [HN.out]; exact hl0)
                rw [HN.out] at e1
                subst e1
                have HS8 : Keep (Sep w2 w8 [vrow (.slice (some ⟨gd, 0, none⟩) n cd) A, rdA gb (vcs (List.replicate n (0, 2))) gn (vcs (List.replicate (n + 2) (0, 2))), rdA ga (vcs (List.replicate n (1, 0))) gm (vcs (List.replicate (n + 3) (1, 0))), vrow (.slice (some ⟨gc, 0, none⟩) n cc) A]) := ⟨HS7.out.seq S8⟩
                clear hs4 S8 HS7 HA hik2
                go_wp2_with fail
                go_loopw [19] (fun u ws => ∃ i : Nat, i ≤ n + 3 ∧ u = iv i ∧ Keep (Sep w2 ws [vrow (.slice (some ⟨gd, 0, none⟩) n cd) A, rdA gb (vcs (List.replicate n (0, 2))) gn (vcs (List.replicate (n + 2) (0, 2))), rdA ga (vcs (List.replicate n (1, 0))) gm (vcs (List.replicate (n + 3) (1, 0))), vrow (.slice (some ⟨gc, 0, none⟩) n cc) A])) (fun u _ => ((n : Int) + 3 - intOf u).toNat)
                case atStart => exact ⟨0, by omega, rfl, HS8⟩
                case round =>
                  clear HS8
                  obtain ⟨i4, hi, rfl, hR⟩ := hrel
                  by_cases hik : i4 < n + 3
                  · have hti : ((i4 : Nat) : Int).toNat = i4 := by omega
                    have hwi : IntKind.i64.wrap ((i4 : Int) + 1) = ((i4 + 1 : Nat) : Int) := by rw [wi _ (by omega) (by omega)]; omega
                    have hi3 : (i4 : Int) < ((n + 3 : Nat) : Int) := by omega
                    have hi4 : (i4 : Int) < (n : Int) + 3 := by omega
                    obtain ⟨m0, m1⟩ := hR.out.rd2 k2m (i := i4) (p := (1, 0)) (by rw [List.getElem?_replicate, if_pos hik])
                    by_cases hin : i4 < n
                    · obtain ⟨p, hp⟩ : ∃ p, A[i4]? = some p := ⟨_, List.getElem?_eq_getElem (by rw [HN.out]; exact hin)⟩
                      obtain ⟨⟨x0, x1⟩, _⟩ := hR.out.vgetM k0m hp
                      obtain ⟨⟨y0, y1⟩, _⟩ := hR.out.vgetM k3m hp
                      obtain ⟨z0, z1⟩ := hR.out.rd2 k1m (i := i4) (p := (0, 2)) (by rw [List.getElem?_replicate, if_pos (by omega)])
                      obtain ⟨o0, o1⟩ := hR.out.rd1 k2m (i := i4) (p := (1, 0)) (by rw [List.getElem?_replicate, if_pos hin])
                      have hi5 : (i4 : Int) < (n : Nat) := by omega
                      have hi6 : (i4 : Int) < ((n + 2 : Nat) : Int) := by omega
                      have hi7 : (i4 : Int) < (n : Int) + 2 := by omega
                      have hd : decide ((i4 : Int) < (n : Int)) = true := decide_eq_true hi5
                      clear hp
                      go_wp2_with fail
                      go_quiet (fail)
                      go_wp2_with fail
                      go_roundw
                      case rel => exact ⟨i4 + 1, by omega, rfl, ⟨hR.out.grown (gr_drewN _ _ _)⟩⟩
                      case measure => simp [intOf]; omega
                    · have hi5 : ¬ (i4 : Int) < (n : Nat) := by omega
                      have hd : decide ((i4 : Int) < (n : Int)) = false := decide_eq_false hi5
                      go_wp2_with fail
                      go_quiet (fail)
                      go_wp2_with fail
                      go_roundw
                      case rel => exact ⟨i4 + 1, by omega, rfl, ⟨hR.out.grown (gr_drewN _ _ _)⟩⟩
                      case measure => simp [intOf]; omega
                  · have hik2 : (n : Int) + 3 ≤ (i4 : Int) := by omega
                    have hp5 := print_c _ _ _ (HBD.out.kept hR.out.g)
                    rw [HT.out] at hp5
                    go_wp2_with fail
                    refine hp5.mono ?_
                    rintro e w9 ⟨rfl, g9⟩
                    have hR9 := hR.out.grown g9
                    obtain ⟨p, hp⟩ : ∃ p, A[0]? = some p := ⟨_, List.getElem?_eq_getElem (by rw [HN.out]; exact hl0)⟩
                    obtain ⟨⟨y0, y1⟩, _⟩ := hR9.vgetM k3m hp
                    simp only [Nat.zero_mul, Nat.zero_add] at y0 y1
                    have hSp := HSP.out p (List.mem_of_getElem? hp)
                    obtain ⟨px, py⟩ := p
                    have q1 := hSp.x
                    have q2 := hSp.y
                    simp only at y0 y1 q1 q2
                    have hbl := (decide_eq_false (hSp.free 1 (by omega))) ▸ blocked_c w9 _ _ (HBD.out.kept hR9.g) px py 1 (by constructor <;> omega) (by constructor <;> omega) (by decide)
                    have HG9 := Keep.mk hR9.g
                    have hn0 : (0 : Int) < (n : Nat) := by omega
                    clear hp5 g9 hR9 hp hSp q1 q2 hR
                    go_wp2_with fail
                    refine hbl.mono ?_
                    rintro e w10 ⟨rfl, g10⟩
                    have HG10 := Keep.mk (HG2.out.trans (HG9.out.trans g10))
                    clear hbl g10
                    go_wp2_with fail
                    go_ret
                    exact ⟨rfl, HG10.out⟩
  · obtain ⟨kk, _, _, hv, _⟩ := hB.o
    subst hv
    have hs3 := spawns_c _ _ _ hB
    have HB3 := Keep.mk hB
    clear hB
    go_wp2_with fail
    refine hs3.mono ?_
    rintro e w8 ⟨u, rfl, S8⟩
    have hp3 := print_c _ _ _ (HB3.out.kept S8.g)
    have HS8 := Keep.mk (HS7.out.grown S8.g)
    clear hs3 S8
    go_wp2_with fail
    refine hp3.mono ?_
    rintro e w9 ⟨rfl, g9⟩
    have hcut := Keep.mk (HS8.out.grown g9)
    clear hp3 g9 HS8 HB3 HS7
    go_wp2_with fail
    go_loopw [13] (fun u wr => ∃ i : Nat, i ≤ n ∧ u = iv i ∧ Keep (Sep w2 wr [vrow (.slice (some ⟨ga, 0, none⟩) n ca) A, vrow (.slice (some ⟨gb, 0, none⟩) n cb) A, vrow (.slice (some ⟨gc, 0, none⟩) n cc) A])) (fun u _ => (n - intOf u).toNat)
    case atStart => exact ⟨0, by omega, rfl, hcut⟩
    case round =>
      clear hcut
      obtain ⟨i, hi, rfl, hR⟩ := hrel
      by_cases hik : i < n
      · obtain ⟨p, hp⟩ : ∃ p, A[i]? = some p := ⟨_, List.getElem?_eq_getElem (by rw [HN.out]; exact hik)⟩
        obtain ⟨⟨x0, x1⟩, _⟩ := hR.out.vgetM k0m hp
        obtain ⟨⟨y0, y1⟩, _⟩ := hR.out.vgetM k1m hp
        obtain ⟨⟨z0, z1⟩, _⟩ := hR.out.vgetM k2m hp
        have hi1 : (i : Int) < (n : Nat) := by omega
        have hti : ((i : Nat) : Int).toNat = i := by omega
        have hwi : IntKind.i64.wrap ((i : Int) + 1) = ((i + 1 : Nat) : Int) := by rw [wi _ (by omega) (by omega)]; omega
        clear hp
        go_wp2_with fail
        go_quiet (fail)
        go_wp2_with fail
        go_roundw
        case rel => exact ⟨i + 1, by omega, rfl, ⟨hR.out.grown (gr_drewN _ _ _)⟩⟩
        case measure => simp [intOf]; omega
      · have hik2 : (n : Int) ≤ (i : Int) := by omega
        go_wp2_with fail
        go_loopw [14] (fun u ws => ∃ i : Nat, i ≤ n ∧ u = iv i ∧ Keep (Sep w2 ws [vrow (.slice (some ⟨ga, 0, none⟩) n ca) (List.replicate i (1, 0) ++ A.drop i), vrow (.slice (some ⟨gb, 0, none⟩) n cb) A, vrow (.slice (some ⟨gc, 0, none⟩) n cc) A])) (fun u _ => (n - intOf u).toNat)
        case atStart => exact ⟨0, by omega, rfl, hR⟩
        case round =>
          clear hR hik hik2 hi
          obtain ⟨i2, hi, rfl, hR⟩ := hrel
          by_cases hik : i2 < n
          · obtain ⟨p, hp⟩ : ∃ p, A[i2]? = some p := ⟨_, List.getElem?_eq_getElem (by rw [HN.out]; exact hik)⟩
            obtain ⟨⟨x0, x1⟩, f0, f1⟩ := hR.out.vgetM k0m ((rep_get A i2 (1, 0) (by rw [HN.out]; exact hik)).trans hp)
            have HV : Keep (Sep w2 _ _) := ⟨hR.out.vset (by rw [rep_len A i2 (1, 0) (by rw [HN.out]; omega)]; exact HN.out) i2 hik 1 0⟩
            rw [rep_step A i2 (1, 0) (by rw [HN.out]; exact hik)] at HV
            have hi1 : (i2 : Int) < (n : Nat) := by omega
            have hti : ((i2 : Nat) : Int).toNat = i2 := by omega
            have hwi : IntKind.i64.wrap ((i2 : Int) + 1) = ((i2 + 1 : Nat) : Int) := by rw [wi _ (by omega) (by omega)]; omega
            clear hp hR
            go_wp2_with fail
            go_roundw
            case rel => exact ⟨i2 + 1, by omega, rfl, HV⟩
            case measure => simp [intOf]; omega
          · have hin : i2 = n := by omega
            have hR2 : Sep w2 wr [vrow (.slice (some ⟨ga, 0, none⟩) n ca) (List.replicate n (1, 0)), vrow (.slice (some ⟨gb, 0, none⟩) n cb) A, vrow (.slice (some ⟨gc, 0, none⟩) n cc) A] := by
              have := hR.out
              rw [hin, List.drop_of_length_le (by rw [HN.out]; omega), List.append_nil] at this
              exact this
            have g6 := World.grownBy_alloc wr (.cells #[iv 1, iv 0, iv 1, iv 0, iv 1, iv 0] 32) none
            obtain ⟨gm, cm, W6, r1, r2⟩ := Sep.more (N := List.replicate 3 (1, 0)) (a := ⟨wr.heap.size, 0, none⟩) (m := 3) (k := 3) (hR2.grown g6) (by simp) (by simp) (by omega) (by omega) hl0 (fun j u hu => by
              rw [Addr.add_mid, Nat.zero_add]; exact (Has.newA wr #[iv 1, iv 0, iv 1, iv 0, iv 1, iv 0] 32).cellv j u hu)
            rw [List.replicate_append_replicate] at r2
            have HA := Keep.mk r1
            have HS6 : Keep (Sep w2 W6 [vrow (.slice (some ⟨gb, 0, none⟩) n cb) A, rdA ga (vcs (List.replicate n (1, 0))) gm (vcs (List.replicate (n + 3) (1, 0))), vrow (.slice (some ⟨gc, 0, none⟩) n cc) A]) := ⟨r2.swap⟩
            have hik2 : (n : Int) ≤ (i2 : Int) := by omega
            clear hR hR2 g6 r1 r2 hik hi
            go_wp2_with (at_builtin; refine wpList_append_run _ rfl (.tmp 109) (.tmp 113) 35 rfl _ _ rfl rfl HA.out ?_)
            go_loopw [16] (fun u ws => ∃ i : Nat, i ≤ n ∧ u = iv i ∧ Keep (Sep w2 ws [vrow (.slice (some ⟨gb, 0, none⟩) n cb) (List.replicate i (0, 2) ++ A.drop i), rdA ga (vcs (List.replicate n (1, 0))) gm (vcs (List.replicate (n + 3) (1, 0))), vrow (.slice (some ⟨gc, 0, none⟩) n cc) A])) (fun u _ => (n - intOf u).toNat)
            case atStart => exact ⟨0, by omega, rfl, HS6⟩
            case round =>
              clear HS6 HA hik2
              obtain ⟨i3, hi, rfl, hR⟩ := hrel
              by_cases hik : i3 < n
              · obtain ⟨p, hp⟩ : ∃ p, A[i3]? = some p := ⟨_, List.getElem?_eq_getElem (by rw [HN.out]; exact hik)⟩
                obtain ⟨⟨x0, x1⟩, f0, f1⟩ := hR.out.vgetM k0m ((rep_get A i3 (0, 2) (by rw [HN.out]; exact hik)).trans hp)
                obtain ⟨⟨y0, y1⟩, _⟩ := hR.out.vgetM k2m hp
                have hi1 : (i3 : Int) < (n : Nat) := by omega
                have hti : ((i3 : Nat) : Int).toNat = i3 := by omega
                have hwi : IntKind.i64.wrap ((i3 : Int) + 1) = ((i3 + 1 : Nat) : Int) := by rw [wi _ (by omega) (by omega)]; omega
                have HP := Keep.mk hp
                clear hp
                go_wp2_with fail
                go_quiet (fail)
                have hR2 := hR.out.grown (gr_drewN wr nq none)
                obtain ⟨⟨x0, x1⟩, f0, f1⟩ := hR2.vgetM k0m ((rep_get A i3 (0, 2) (by rw [HN.out]; exact hik)).trans HP.out)
                have HV : Keep (Sep w2 _ _) := ⟨hR2.vset (by rw [rep_len A i3 (0, 2) (by rw [HN.out]; omega)]; exact HN.out) i3 hik 0 2⟩
                rw [rep_step A i3 (0, 2) (by rw [HN.out]; exact hik)] at HV
                clear hR2
                go_wp2_with fail
                go_roundw
                case rel => exact ⟨i3 + 1, by omega, rfl, HV⟩
                case measure => simp [intOf]; omega
              · have hin : i3 = n := by omega
                have hR2 : Sep w2 wr [vrow (.slice (some ⟨gb, 0, none⟩) n cb) (List.replicate n (0, 2)), rdA ga (vcs (List.replicate n (1, 0))) gm (vcs (List.replicate (n + 3) (1, 0))), vrow (.slice (some ⟨gc, 0, none⟩) n cc) A] := by
                  have := hR.out
                  rw [hin, List.drop_of_length_le (by rw [HN.out]; omega), List.append_nil] at this
                  exact this
                have g6 := World.grownBy_alloc wr (.cells #[iv 0, iv 2, iv 0, iv 2] 32) none
                obtain ⟨gn, cn, W7, r1, r2⟩ := Sep.more (N := List.replicate 2 (0, 2)) (a := ⟨wr.heap.size, 0, none⟩) (m := 2) (k := 2) (hR2.grown g6) (by simp) (by simp) (by omega) (by omega) hl0 (fun j u hu => by
                  rw [Addr.add_mid, Nat.zero_add]; exact (Has.newA wr #[iv 0, iv 2, iv 0, iv 2] 32).cellv j u hu)
                rw [List.replicate_append_replicate] at r2
                have HA := Keep.mk r1
                have HS7 := Keep.mk r2
                have hs4 := HSA.out W7 (HBD.out.kept r2.g)
                have hik2 : (n : Int) ≤ (i3 : Int) := by omega
                clear hR hR2 g6 r1 r2 hik hi
                go_wp2_with (at_builtin; refine wpList_append_run _ rfl (.tmp 134) (.tmp 137) 35 rfl _ _ rfl rfl HA.out ?_)
                refine hs4.mono ?_
                rintro e w8 ⟨u, rfl, S8⟩
                obtain ⟨gd, cd, e1, _⟩ := own_any (S8.rowGet k0m) (by rw [HN.out]; exact hl0)
                rw [HN.out] at e1
                subst e1
                have HS8 : Keep (Sep w2 w8 [vrow (.slice (some ⟨gd, 0, none⟩) n cd) A, rdA gb (vcs (List.replicate n (0, 2))) gn (vcs (List.replicate (n + 2) (0, 2))), rdA ga (vcs (List.replicate n (1, 0))) gm (vcs (List.replicate (n + 3) (1, 0))), vrow (.slice (some ⟨gc, 0, none⟩) n cc) A]) := ⟨HS7.out.seq S8⟩
                clear hs4 S8 HS7 HA hik2
                go_wp2_with fail
                go_loopw [19] (fun u ws => ∃ i : Nat, i ≤ n + 3 ∧ u = iv i ∧ Keep (Sep w2 ws [vrow (.slice (some ⟨gd, 0, none⟩) n cd) A, rdA gb (vcs (List.replicate n (0, 2))) gn (vcs (List.replicate (n + 2) (0, 2))), rdA ga (vcs (List.replicate n (1, 0))) gm (vcs (List.replicate (n + 3) (1, 0))), vrow (.slice (some ⟨gc, 0, none⟩) n cc) A])) (fun u _ => ((n : Int) + 3 - intOf u).toNat)
                case atStart => exact ⟨0, by omega, rfl, HS8⟩
                case round =>
                  clear HS8
                  obtain ⟨i4, hi, rfl, hR⟩ := hrel
                  by_cases hik : i4 < n + 3
                  · have hti : ((i4 : Nat) : Int).toNat = i4 := by omega
                    have hwi : IntKind.i64.wrap ((i4 : Int) + 1) = ((i4 + 1 : Nat) : Int) := by rw [wi _ (by omega) (by omega)]; omega
                    have hi3 : (i4 : Int) < ((n + 3 : Nat) : Int) := by omega
                    have hi4 : (i4 : Int) < (n : Int) + 3 := by omega
                    obtain ⟨m0, m1⟩ := hR.out.rd2 k2m (i := i4) (p := (1, 0)) (by rw [List.getElem?_replicate, if_pos hik])
                    by_cases hin : i4 < n
                    · obtain ⟨p, hp⟩ : ∃ p, A[i4]? = some p := ⟨_, List.getElem?_eq_getElem (by rw [HN.out]; exact hin)⟩
                      obtain ⟨⟨x0, x1⟩, _⟩ := hR.out.vgetM k0m hp
                      obtain ⟨⟨y0, y1⟩, _⟩ := hR.out.vgetM k3m hp
                      obtain ⟨z0, z1⟩ := hR.out.rd2 k1m (i := i4) (p := (0, 2)) (by rw [List.getElem?_replicate, if_pos (by omega)])
                      obtain ⟨o0, o1⟩ := hR.out.rd1 k2m (i := i4) (p := (1, 0)) (by rw [List.getElem?_replicate, if_pos hin])
                      have hi5 : (i4 : Int) < (n : Nat) := by omega
                      have hi6 : (i4 : Int) < ((n + 2 : Nat) : Int) := by omega
                      have hi7 : (i4 : Int) < (n : Int) + 2 := by omega
                      have hd : decide ((i4 : Int) < (n : Int)) = true := decide_eq_true hi5
                      clear hp
                      go_wp2_with fail
                      go_quiet (fail)
                      go_wp2_with fail
                      go_roundw
                      case rel => exact ⟨i4 + 1, by omega, rfl, ⟨hR.out.grown (gr_drewN _ _ _)⟩⟩
                      case measure => simp [intOf]; omega
                    · have hi5 : ¬ (i4 : Int) < (n : Nat) := by omega
                      have hd : decide ((i4 : Int) < (n : Int)) = false := decide_eq_false hi5
                      go_wp2_with fail
                      go_quiet (fail)
                      go_wp2_with fail
                      go_roundw
                      case rel => exact ⟨i4 + 1, by omega, rfl, ⟨hR.out.grown (gr_drewN _ _ _)⟩⟩
                      case measure => simp [intOf]; omega
                  · have hik2 : (n : Int) + 3 ≤ (i4 : Int) := by omega
                    have hp5 := print_c _ _ _ (HBD.out.kept hR.out.g)
                    rw [HT.out] at hp5
                    go_wp2_with fail
                    refine hp5.mono ?_
                    rintro e w9 ⟨rfl, g9⟩
                    have hR9 := hR.out.grown g9
                    obtain ⟨p, hp⟩ : ∃ p, A[0]? = some p := ⟨_, List.getElem?_eq_getElem (by rw [HN.out]; exact hl0)⟩
                    obtain ⟨⟨y0, y1⟩, _⟩ := hR9.vgetM k3m hp
                    simp only [Nat.zero_mul, Nat.zero_add] at y0 y1
                    have hSp := HSP.out p (List.mem_of_getElem? hp)
                    obtain ⟨px, py⟩ := p
                    have q1 := hSp.x
                    have q2 := hSp.y
                    simp only at y0 y1 q1 q2
                    have hbl := (decide_eq_false (hSp.free 1 (by omega))) ▸ blocked_c w9 _ _ (HBD.out.kept hR9.g) px py 1 (by constructor <;> omega) (by constructor <;> omega) (by decide)
                    have HG9 := Keep.mk hR9.g
                    have hn0 : (0 : Int) < (n : Nat) := by omega
                    clear hp5 g9 hR9 hp hSp q1 q2 hR
                    go_wp2_with fail
                    refine hbl.mono ?_
                    rintro e w10 ⟨rfl, g10⟩
                    have HG10 := Keep.mk (HG2.out.trans (HG9.out.trans g10))
                    clear hbl g10
                    go_wp2_with fail
                    go_ret
                    exact ⟨rfl, HG10.out⟩
end Go.Proofs.Ytglnmmifedlgmaa
