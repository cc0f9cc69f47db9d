import Derived.Test.YtplcicbpkbamnaaGreatDoorX28
import Derived.Test.YtplcicbpkbamnaaGreatDoorX25
/- LobbyNews' walk -/
namespace Go.Proofs.YtplcicbpkbamnaaGreatDoor.Lo
open Go Go.RowKit Go.Maps

set_option maxRecDepth 100000 in
set_option maxHeartbeats 16000000 in
theorem news_c (w : World) (c : Cf) (v : Value) (P : List Pr) (hv : InR w v P) (hz : v = .slice none 0 0 ∨ ∃ a n c, v = .slice (some a) n c) (hsm : ∀ x ∈ P, x.1.size ≤ 1048576) (hlen : P.length ≤ 1048576) (hn : Na.Kc w) (hk : Kc w) :
    Calls Tryz.prog 3 #[.agg (cfv c v)] w fun e w' => e = .returned (.bool true) ∧ w.grownBy w' none := by
  obtain ⟨du, hdu, hdr⟩ := under24q
  obtain ⟨a, cap, hve, _⟩ := hv.o
  obtain ⟨n, hnn⟩ : ∃ n, P.length = n := ⟨_, rfl⟩
  rw [hnn] at hve hlen
  subst hve
  have S1 := (Sep.nil w).newBox (cfv c (.slice a n cap)) 24
  obtain ⟨W1, hW1⟩ : ∃ W1, w.alloc (.cells (cfv c (.slice a n cap)) 24) = W1 := ⟨_, rfl⟩
  obtain ⟨cb, hcb⟩ : ∃ cb, w.heap.size = cb := ⟨_, rfl⟩
  rw [hW1, hcb] at S1
  have HKK : Keep (∀ W l, Sep w W l → Na.Kc W ∧ Kc W ∧ InR W (.slice a n cap) P) := ⟨fun W l h => ⟨hn.kept h.g, hk.kept h.g (by simp), hv.kept h.g⟩⟩
  have hA := alive_c W1 (HKK.out _ _ S1).1 (HKK.out _ _ S1).2.1
  have HN : Keep (∀ W l, Sep w W l → Calls Tryz.prog 5 #[.agg (cfv c (.slice a n cap))] W (NwR W (newL c P)) ∧ Calls Tryz.prog 6 #[.agg (cfv c (.slice a n cap))] W (RnR W (newL c P))) := ⟨fun W l h => ⟨new_c W c _ P (HKK.out _ _ h).2.2 (HKK.out _ _ h).1, rnew_c W c _ P (HKK.out _ _ h).2.2 hz hsm⟩⟩
  have HCL : Keep ((cfv c (.slice a n cap)).toList.length = 13 ∧ (cfv c (.slice a n cap)).toList[12]? = some (.slice a n cap)) := ⟨rfl, rfl⟩
  have hcl : cfv c (.slice a n cap) = (cfv c (.slice a n cap)).toList.toArray := rfl
  rw [hcl] at HN hW1
  rw [hcl]
  have HS1 : Keep (Sep w W1 [boxA cb (cfv c (.slice a n cap)).toList 24]) := ⟨S1⟩
  generalize (cfv c (.slice a n cap)).toList = cl at HN HCL hW1 HS1 ⊢
  have HP := Keep.mk (And.intro hnn hlen)
  clear S1 hn hk hv hz hsm hcl hnn hlen
  go_enter Tryz.func3, Tryz.ntmps3
  go_wp2_with fail
  refine hA.mono ?_
  rintro e w3 ⟨rfl, g3⟩
  have S3 := HS1.out.grown g3
  have hN1 := (HN.out _ _ S3).1
  have RNG := Keep.mk (S3.boxGet k0m).range
  have HS3 := Keep.mk S3
  clear hA g3 HS1 hW1 hcb S3
  cases hX : newL c P with
  | none =>
    rw [hX] at hN1
    go_wp2_with (first
      | (show wpList _ _ _ ({ dst := _, op := Op.load 24 _, type := _, pos := _, after := _, guard := _ } :: _) _ _
         refine wpList_load_mid rfl 24 _ rfl _ _ rfl _ _ RNG.out hdu hdr (by rw [HCL.out.1]; exact info24q) ?_))
    refine hN1.mono ?_
    rintro e w4 ⟨rfl, g4⟩
    have S4 := HS3.out.grown g4
    have hR := (HN.out _ _ S4).2
    rw [hX] at hR
    have RNG := Keep.mk (S4.boxGet k0m).range
    have HG4 := Keep.mk S4.g
    clear hN1 g4 HS3 S4
    go_wp2_with (first
      | (show wpList _ _ _ ({ dst := _, op := Op.load 24 _, type := _, pos := _, after := _, guard := _ } :: _) _ _
         refine wpList_load_mid rfl 24 _ rfl _ _ rfl _ _ RNG.out hdu hdr (by rw [HCL.out.1]; exact info24q) ?_))
    refine hR.mono ?_
    rintro e w5 ⟨g5, h5⟩
    rcases h5 with ⟨_, rfl⟩ | ⟨⟨X, q⟩, _⟩
    · have HG := Keep.mk (HG4.out.trans g5)
      clear hR g5
      go_wp2_with fail
      go_ret
      exact ⟨rfl, HG.out⟩
    · cases q
  | some X =>
    rw [hX] at hN1
    obtain ⟨ok, up, hXS, hnx⟩ := new_ok hX
    have HX := Keep.mk (And.intro ok (And.intro up (And.intro hXS hnx)))
    have HXX := Keep.mk hX
    clear ok up hXS hnx
    go_wp2_with (first
      | (show wpList _ _ _ ({ dst := _, op := Op.load 24 _, type := _, pos := _, after := _, guard := _ } :: _) _ _
         refine wpList_load_mid rfl 24 _ rfl _ _ rfl _ _ RNG.out hdu hdr (by rw [HCL.out.1]; exact info24q) ?_))
    refine hN1.mono ?_
    rintro e w4 ⟨la, rfl, S4'⟩
    have S4 : Sep w w4 [lobA la X, boxA cb cl 24] := HS3.out.ovr S4'
    have hR := (HN.out _ _ S4).2
    rw [hX] at hR
    have RNG := Keep.mk (S4.boxGet k1m).range
    have HS4 := Keep.mk S4
    clear hN1 S4' HS3 S4 hX
    go_wp2_with (first
      | (show wpList _ _ _ ({ dst := _, op := Op.load 24 _, type := _, pos := _, after := _, guard := _ } :: _) _ _
         refine wpList_load_mid rfl 24 _ rfl _ _ rfl _ _ RNG.out hdu hdr (by rw [HCL.out.1]; exact info24q) ?_))
    refine hR.mono ?_
    rintro e w5 ⟨g5, h5⟩
    rcases h5 with ⟨q, _⟩ | ⟨_, kb, rfl⟩
    · cases q
    · have HS5 := Keep.mk (HS4.out.grown g5)
      clear hR g5 HS4 RNG
      go_wp2_with fail
      go_loopw [7] (fun u wr => ∃ i : Nat, i ≤ n ∧ u = iv i ∧ Keep (Sep w wr [lobA la X, boxA cb cl 24])) (fun u _ => (n - intOf u).toNat)
      case atStart => exact ⟨0, by omega, rfl, HS5⟩
      case round =>
        clear HS5
        obtain ⟨i, hi, rfl, hS⟩ := hrel
        have c12 : wr.cell? ⟨cb, 12, none⟩ = some (.slice a n cap) := (hS.out.boxGet k1m).cellv 12 _ HCL.out.2
        by_cases hlt : i < n
        · obtain ⟨p, hp⟩ : ∃ p, P[i]? = some p := ⟨_, List.getElem?_eq_getElem (by rw [HP.out.1]; exact hlt)⟩
          obtain ⟨q1, q2, q3⟩ := new_at HXX.out hp
          obtain ⟨g, og, ha, hat⟩ : ∃ g og, a = some ⟨g, og, none⟩ ∧ ∀ W l, Sep w W l → W.cell? ⟨g, og + i * 2, none⟩ = some (.string p.1) ∧ W.cell? ⟨g, og + i * 2 + 1, none⟩ = some (.string p.2) := by
            obtain ⟨a', c', e, q⟩ := (HKK.out _ _ hS.out).2.2.o
            obtain ⟨g, og, e1, _⟩ := q (by rw [HP.out.1]; omega)
            injection e with e2 _ _
            refine ⟨g, og, e2.trans e1, fun W l h => ?_⟩
            obtain ⟨a'', c'', e', q'⟩ := (HKK.out _ _ h).2.2.o
            obtain ⟨g', og', e1', q'⟩ := q' (by rw [HP.out.1]; omega)
            injection e' with e2' _ _
            have := (e2.trans e1).symm.trans (e2'.trans e1')
            injection this with this
            injection this with e3 e4 _
            subst e3 e4
            exact q' i p hp
          subst ha
          have HAT := Keep.mk hat
          obtain ⟨p0, _⟩ := hat _ _ hS.out
          have hi0 : (0 : Int) ≤ (i : Int) := by omega
          have hi1 : (i : Int) < (n : Nat) := by omega
          have hti : ((i : Nat) : Int).toNat = i := by omega
          have hwi : IntKind.i64.wrap ((i : Int) + 1) = ((i + 1 : Nat) : Int) := by have := HP.out.2; rw [wi _ (by omega) (by omega)]; omega
          have hSc := secret_c w wr _ la X p.1 hS.out HX.out.1 (HKK.out _ _ hS.out).1 q3
          rw [q1, q2] at hSc
          clear hS q1 q2 q3 hp hat
          go_wp2_with fail
          refine hSc.mono ?_
          rintro e w6 ⟨rfl, S6⟩
          obtain ⟨_, p1⟩ := HAT.out _ _ S6
          have c12 : w6.cell? ⟨cb, 12, none⟩ = some (.slice (some ⟨g, og, none⟩) n cap) := (S6.boxGet k1m).cellv 12 _ HCL.out.2
          have HS6 := Keep.mk S6
          clear hSc S6 p0
          go_wp2_with fail
          go_roundw
          case rel => exact ⟨i + 1, by omega, rfl, HS6⟩
          case measure => simp [intOf]; omega
        · have hi1 : ¬ (i : Int) < (n : Nat) := by omega
          have hSc := secret_c w wr _ la X ⟨#[]⟩ hS.out HX.out.1 (HKK.out _ _ hS.out).1 (by decide)
          rw [new_empty HXX.out] at hSc
          clear hS
          go_wp2_with fail
          refine hSc.mono ?_
          rintro e w6 ⟨rfl, S6⟩
          have hNx := next_c w w6 _ la X S6
          rw [HX.out.2.2.2] at hNx
          have hLv := lives_c w w6 _ la X S6 HX.out.1 HX.out.2.1
          rw [HX.out.2.2.1] at hLv
          have HLV := Keep.mk hLv
          clear hSc S6 c12 hLv
          go_wp2_with fail
          refine hNx.mono ?_
          rintro e w7 ⟨rfl, hw7⟩
          subst hw7
          clear hNx
          go_wp2_with fail
          refine HLV.out.mono ?_
          rintro e w8 ⟨v8, rfl, S8⟩
          obtain ⟨a8, c8, hv8⟩ := own_slice (S8.rowGet k0m)
          have hv8 : v8 = .slice a8 0 c8 := hv8
          subst hv8
          have HG := Keep.mk S8.g
          clear S8 HLV
          go_wp2_with fail
          go_ret
          exact ⟨rfl, HG.out⟩
end Go.Proofs.YtplcicbpkbamnaaGreatDoor.Lo

