/- board: even, Parse. -/
import Derived.Test.YtmacmoikjgmaoaaDoorBA6
namespace Go.Proofs.YtmacmoikjgmaoaaDoor.Bo
open Go Go.RowKit

def lns (s : ByteArray) : Bo := rd (rn s) [] []
set_option maxRecDepth 100000 in
theorem wd_get {L : Bo} {l : List Int} (h : L[0]? = some l) : wd L = l.length := by
  cases L with
  | nil => cases h
  | cons a r => simp at h; subst h; rfl
set_option maxRecDepth 100000 in
set_option maxHeartbeats 8000000 in
set_option maxRecDepth 100000 in
theorem even_c (w : World) (v : Value) (L : Bo) (h : Ln w v L) : Calls Tryd.prog 26 #[v] w fun e w' => e = .returned (.bool (decide (ev L))) ∧ w' = w := by
  obtain ⟨a, c, rfl, hr⟩ := h
  have HF := Keep.mk (fun W n => fits_c W n)
  by_cases h1 : 3 ≤ L.length ∧ L.length ≤ 64
  · obtain ⟨l0, hl0⟩ : ∃ l0, L[0]? = some l0 := ⟨_, List.getElem?_eq_getElem (by omega)⟩
    obtain ⟨kr, rfl, b0, d0, q0, _⟩ := hr 0 l0 hl0
    have hw0 := wd_get hl0
    by_cases h2 : 3 ≤ l0.length ∧ l0.length ≤ 64
    · have HFA := Keep.mk (fun W => HF.out W L.length)
      have HFB := Keep.mk (fun W => HF.out W l0.length)
      rw [decide_eq_true h1] at HFA
      rw [decide_eq_true h2] at HFB
      have HEV : Keep (ev L ↔ ∀ l ∈ L, l.length = l0.length) := ⟨by
        unfold ev
        rw [hw0]
        exact ⟨fun q => q.2.2, fun q => ⟨h1, h2, q⟩⟩⟩
      have HR := Keep.mk hr
      obtain ⟨n, hn⟩ : ∃ n, L.length = n := ⟨_, rfl⟩
      rw [hn] at HFA h1
      have HN := Keep.mk hn
      rw [hn]
      obtain ⟨m, hm⟩ : ∃ m, l0.length = m := ⟨_, rfl⟩
      rw [hm] at HFB HEV q0
      have hn0 : (0 : Int) < (n : Int) := by omega
      clear hr hl0 hw0 h2 hn hm HF
      go_enter Tryd.func26, Tryd.ntmps26
      go_wp2_with fail
      refine (HFA.out _).mono ?_
      rintro e w1 ⟨rfl, rfl⟩
      go_wp2_with fail
      refine (HFB.out _).mono ?_
      rintro e w1 ⟨rfl, rfl⟩
      go_wp2_with fail
      go_loopw [19] (fun u wr => ∃ i : Nat, i ≤ n ∧ u = iv i ∧ wr = w1 ∧ Keep (∀ j l, j < i → L[j]? = some l → l.length = m)) (fun u _ => (n - intOf u).toNat)
      case atStart => exact ⟨0, by omega, rfl, rfl, ⟨fun j l hj => by omega⟩⟩
      case round =>
        obtain ⟨i, hi, rfl, rfl, hR⟩ := hrel
        by_cases hlt : i < n
        · obtain ⟨l, hl⟩ : ∃ l, L[i]? = some l := ⟨_, List.getElem?_eq_getElem (by rw [HN.out]; exact hlt)⟩
          obtain ⟨kr', e1, b, d, q1, _⟩ := HR.out i l hl
          injection e1 with e1
          injection e1 with e1
          subst e1
          have HL := Keep.mk hl
          have hi1 : (i : Int) < (n : Nat) := by omega
          have hti : ((i : Nat) : Int).toNat = i := by omega
          have hwi : IntKind.i64.wrap ((i : Int) + 1) = ((i + 1 : Nat) : Int) := by rw [wi _ (by omega) (by omega)]; omega
          obtain ⟨k, hk⟩ : ∃ k, l.length = k := ⟨_, rfl⟩
          rw [hk] at q1
          have HK := Keep.mk hk
          clear hl hk hlt hi
          by_cases hkm : k = m
          · subst hkm
            go_wp2_with fail
            go_roundw
            case rel =>
              refine ⟨i + 1, by omega, rfl, trivial, ⟨fun j l' hj hl' => ?_⟩⟩
              by_cases hji : j = i
              · subst hji; rw [HL.out] at hl'; cases hl'; exact HK.out
              · exact hR.out j l' (by omega) hl'
            case measure => simp [intOf]; omega
          · have HE : Keep (¬ ev L) := ⟨fun q => hkm (HK.out.symm.trans (HEV.out.1 q l (List.mem_of_getElem? HL.out)))⟩
            have hkm2 : (k : Int) ≠ (m : Int) := by omega
            clear hkm
            go_wp2_with fail
            go_ret
            exact ⟨by rw [decide_eq_false HE.out]; rfl, rfl⟩
        · have HE : Keep (ev L) := ⟨HEV.out.2 fun l hl => by
            obtain ⟨j, hj, e⟩ := List.mem_iff_getElem.1 hl
            exact hR.out j l (by rw [HN.out] at hj; omega) (List.getElem?_eq_some_iff.2 ⟨hj, e⟩)⟩
          have hge : (n : Int) ≤ (i : Int) := by omega
          go_wp2_with fail
          go_ret
          exact ⟨by rw [decide_eq_true HE.out]; rfl, rfl⟩
    · have HE : decide (ev L) = false := decide_eq_false fun q => h2 (by rw [← hw0]; exact q.2.1)
      rw [HE]
      have HFA := Keep.mk (fun W => HF.out W L.length)
      have HFB := Keep.mk (fun W => HF.out W l0.length)
      rw [decide_eq_true h1] at HFA
      rw [decide_eq_false h2] at HFB
      obtain ⟨n, hn⟩ : ∃ n, L.length = n := ⟨_, rfl⟩
      rw [hn] at HFA h1
      rw [hn]
      obtain ⟨m, hm⟩ : ∃ m, l0.length = m := ⟨_, rfl⟩
      rw [hm] at HFB q0
      have hn0 : (0 : Int) < (n : Int) := by omega
      clear hr hl0 hw0 h2 hn hm HF HE
      go_enter Tryd.func26, Tryd.ntmps26
      go_wp2_with fail
      refine (HFA.out _).mono ?_
      rintro e w1 ⟨rfl, rfl⟩
      go_wp2_with fail
      refine (HFB.out _).mono ?_
      rintro e w1 ⟨rfl, rfl⟩
      go_wp2_with fail
      go_ret
      exact ⟨rfl, rfl⟩
  · have HE : decide (ev L) = false := decide_eq_false fun q => h1 q.1
    rw [HE]
    have HFA := Keep.mk (fun W => HF.out W L.length)
    rw [decide_eq_false h1] at HFA
    clear hr h1 HF HE
    go_enter Tryd.func26, Tryd.ntmps26
    go_wp2_with fail
    refine (HFA.out _).mono ?_
    rintro e w1 ⟨rfl, rfl⟩
    go_wp2_with fail
    go_ret
    exact ⟨rfl, rfl⟩
set_option maxRecDepth 100000 in
theorem bd_of {w : World} {L : Bo} {a : Option Addr} {c kb : Nat} (he : ev L) (ho : oks L) (h : Ln w (.slice a L.length c) L) (hb : Has w kb [iv (wd L), iv L.length, .slice a L.length c] 63) : Bd w (pt kb) L := by
  obtain ⟨a', c', e, hr⟩ := h
  injection e with e1 e2 e3
  subst e1
  subst e3
  have h3 := he.1.1
  obtain ⟨l0, hl0⟩ : ∃ l0, L[0]? = some l0 := ⟨_, List.getElem?_eq_getElem (by omega)⟩
  obtain ⟨kr, rfl, _⟩ := hr 0 l0 hl0
  refine ⟨he, ho, kb, kr, c, rfl, hb.cellv 0 _ rfl, hb.cellv 1 _ rfl, hb.cellv 2 _ rfl, fun y l hl => ?_⟩
  obtain ⟨kr', e4, b, d, q1, q2⟩ := hr y l hl
  injection e4 with e4
  injection e4 with e4
  subst e4
  have hll := he.2.2 l (List.mem_of_getElem? hl)
  have h4 := he.2.1.1
  obtain ⟨u0, hu0⟩ : ∃ u, l[0]? = some u := ⟨_, List.getElem?_eq_getElem (by omega)⟩
  obtain ⟨k, rfl, _⟩ := q2 0 u0 hu0
  refine ⟨k, d, q1, fun x u hu => ?_⟩
  obtain ⟨k', e5, q3⟩ := q2 x u hu
  injection e5 with e5
  injection e5 with e5
  subst e5
  exact q3
set_option maxRecDepth 100000 in
set_option maxHeartbeats 8000000 in
set_option maxRecDepth 100000 in
theorem parse_c (w : World) (s : ByteArray) : Calls Tryd.prog 10 #[.string s] w fun e w' => w.grownBy w' none ∧ ((¬ ev (lns s) ∧ e = .returned (.tuple #[.pointer none, iv 140])) ∨ (ev (lns s) ∧ spn (lns s) = [] ∧ e = .returned (.tuple #[.pointer none, iv 141])) ∨ (ev (lns s) ∧ spn (lns s) ≠ [] ∧ ∃ v, e = .returned (.tuple #[v, iv 0]) ∧ Bd w' v (lns s))) := by
  have hR := read_c w s
  rw [show rd (rn s) [] [] = lns s from rfl] at hR
  have HO : Keep (oks (lns s)) := ⟨rd_oks0 _⟩
  generalize lns s = L at *
  go_enter Tryd.func10, Tryd.ntmps10
  go_wp2_with fail
  refine hR.mono ?_
  rintro e w1 ⟨v, rfl, g1, hL⟩
  have HG := Keep.mk g1
  have HL := Keep.mk hL
  have hE := even_c w1 v L hL
  clear hR g1 hL
  by_cases he : ev L
  · rw [decide_eq_true he] at hE
    obtain ⟨a, c, rfl, hr⟩ := HL.out
    have h3 := he.1.1
    obtain ⟨l0, hl0⟩ : ∃ l0, L[0]? = some l0 := ⟨_, List.getElem?_eq_getElem (by omega)⟩
    obtain ⟨kr, rfl, b0, d0, q0, _⟩ := hr 0 l0 hl0
    rw [← wd_get hl0] at q0
    have g2 := World.grownBy_alloc w1 (.cells #[iv (wd L), iv L.length, .slice (some ⟨kr, 0, none⟩) L.length c] 63) none
    have hB := bd_of he HO.out (HL.out.kept g2) (Has.newA w1 #[iv (wd L), iv L.length, .slice (some ⟨kr, 0, none⟩) L.length c] 63)
    have HE := Keep.mk he
    have hl3 : (0 : Int) < (L.length : Nat) := by omega
    clear hr hl0 he HL h3
    have hS := spawns_c _ _ _ hB
    have HB := Keep.mk hB
    have HG2 := Keep.mk (HG.out.trans g2)
    clear hB g2 HG
    obtain ⟨W2, hW2⟩ : ∃ W2, w1.alloc (.cells #[iv (wd L), iv L.length, .slice (some ⟨kr, 0, none⟩) L.length c] 63) = W2 := ⟨_, rfl⟩
    rw [hW2] at hS HB HG2
    obtain ⟨n, hn⟩ : ∃ n, L.length = n := ⟨_, rfl⟩
    obtain ⟨m, hm⟩ : ∃ m, wd L = m := ⟨_, rfl⟩
    rw [hn] at hl3 hE hW2
    rw [hm] at q0 hW2
    rw [hn]
    clear hn hm
    go_wp2_with fail
    refine hE.mono ?_
    rintro e w2 ⟨rfl, rfl⟩
    clear hE
    go_wp2_with fail
    refine hS.mono ?_
    rintro e w3 ⟨u, rfl, S⟩
    obtain ⟨a', c', rfl⟩ := own_slice (S.rowGet k0m)
    have HG3 := Keep.mk (HG2.out.trans S.g)
    have HB3 := Keep.mk (HB.out.kept S.g)
    clear hS S HB HG2
    by_cases h0 : spn L = []
    · have HS := Keep.mk h0
      rw [h0]
      clear h0
      go_wp2_with fail
      go_ret2
      exact ⟨HG3.out, .inr (.inl ⟨HE.out, HS.out, rfl⟩)⟩
    · have HS := Keep.mk h0
      have h1 : ((spn L).length : Int) ≠ 0 := by have := List.length_pos_iff.2 h0; omega
      clear h0
      go_wp2_with fail
      go_ret2
      exact ⟨HG3.out, .inr (.inr ⟨HE.out, HS.out, _, rfl, HB3.out⟩)⟩
  · rw [decide_eq_false he] at hE
    have HE := Keep.mk he
    clear he
    go_wp2_with fail
    refine hE.mono ?_
    rintro e w2 ⟨rfl, rfl⟩
    clear hE
    go_wp2_with fail
    go_ret2
    exact ⟨HG.out, .inl ⟨HE.out, rfl⟩⟩
end Go.Proofs.YtmacmoikjgmaoaaDoor.Bo
