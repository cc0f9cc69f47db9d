import Derived.Test.YtjbkoablleneeaaGreatDoorX17
import Derived.Test.YtjbkoablleneeaaGreatDoorX19
import Derived.Test.YtjbkoablleneeaaGreatDoorX20
/- kept, reads -/
namespace Go.Proofs.YtjbkoablleneeaaGreatDoor.Pk
open Go Go.RowKit

theorem tl_encs (l : List En) : tl l ≤ 2 * (encs l).length := by
  induction l with
  | nil => simp [tl]
  | cons e r ih =>
    have : encs (e :: r) = e.enc ++ encs r := rfl
    rw [this, List.length_append, enc_len, tl]; omega
theorem len_encs (l : List En) : l.length ≤ (encs l).length := by
  induction l with
  | nil => simp
  | cons e r ih =>
    have : encs (e :: r) = e.enc ++ encs r := rfl
    rw [this, List.length_append, enc_len, List.length_cons]; omega
set_option maxRecDepth 100000 in
set_option maxHeartbeats 8000000 in
theorem kept_c (g n q : Nat) (a : Option Addr) (c : Nat) (L : List En) (w : World) (h1 : Es w (some ⟨g, 0, none⟩) (n + 2) q (L ++ [m77, m78])) (h2 : Es w a n c L) (hn : n ≤ 1048576) :
    Calls Tryz.prog 10 #[.slice (some ⟨g, 0, none⟩) n q, .slice a n c] w fun e w' => e = .returned (.bool true) ∧ w.grownBy w' none := by
  have hln := h2.len
  have h3 : Es w (some ⟨g, 0, none⟩) n q L := by
    have := h1.sub (m := n) (by omega)
    rwa [List.take_append_of_le_length (by omega), List.take_of_length_le (by omega)] at this
  have HS := Keep.mk (same_c (some ⟨g, 0, none⟩) a n q c L w h3 h2 (by omega))
  have HC : Keep (∀ W : World, w.grownBy W none → W.cell? ⟨g, n * 8, none⟩ = some (iv 77) ∧ W.cell? ⟨g, (n + 1) * 8, none⟩ = some (iv 78)) := ⟨fun W hg => by
    have e1 := (h1.kept hg).cells (i := n) (x := m77) (by rw [List.getElem?_append_right (by omega), hln, Nat.sub_self]; rfl)
    have e2 := (h1.kept hg).cells (i := n + 1) (x := m78) (by rw [List.getElem?_append_right (by omega), hln, Nat.add_sub_cancel_left]; rfl)
    have f1 := e1 0 _ rfl
    have f2 := e2 0 _ rfl
    rw [Nat.zero_add, Nat.add_zero] at f1 f2
    exact ⟨f1, f2⟩⟩
  have hcap := h1.cap
  have hs1 := sl22 (some ⟨g, 0, none⟩) n q (n + 1) (by omega)
  have hs2 := sl22 (some ⟨g, 0, none⟩) n q (n + 2) (by omega)
  have k1 : (n : Int) + 1 ≤ (q : Int) := by omega
  have k2 : (n : Int) + 2 ≤ (q : Int) := by omega
  clear h1 h2 h3
  go_enter Tryz.func10, Tryz.ntmps10
  go_wp2_with fail
  refine HS.out.mono ?_
  rintro e w1 ⟨rfl, g1⟩
  have HG := Keep.mk g1
  obtain ⟨c1, c2⟩ := HC.out w1 g1
  clear g1 HS HC
  go_wp2
  go_ret
  exact ⟨rfl, HG.out⟩
set_option maxRecDepth 100000 in
set_option maxHeartbeats 8000000 in
theorem reads_c (t : List UInt8) (w : World) (hk : Kc w) (hr : RK w) (h4 : 4 ≤ w.heap.size) (ht : t.length ≤ 1073741824) :
    Calls Tryz.prog 13 #[.string (ba t)] w fun e w' => e = .returned (.bool true) ∧ w.grownBy w' none := by
  rcases hq : rdS Sha.sha t with ⟨L, E⟩
  have HRD := Keep.mk (read_c t w hk (by omega))
  have HRR : Keep (∀ W : World, w.grownBy W none → Calls Tryz.prog 39 #[.string (ba t)] W fun e w' => ∃ v, e = .returned (.tuple #[v, .int .i64 (rdS Sha.sha t).2]) ∧ Rw w' W.heap.size v (rdS Sha.sha t).1 ∧ W.grownBy w' none) := ⟨fun W g => rread_c t W (hr.kept g) (Nat.le_trans h4 g.size) (by omega)⟩
  rw [hq] at HRD HRR
  dsimp only at HRD HRR
  have HK := Keep.mk hk
  have HW : Keep (E = 0 → (∀ e ∈ L, e.Ok) ∧ wBody L = some (t.take (t.length - 32)) ∧ wrS Sha.sha L = t ∧ tl L ≤ 1099511627776 ∧ L.length ≤ 1073741824) := ⟨fun z => by
    subst z
    obtain ⟨q1, q2, q3, q4⟩ := wr_rd Sha.sha t L hq
    refine ⟨q1, q3, q4, ?_, ?_⟩
    · rw [wBody_eq L q1 q2] at q3
      split at q3
      · have e := congrArg List.length (Option.some.inj q3)
        have h1 := tl_encs L
        simp only [List.length_append, be_len, List.length_take] at e
        omega
      · cases q3
    · rw [wBody_eq L q1 q2] at q3
      split at q3
      · have e := congrArg List.length (Option.some.inj q3)
        have h1 := len_encs L
        simp only [List.length_append, be_len, List.length_take] at e
        omega
      · cases q3⟩
  have HLE : Keep (L.length ≤ 1073741824) := ⟨by
    by_cases z : E = 0
    · exact (HW.out z).2.2.2.2
    · have hnil : L = [] := by
        have hq2 := hq
        unfold rdS at hq2
        split at hq2
        · exact (Prod.mk.inj hq2).1.symm
        · split at hq2
          · unfold rAll rFin at hq2
            split at hq2
            · exact (Prod.mk.inj hq2).1.symm
            · split at hq2
              · exact absurd (Prod.mk.inj hq2).2.symm z
              · exact (Prod.mk.inj hq2).1.symm
          · exact (Prod.mk.inj hq2).1.symm
      rw [hnil]; exact Nat.zero_le _⟩
  obtain ⟨T, hT⟩ : ∃ T, ba t = T := ⟨_, rfl⟩
  have HT := Keep.mk hT
  rw [hT] at HRD HRR ⊢
  clear hq hk hr hT
  go_enter Tryz.func13, Tryz.ntmps13
  go_wp2_with fail
  refine HRD.out.mono ?_
  rintro e w1 ⟨v1, rfl, r1, g1⟩
  have HC2 := Keep.mk (HRR.out w1 g1)
  obtain ⟨a1, c1, rfl, es1, _⟩ := r1.es
  have H1 := Keep.mk (And.intro g1 es1)
  clear r1 g1 es1 HRD HRR
  go_wp2_with fail
  refine HC2.out.mono ?_
  rintro e w2 ⟨v2, rfl, r2, g2⟩
  obtain ⟨a2, c2, rfl, es2, _⟩ := r2.es
  have H2 : Keep (w.grownBy w2 none ∧ Es w2 a1 L.length c1 L ∧ Es w2 a2 L.length c2 L) := ⟨H1.out.1.trans g2, H1.out.2.kept g2, es2⟩
  clear r2 g2 es2 HC2 H1
  go_wp2_with fail
  refine (same_c a1 a2 L.length c1 c2 L _ H2.out.2.1 H2.out.2.2 HLE.out).mono ?_
  rintro e w3 ⟨rfl, g3⟩
  have H3 : Keep (w.grownBy w3 none ∧ Es w3 a1 L.length c1 L) := ⟨H2.out.1.trans g3, H2.out.2.1.kept g3⟩
  clear g3 H2
  by_cases z : E = 0
  · obtain ⟨o1, o2, o3, o4, o5⟩ := HW.out z
    have HWC := Keep.mk (write_c a1 L.length c1 L w3 H3.out.2 o1 (HK.out.kept H3.out.1 (by simp)) o5 o4)
    rw [o2, o3, HT.out] at HWC
    subst z
    clear o1 o2 o3 o4 o5 HW
    go_wp2_with fail
    refine HWC.out.mono ?_
    rintro e w4 ⟨rfl, g4⟩
    have H4 := Keep.mk (H3.out.1.trans g4)
    clear g4
    rw [show werr (some (t.take (t.length - 32))) = 0 from rfl]
    go_wp2
    go_ret
    exact ⟨by simp, H4.out⟩
  · clear HW
    go_wp2
    go_ret
    exact ⟨rfl, H3.out.1⟩
end Go.Proofs.YtjbkoablleneeaaGreatDoor.Pk

