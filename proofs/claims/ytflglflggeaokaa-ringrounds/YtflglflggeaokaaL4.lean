/- RingRounds' walk. -/
import Derived.Test.YtflglflggeaokaaI4
import Derived.Test.YtflglflggeaokaaB2
import Derived.Deep.RegionHeld
import Derived.Laws.EntriesVeiled
import Derived.Stop.RegionWithIn
namespace Go.Proofs.Ytflglflggeaokaa
open Go Go.RowKit Go.Shelf
attribute [local go_sem] Oper.semAt_some

theorem Ints.cellAt {w : World} {B o n : Nat} {xs : List Int} (h : Ints w (some ⟨B, o, none⟩) n xs) {W : World} (g : w.grownBy W none) {j : Nat} {x : Int} (hx : xs[j]? = some x) : W.cell? ⟨B, o + j, none⟩ = some (.int .i64 x) := by
  have hj : j < xs.length := (List.getElem?_eq_some_iff.1 hx).1
  obtain ⟨B', o', e, hc⟩ := (h.kept g).at_ (by have := h.len; omega)
  cases e
  exact hc j x hx
theorem Ints.some_at {w : World} {a : Option Addr} {n : Nat} {xs : List Int} (h : Ints w a n xs) (hn : 0 < n) : ∃ B o, a = some ⟨B, o, none⟩ := by
  obtain ⟨B, o, e, _⟩ := h.at_ hn
  exact ⟨B, o, e⟩

set_option maxRecDepth 100000 in
set_option maxHeartbeats 16000000 in
theorem rounds_walk (a : Option Addr) (n c : Nat) (am : Option Addr) (nm cm : Nat) (l more : List Int) (w : World) (hl : Ints w a n l) (hm : Ints w am nm more) (hn : n ≤ 9223372036854775807) (hnm : nm ≤ 9223372036854775807) (hsum : n + nm ≤ 9223372036854775807) :
    Calls Try.prog 5 #[.slice a n c, .slice am nm cm] w fun e w' => e = .returned (.bool true) ∧ w.grownBy w' none := by
  have HS : Keep (Ints w a n l ∧ l.length = n) := ⟨hl, hl.len⟩
  have HM : Keep (Ints w am nm more ∧ more.length = nm) := ⟨hm, hm.len⟩
  clear hl hm
  refine calls_of_wpN Try.func5 rfl ?_
  simp only [Try.ntmps5, List.size_toArray, List.length_cons, List.length_nil, Nat.reduceAdd, Nat.reduceSub, Array.replicate_succ, Array.replicate_zero, List.push_toArray, List.append_toArray, List.nil_append, List.cons_append]
  gi_wp2_with fail
  obtain ⟨w0, hw0⟩ : ∃ w0, ((w.alloc (.cells #[.slice a n c] 22)).alloc (.cells #[.slice am nm cm] 22)).alloc (.cells #[.bool false] 4) = w0 := ⟨_, rfl⟩
  have H0 : Keep (Has w0 w.heap.size [.slice a n c] 22 ∧ Has w0 (w.heap.size + 1) [.slice am nm cm] 22 ∧ Has w0 (w.heap.size + 2) [.bool false] 4 ∧ w.grownBy w0 none ∧ w0.heap.size = w.heap.size + 3) := by
    rw [← hw0]
    refine ⟨((Has.newA w _ 22).alloc _).alloc _, ?_, ?_, ((World.grownBy_alloc _ _ _).trans (World.grownBy_alloc _ _ _)).trans (World.grownBy_alloc _ _ _), by simp⟩
    · have := (Has.newA (w.alloc (.cells #[.slice a n c] 22)) #[.slice am nm cm] 22).alloc (.cells #[.bool false] 4)
      rwa [World.size_alloc] at this
    · have := Has.newA ((w.alloc (.cells #[.slice a n c] 22)).alloc (.cells #[.slice am nm cm] 22)) #[.bool false] 4
      rwa [World.size_alloc, World.size_alloc] at this
  rw [hw0]
  clear hw0
  refine ⟨trivial, (callsIn_wide.2 (alive_c w0)).mono ?_⟩
  rintro e w1 ⟨rfl, g1⟩
  obtain ⟨bL, hbL⟩ : ∃ bL, w.heap.size = bL := ⟨_, rfl⟩
  obtain ⟨bM, hbM⟩ : ∃ bM, bL + 1 = bM := ⟨_, rfl⟩
  obtain ⟨bR, hbR⟩ : ∃ bR, bM + 1 = bR := ⟨_, rfl⟩
  have H1 : Keep (Has w1 bL [.slice a n c] 22 ∧ Has w1 bM [.slice am nm cm] 22 ∧ Has w1 bR [.bool false] 4 ∧ w.grownBy w1 none ∧ bL = w.heap.size ∧ bM = w.heap.size + 1 ∧ bR = w.heap.size + 2) := by
    obtain ⟨q1, q2, q3, q4, q5⟩ := H0.out
    rw [hbL] at q1
    rw [show w.heap.size + 1 = bM by omega] at q2
    rw [show w.heap.size + 2 = bR by omega] at q3
    exact ⟨q1.kept g1 (by simp), q2.kept g1 (by simp), q3.kept g1 (by simp), q4.trans g1, by omega, by omega, by omega⟩
  simp only [hbL]
  simp only [hbM]
  simp only [hbR]
  clear H0 g1 hbL hbM hbR
  have cL : w1.cell? ⟨bL, 0, none⟩ = some (.slice a n c) := H1.out.1.cellv 0 _ rfl
  have cM : w1.cell? ⟨bM, 0, none⟩ = some (.slice am nm cm) := H1.out.2.1.cellv 0 _ rfl
  obtain ⟨d, hd⟩ : ∃ d : Int, (n : Int) + nm = d := ⟨_, rfl⟩
  have hwd : IntKind.i64.wrap d = d := wi _ (by omega) (by omega)
  by_cases hbig : 2000 < d
  · gi_wp2_with fail
    refine ⟨trivial, (callsIn_wide.2 (alive_c w1)).mono ?_⟩
    rintro e w2 ⟨rfl, g2⟩
    have H2 : Keep (Has w2 bR [.bool false] 4 ∧ w.grownBy w2 none ∧ bR = w.heap.size + 2) := ⟨H1.out.2.2.1.kept g2 (by simp), H1.out.2.2.2.1.trans g2, H1.out.2.2.2.2.2.2⟩
    have c2 : w2.cell? ⟨bR, 0, none⟩ = some (.bool false) := H2.out.1.cellv 0 _ rfl
    have f2 : w2.frozen? ⟨bR, 0, none⟩ = false := H2.out.1.frozen _
    clear g2 H1 cL cM
    gi_wp2_with fail
    refine leaves_retN (p := 4) rfl bR true rfl w _ [] rfl (by simp) (by simp) (H2.out.1.setCell 0 _) (gr_new H2.out.2.1 (gr_set _ _ _ _) (by have := H2.out.2.2; omega))
  · obtain ⟨sz, hsz⟩ : ∃ sz : Nat, d + 1 = sz := ⟨n + nm + 1, by omega⟩
    have hws : IntKind.i64.wrap sz = sz := wi _ (by omega) (by omega)
    have hsz1 : 1 ≤ sz := by omega
    have hsz2 : sz ≤ 4096 := by omega
    have HSZ : Keep (sz = n + nm + 1) := ⟨by omega⟩
    gi_wp2_with fail
    refine ⟨trivial, (callsIn_wide.2 (new_yes sz w1 hsz1 hsz2)).mono ?_⟩
    rintro e w2 ⟨rfl, r2, g2, s2⟩
    have H2 : Keep (RS w w2 w1.heap.size sz [] [(bR, .bool false, 4), (bM, .slice am nm cm, 22), (bL, .slice a n c, 22)] [] ∧ w1.heap.size < w2.heap.size) := by
      obtain ⟨q1, q2, q3, q4, q5, q6, q7⟩ := H1.out
      have k1 := q1.lt
      have k2 := q2.lt
      have k3 := q3.lt
      have k4 := q4.size
      refine Keep.mk ⟨RS.mk ⟨_, r2, fun p hp e => ?_, fun i e => ?_⟩ (fun p hp => ?_) (fun p hp => ?_) (fun D hD => by cases hD) (q4.trans g2), by omega⟩
      · rcases e with e | e
        · simp at hp; rcases hp with rfl | rfl | rfl <;> simp only at e <;> omega
        · cases e
      · rcases e with e | e
        · omega
        · cases e
      · simp at hp
        rcases hp with rfl | rfl | rfl
        · exact q3.kept g2 (by simp)
        · exact q2.kept g2 (by simp)
        · exact q1.kept g2 (by simp)
      · simp at hp; rcases hp with rfl | rfl | rfl <;> simp only <;> omega
    have c2 := (H2.out.1.cell bL (.slice a n c) 22 (by simp)).1
    clear r2 g2 s2 H1 cL cM
    generalize w1.heap.size = rb at *
    gi_wp2_with fail
    have h3 := H2.out.1.add (.pointer (some ⟨rb, 0, none⟩)) 24
    have hb3 : w2.heap.size < (w2.alloc (.cells #[.pointer (some ⟨rb, 0, none⟩)] 24)).heap.size := by simp
    have hrb3 : rb < w2.heap.size := H2.out.2
    have hX3 : ∀ p ∈ [(bR, Value.bool false, 4), (bM, Value.slice am nm cm, 22), (bL, Value.slice a n c, 22)], p.1 < w2.heap.size := fun p hp => (H2.out.1.x p hp).lt
    obtain ⟨w3, hw3⟩ : ∃ w3, w2.alloc (.cells #[.pointer (some ⟨rb, 0, none⟩)] 24) = w3 := ⟨_, rfl⟩
    rw [hw3] at h3 hb3 ⊢
    obtain ⟨bP, hbP⟩ : ∃ bP, w2.heap.size = bP := ⟨_, rfl⟩
    simp only [hbP] at h3 hb3 hX3 hrb3 ⊢
    clear hw3 hbP c2 H2
    refine ⟨trivial, (callsIn_wide.2 (all_c rb w3)).mono ?_⟩
    rintro e w4 ⟨rfl, hw4⟩
    have h4 := h3.add (.pointer (some ⟨rb, 0, none⟩)) 24
    have hb4 : w3.heap.size < w4.heap.size := by rw [hw4]; simp
    rw [← hw4] at h4
    obtain ⟨Bn, hBn⟩ : ∃ Bn, w3.heap.size = Bn := ⟨_, rfl⟩
    rw [hBn] at h4 hb3 hb4 ⊢
    clear hw4 hBn h3
    have H4 : Keep (RS w w4 rb sz [] [(Bn, .pointer (some ⟨rb, 0, none⟩), 24), (bP, .pointer (some ⟨rb, 0, none⟩), 24), (bR, .bool false, 4), (bM, .slice am nm cm, 22), (bL, .slice a n c, 22)] []) := ⟨h4⟩
    clear h4
    gi_wp2_with fail
    have h5 := H4.out.add (.func (.func 31) #[] #[.pointer (some ⟨Bn, 0, none⟩)]) 46
    have hb5 : w4.heap.size < (w4.alloc (.cells #[.func (.func 31) #[] #[.pointer (some ⟨Bn, 0, none⟩)]] 46)).heap.size := by simp
    obtain ⟨w5, hw5⟩ : ∃ w5, w4.alloc (.cells #[.func (.func 31) #[] #[.pointer (some ⟨Bn, 0, none⟩)]] 46) = w5 := ⟨_, rfl⟩
    rw [hw5] at h5 hb5 ⊢
    obtain ⟨bA, hbA⟩ : ∃ bA, w4.heap.size = bA := ⟨_, rfl⟩
    simp only [hbA] at h5 hb5 hb4 ⊢
    obtain ⟨X, hX⟩ : ∃ X : List (Nat × Value × TypeId), X = [(bA, .func (.func 31) #[] #[.pointer (some ⟨Bn, 0, none⟩)], 46), (Bn, .pointer (some ⟨rb, 0, none⟩), 24), (bP, .pointer (some ⟨rb, 0, none⟩), 24), (bR, .bool false, 4), (bM, .slice am nm cm, 22), (bL, .slice a n c, 22)] := ⟨_, rfl⟩
    rw [← hX] at h5
    have H5 : Keep (RS w w5 rb sz [] X []) := ⟨h5⟩
    have HX : Keep (X = [(bA, .func (.func 31) #[] #[.pointer (some ⟨Bn, 0, none⟩)], 46), (Bn, .pointer (some ⟨rb, 0, none⟩), 24), (bP, .pointer (some ⟨rb, 0, none⟩), 24), (bR, .bool false, 4), (bM, .slice am nm cm, 22), (bL, .slice a n c, 22)]) := ⟨hX⟩
    have HB : Keep (rb < bP ∧ bR < bP ∧ bM < bP ∧ bL < bP ∧ bP < Bn ∧ Bn < bA) := ⟨hrb3, hX3 (bR, .bool false, 4) (by simp), hX3 (bM, .slice am nm cm, 22) (by simp), hX3 (bL, .slice a n c, 22) (by simp), hb3, hb4⟩
    clear H4 h5 hX hX3 hrb3 hb3 hb4 hb5 hw5 hbA
    gi_loopw [8] (fun u wr => ∃ i : Int, 0 ≤ i ∧ i ≤ n ∧ u = .int .i64 i ∧ Keep (RS w wr rb sz (l.take i.toNat) X [])) (fun u _ => (n - (intOf u)).toNat)
    case atStart => exact ⟨0, by omega, by omega, rfl, H5⟩
    case round =>
      obtain ⟨i, hi0, hi1, rfl, hF⟩ := hrel
      clear H5
      have cL := (hF.out.cell bL (.slice a n c) 22 (by rw [HX.out]; simp)).1
      have cP := (hF.out.cell bP (.pointer (some ⟨rb, 0, none⟩)) 24 (by rw [HX.out]; simp)).1
      by_cases hlt : i < n
      · obtain ⟨B, o, rfl⟩ := HS.out.1.some_at (by omega)
        obtain ⟨x, hx⟩ : ∃ x, l[i.toNat]? = some x := ⟨_, List.getElem?_eq_getElem (by rw [HS.out.2]; omega)⟩
        have e2 := HS.out.1.cellAt hF.out.g hx
        have hwi : IntKind.i64.wrap (i + 1) = i + 1 := wi _ (by omega) (by omega)
        have HQ : Keep (l.take i.toNat ++ [x] = l.take (i.toNat + 1)) := ⟨by obtain ⟨q, e⟩ := List.getElem?_eq_some_iff.1 hx; rw [List.take_succ_eq_append_getElem q, e]⟩
        have HP : Keep (∀ k, Calls Try.prog 11 #[.pointer (some ⟨rb, 0, none⟩), .int .i64 x] (wr.drewN k) fun e w' => e = .returned (.int .i64 0) ∧ RS w w' rb sz (l.take (i.toNat + 1)) X []) := by
          refine ⟨fun k => (rs_push (hF.out.grown (gr_drewN wr k none)) [rb] (by simp) x (by rw [List.length_take, HS.out.2, HSZ.out]; omega)).mono ?_⟩
          rintro e w' ⟨rfl, h, _⟩
          rw [HQ.out] at h
          exact ⟨rfl, h⟩
        clear hx HQ
        gi_wp2_with fail
        gi_region_with ((refine ⟨trivial, ?_⟩; gi_at_call 11; refine (callsIn_wide.2 (HP.out 1)).mono ?_; rintro e w6 ⟨rfl, h6⟩))
        all_goals
          have H6 : Keep (RS w w6 rb sz (l.take (i.toNat + 1)) X []) := ⟨h6⟩
          clear h6
          gi_wp2_with fail
          refine ⟨⟨i + 1, by omega, by omega, rfl, ?_⟩, by simp only [intOf]; omega⟩
          rw [show (i + 1).toNat = i.toNat + 1 by omega]
          exact H6
      · have H6 : Keep (RS w wr rb sz l X []) := ⟨by have := hF.out; rwa [List.take_of_length_le (by rw [HS.out.2]; omega)] at this⟩
        have cA := (hF.out.cell bA (.func (.func 31) #[] #[.pointer (some ⟨Bn, 0, none⟩)]) 46 (by rw [HX.out]; simp)).1
        have cA2 : (wr.alloc (.cells #[.int .i64 0] 3)).cell? ⟨bA, 0, none⟩ = some (.func (.func 31) #[] #[.pointer (some ⟨Bn, 0, none⟩)]) := by rw [World.cell?_alloc_some _ _ _ (by rw [cA]; rfl), cA]
        clear hF cP hi0 hi1
        gi_wp2_with fail
        clear cL cA cA2 hlt
        have h7 := H6.out.add (.int .i64 0) 3
        have HXlt : ∀ p ∈ X, p.1 < wr.heap.size := fun p hp => (H6.out.x p hp).lt
        have hrbl : rb < wr.heap.size := by obtain ⟨v, r, _⟩ := H6.out.e; exact r.lt rb (.inl rfl)
        have hnb0 : wr.heap.size < (wr.alloc (.cells #[.int .i64 0] 3)).heap.size := by simp
        obtain ⟨w7, hw7⟩ : ∃ w7, wr.alloc (.cells #[.int .i64 0] 3) = w7 := ⟨_, rfl⟩
        rw [hw7] at h7 hnb0 ⊢
        obtain ⟨nb, hnb⟩ : ∃ nb, wr.heap.size = nb := ⟨_, rfl⟩
        simp only [hnb] at h7 hnb0 HXlt hrbl ⊢
        clear hw7 hnb H6
        have H7 : Keep (RS w w7 rb sz l ((nb, .int .i64 0, 3) :: X) [] ∧ nb < w7.heap.size ∧ rb < nb ∧ ∀ p ∈ X, p.1 < nb) := ⟨h7, hnb0, hrbl, HXlt⟩
        clear h7 hnb0 hrbl HXlt
        rename World => w7
        obtain ⟨v7, r7, _, _⟩ := H7.out.1.e
        have hrfW : ∀ f ∈ [(⟨rb, 1, none⟩ : Addr)], f.block < w7.heap.size := fun f hf => by rw [List.mem_singleton] at hf; subst hf; have := H7.out.2; simp only; omega
        have hfoot : ∀ f ∈ [(⟨rb, 1, none⟩ : Addr)], f.block < w7.heap.size ∧ ∀ u, w7.cell? f = some u → ∀ b, Value.ownBlock u = some b → b < w7.heap.size := fun f hf => by
          refine ⟨hrfW f hf, fun u hu b hb => ?_⟩
          rw [List.mem_singleton] at hf
          subst hf
          obtain ⟨ff, P, hh, _⟩ := r7.st
          have c : w7.cell? ⟨rb, 1, none⟩ = some v7 := hh.cellv 1 _ rfl
          rw [c] at hu
          cases hu
          exact r7.lt b (.inr hb)
        have hw7s : w.heap.size ≤ w7.heap.size := H7.out.1.g.size
        refine wpIn_rangeFunc_ownG (α := Nat) (n := 8) rfl (by decide) (gf := 31) (lb := #[.pointer (some ⟨Bn, 0, none⟩)]) rfl trivial (enters_of Try.func31 (by kernel_rfl) rfl)
          (all_stops 7 Bn rb v7 sz l [rb, nb] [⟨rb, 1, none⟩] w7 (by decide) (H7.out.1.cell Bn (.pointer (some ⟨rb, 0, none⟩)) 24 (by rw [HX.out]; simp)).1 r7 (fun b hb => by have := H7.out.2; simp at hb; rcases hb with rfl | rfl <;> omega) hfoot)
          Kp.trans (kp_b hrfW) (Below.refl _ _) (by exact fun _ => rfl)
          (fun pre W => pre = List.range pre.length ∧ RS w W rb sz (if pre.length = 0 then l else more) ((nb, .int .i64 pre.length, 3) :: X) [])
          (fun _ pre _ => ¬ (pre = List.range pre.length))
          (OwnFrom.and (ownFrom_pure _ _) (RS.own (fun (pre : List Nat) => if pre.length = 0 then l else more) (fun (pre : List Nat) => (nb, .int .i64 pre.length, 3) :: X) [] hw7s (fun D hD => by cases hD)))
          (fun _ => ownFrom_pure _ _)
          ⟨rfl, H7.out.1⟩ ?a1 ?assign ?body ?done ?stop
        case assign =>
          intro lp x W K hK
          gi_wp2
          exact hK
        case body =>
          rintro lp pre x W ⟨hpre, hI⟩ hlen
          have HI : Keep (RS w W rb sz (if pre.length = 0 then l else more) ((nb, .int .i64 pre.length, 3) :: X) []) := ⟨hI⟩
          have HPRE : Keep (pre = List.range pre.length) := ⟨hpre⟩
          clear hI hpre
          obtain ⟨m, hm⟩ : ∃ m, pre.length = m := ⟨_, rfl⟩
          have HMM : Keep (pre.length = m) := ⟨hm⟩
          rw [hm] at HI hlen
          have hmn : m < n := by rw [HS.out.2] at hlen; exact hlen
          clear hm hlen
          have cN := (HI.out.cell nb (.int .i64 m) 3 (by simp)).1
          have fN := (HI.out.cell nb (.int .i64 m) 3 (by simp)).2
          have cL := (HI.out.cell bL (.slice a n c) 22 (by rw [HX.out]; simp)).1
          by_cases hxm : x = m
          · subst hxm
            obtain ⟨B, o, rfl⟩ := HS.out.1.some_at (by omega)
            obtain ⟨y, hy⟩ : ∃ y, l[x]? = some y := ⟨_, List.getElem?_eq_getElem (by rw [HS.out.2]; omega)⟩
            have e2 := HS.out.1.cellAt HI.out.g hy
            rw [hy]
            simp only [Option.getD_some]
            have hwi : IntKind.i64.wrap ((x : Int) + 1) = x + 1 := wi _ (by omega) (by omega)
            have hne : ∀ p ∈ X, p.1 ≠ nb := fun p hp => by have := H7.out.2.2.2 p hp; omega
            have HN : Keep (RS w (W.setCell ⟨nb, 0, none⟩ (.int .i64 ((x : Int) + 1))) rb sz (if x = 0 then l else more) ((nb, .int .i64 ((x : Int) + 1), 3) :: X) [] ∧ Did [rb, nb] [⟨rb, 1, none⟩] W (W.setCell ⟨nb, 0, none⟩ (.int .i64 ((x : Int) + 1)))) :=
              ⟨HI.out.put hne _, Did.set (HI.out.x (nb, .int .i64 x, 3) (by simp)) (by simp) (fun f hf => by rw [List.mem_singleton] at hf; subst hf; have := H7.out.2.2.1; simp only; omega) _⟩
            by_cases hx0 : x = 0
            · have hx1 : ((x : Int) == 0) = true := by simp; omega
              have HN1 : Keep (RS w (W.setCell ⟨nb, 0, none⟩ (.int .i64 ((x : Int) + 1))) rb sz l ((nb, .int .i64 ((x : Int) + 1), 3) :: X) []) := ⟨by have := HN.out.1; rwa [if_pos hx0] at this⟩
              have HX0 : Keep (x = 0) := ⟨hx0⟩
              have cL2 := (HN1.out.cell bL (.slice (some ⟨B, o, none⟩) n c) 22 (by rw [HX.out]; simp)).1
              have cP2 := (HN1.out.cell bP (.pointer (some ⟨rb, 0, none⟩)) 24 (by rw [HX.out]; simp)).1
              clear hx0
              gi_wp2_with fail
              refine ⟨trivial, (CallsIn.inRound lp (callsIn_wide.2 (rs_take HN1.out [rb, nb] (by simp) (n : Int) n (by rw [HS.out.2]; omega)))).mono ?_⟩
              rintro e W3 ⟨rfl, h3, d3⟩
              rw [List.drop_of_length_le (by rw [HS.out.2]; exact Nat.le_refl _)] at h3
              have H3 : Keep (RS w W3 rb sz [] ((nb, .int .i64 ((x : Int) + 1), 3) :: X) [] ∧ Did [rb, nb] [⟨rb, 1, none⟩] W W3) := ⟨h3, HN.out.2.trans d3⟩
              clear h3 d3 HN HN1 cL2 cP2 HI cN fN cL e2
              gi_wp2_with fail
              gi_loopw [12] (fun u wr => ∃ i : Int, 0 ≤ i ∧ i ≤ nm ∧ u = .int .i64 i ∧ Keep (RS w wr rb sz (more.take i.toNat) ((nb, .int .i64 ((x : Int) + 1), 3) :: X) [] ∧ Did [rb, nb] [⟨rb, 1, none⟩] W wr)) (fun u _ => (nm - (intOf u)).toNat)
              case atStart => exact ⟨0, by omega, by omega, rfl, H3⟩
              case round =>
                obtain ⟨j, hj0, hj1, rfl, hF⟩ := hrel
                clear H3
                have cM := (hF.out.1.cell bM (.slice am nm cm) 22 (by rw [HX.out]; simp)).1
                have cP := (hF.out.1.cell bP (.pointer (some ⟨rb, 0, none⟩)) 24 (by rw [HX.out]; simp)).1
                by_cases hlt : j < nm
                · obtain ⟨B2, o2, rfl⟩ := HM.out.1.some_at (by omega)
                  obtain ⟨z, hz⟩ : ∃ z, more[j.toNat]? = some z := ⟨_, List.getElem?_eq_getElem (by rw [HM.out.2]; omega)⟩
                  have e3 := HM.out.1.cellAt hF.out.1.g hz
                  have hwj : IntKind.i64.wrap (j + 1) = j + 1 := wi _ (by omega) (by omega)
                  have HQ : Keep (more.take j.toNat ++ [z] = more.take (j.toNat + 1)) := ⟨by obtain ⟨q, e⟩ := List.getElem?_eq_some_iff.1 hz; rw [List.take_succ_eq_append_getElem q, e]⟩
                  have HP : Keep (∀ k, Calls Try.prog 11 #[.pointer (some ⟨rb, 0, none⟩), .int .i64 z] (wr.drewN k) fun e w' => e = .returned (.int .i64 0) ∧ RS w w' rb sz (more.take (j.toNat + 1)) ((nb, .int .i64 ((x : Int) + 1), 3) :: X) [] ∧ Did [rb, nb] [⟨rb, 1, none⟩] W w') := by
                    refine ⟨fun k => (rs_push (hF.out.1.grown (gr_drewN wr k none)) [rb, nb] (by simp) z (by rw [List.length_take, HM.out.2, HSZ.out]; omega)).mono ?_⟩
                    rintro e w' ⟨rfl, h, hd⟩
                    rw [HQ.out] at h
                    refine ⟨rfl, h, (hF.out.2.trans (Did.grown (gr_drewN wr k none) (fun f hf => ?_))).trans hd⟩
                    have := hrfW f hf
                    have := hF.out.2.k.size
                    have := hF.out.1.g.size
                    obtain ⟨v8, r8, _⟩ := hF.out.1.e
                    rw [List.mem_singleton] at hf
                    subst hf
                    exact r8.lt rb (.inl rfl)
                  clear hz HQ
                  gi_wp2_with fail
                  gi_region_with ((refine ⟨trivial, ?_⟩; gi_at_call 11; refine (CallsIn.inRound lp (callsIn_wide.2 (HP.out 1))).mono ?_; rintro e w6 ⟨rfl, h6⟩))
                  all_goals
                    have H6 : Keep (RS w w6 rb sz (more.take (j.toNat + 1)) ((nb, .int .i64 ((x : Int) + 1), 3) :: X) [] ∧ Did [rb, nb] [⟨rb, 1, none⟩] W w6) := ⟨h6⟩
                    clear h6
                    gi_wp2_with fail
                    refine ⟨⟨j + 1, by omega, by omega, rfl, ?_⟩, by simp only [intOf]; omega⟩
                    rw [show (j + 1).toNat = j.toNat + 1 by omega]
                    exact H6
                · have H6 : Keep (RS w wr rb sz more ((nb, .int .i64 ((x : Int) + 1), 3) :: X) [] ∧ Did [rb, nb] [⟨rb, 1, none⟩] W wr) := ⟨by have := hF.out; rwa [List.take_of_length_le (by rw [HM.out.2]; omega)] at this⟩
                  clear hF
                  gi_wp2_with fail
                  refine ⟨H6.out.2.k.from _, H6.out.2.p, range_good HPRE.out HMM.out.symm, ?_⟩
                  first
                  | exact H6.out.1
                  | (rw [List.length_append, List.length_singleton, HMM.out]; exact H6.out.1)
                  | (rw [List.length_append, List.length_singleton, HMM.out, if_neg (by simp : ¬ (pre ++ [x] = []))]; exact H6.out.1)
            · have hx1 : ((x : Int) == 0) = false := by simp; omega
              gi_wp2_with fail
              refine ⟨HN.out.2.k.from _, HN.out.2.p, range_good HPRE.out HMM.out.symm, ?_⟩
              have := HN.out.1
              rw [if_neg hx0] at this
              rw [List.length_append, List.length_singleton, HMM.out, if_neg (by omega)]
              exact this
          · have cR := (HI.out.cell bR (.bool false) 4 (by rw [HX.out]; simp)).1
            have fR := (HI.out.cell bR (.bool false) 4 (by rw [HX.out]; simp)).2
            have hxm2 : ((x : Int) == (m : Int)) = false := beq_eq_false_iff_ne.2 (fun h => hxm (Int.ofNat_inj.1 h))
            gi_wp2_with fail
            exact ⟨(KeepsOthers.setCell _ _ _).from _, range_bad (by rw [HMM.out]; exact hxm)⟩
        case stop =>
          rintro D cc pre W _ hsp hbad
          exact absurd hsp.1 hbad
        case done =>
          rintro D xs W hD rfl ⟨_, hI⟩ hK
          rw [List.length_range, HS.out.2] at hI
          have H8 : Keep (RS w W rb sz (if n = 0 then l else more) ((nb, .int .i64 n, 3) :: X) [D] ∧ D < W.heap.size ∧ w.heap.size ≤ D) := by
            refine ⟨⟨hI.e, hI.x, hI.lo, fun E hE => ?_, hI.g⟩, (Array.getElem?_eq_some_iff.1 hK).1, by omega⟩
            rw [List.mem_singleton] at hE
            rw [hE]; exact hK
          clear hI hK
          have cN := (H8.out.1.cell nb (.int .i64 n) 3 (by simp)).1
          have cL := (H8.out.1.cell bL (.slice a n c) 22 (by rw [HX.out]; simp)).1
          have cM := (H8.out.1.cell bM (.slice am nm cm) 22 (by rw [HX.out]; simp)).1
          have cL2 := ((H8.out.1.add (.slice am nm cm) 22).cell bL (.slice a n c) 22 (by rw [HX.out]; simp)).1
          by_cases hn0 : n = 0
          · have hn1 : ((n : Int) == 0) = true := by simp; omega
            have HQ0 : Keep (n = 0 ∧ (if n = 0 then l else more) = []) := ⟨hn0, by rw [if_pos hn0]; exact List.length_eq_zero_iff.1 (by rw [HS.out.2]; exact hn0)⟩
            have h9 : RS w W rb sz [] ((nb, .int .i64 n, 3) :: X) [D] := by have := H8.out.1; rwa [HQ0.out.2] at this
            clear hn0
            have h10 := (h9.add (.slice none 0 0) 22).add (.int .i64 0) 3
            have cA2 := ((h9.add (.slice none 0 0) 22).cell bA (.func (.func 31) #[] #[.pointer (some ⟨Bn, 0, none⟩)]) 46 (by rw [HX.out]; simp)).1
            have cA3 := (h10.cell bA (.func (.func 31) #[] #[.pointer (some ⟨Bn, 0, none⟩)]) 46 (by rw [HX.out]; simp)).1
            have HD8 : Keep (D < W.heap.size ∧ w.heap.size ≤ D ∧ ∀ p ∈ (nb, (.int .i64 n : Value), (3 : TypeId)) :: X, p.1 < W.heap.size) := ⟨H8.out.2.1, H8.out.2.2, fun p hp => (h9.x p hp).lt⟩
            clear h9 H8
            gi_wp2_with fail
            clear cN cL cM cL2 cA2 cA3
            rw [World.size_alloc] at h10
            have hs10 : ((W.alloc (.cells #[.slice none 0 0] 22)).alloc (.cells #[.int .i64 0] 3)).heap.size = W.heap.size + 1 + 1 := by simp
            obtain ⟨w10, hw10⟩ : ∃ w10, (W.alloc (.cells #[.slice none 0 0] 22)).alloc (.cells #[.int .i64 0] 3) = w10 := ⟨_, rfl⟩
            rw [hw10] at h10 hs10 ⊢
            obtain ⟨jb, hjb⟩ : ∃ jb, W.heap.size = jb := ⟨_, rfl⟩
            simp only [hjb] at h10 hs10 HD8 ⊢
            obtain ⟨ob, hob⟩ : ∃ ob, jb + 1 = ob := ⟨_, rfl⟩
            simp only [hob] at h10 hs10 ⊢
            have H10 : Keep (RS w w10 rb sz [] ((ob, .int .i64 0, 3) :: (jb, .slice none 0 0, 22) :: (nb, .int .i64 n, 3) :: X) [D]) := ⟨h10⟩
            have HO : Keep (ob < w10.heap.size ∧ w.heap.size ≤ w10.heap.size ∧ D < w10.heap.size ∧ D < jb ∧ w.heap.size ≤ D ∧ jb < ob ∧ ∀ p ∈ (nb, (.int .i64 n : Value), (3 : TypeId)) :: X, p.1 < jb) := ⟨by omega, h10.g.size, by have := HD8.out.1; omega, HD8.out.1, HD8.out.2.1, by omega, HD8.out.2.2⟩
            clear h10 hs10 hw10 hjb hob HD8
            obtain ⟨vv, rr, _, _⟩ := H10.out.e
            refine wpIn_rangeFunc_ownG (α := Nat) (n := 8) rfl (by decide) (gf := 31) (lb := #[.pointer (some ⟨Bn, 0, none⟩)]) rfl trivial (enters_of Try.func31 (by kernel_rfl) rfl)
              (all_stops 7 Bn rb vv sz [] [ob] [] w10 (by decide) (H10.out.cell Bn (.pointer (some ⟨rb, 0, none⟩)) 24 (by rw [HX.out]; simp)).1 rr (fun b hb => by simp at hb; rw [hb]; exact HO.out.1) (fun f hf => by cases hf))
              Kp.trans (kp_b (fun f hf => by cases hf)) (Below.refl _ _) (by exact fun _ => rfl)
              (fun pre W => pre = List.range pre.length ∧ RS w W rb sz [] ((ob, .int .i64 pre.length, 3) :: (jb, .slice none 0 0, 22) :: (nb, .int .i64 n, 3) :: X) [D])
              (fun _ pre _ => ¬ (pre = List.range pre.length))
              (OwnFrom.and (ownFrom_pure _ _) (RS.own (fun (_ : List Nat) => []) (fun (pre : List Nat) => (ob, .int .i64 pre.length, 3) :: (jb, .slice none 0 0, 22) :: (nb, .int .i64 n, 3) :: X) [D] HO.out.2.1 (fun E hE => by rw [List.mem_singleton] at hE; subst hE; exact HO.out.2.2.1)))
              (fun _ => ownFrom_pure _ _)
              ⟨rfl, H10.out⟩ ?a2 ?assign2 ?body2 ?done2 ?stop2
            case assign2 =>
              intro lp x W K hK
              gi_wp2
              exact hK
            case body2 =>
              intro lp pre x W _ hlen
              simp at hlen
            case stop2 =>
              rintro D2 cc pre W _ hsp hbad
              exact absurd hsp.1 hbad
            case done2 =>
              rintro D2 xs W2 hD2 rfl ⟨_, hI2⟩ hK2
              have H11 : Keep (RS w W2 rb sz [] ((ob, .int .i64 0, 3) :: (jb, .slice none 0 0, 22) :: (nb, .int .i64 n, 3) :: X) [D]) := ⟨hI2⟩
              have HK2 : Keep (W2.heap[D2]? = some (.deferred (some []))) := ⟨hK2⟩
              have cO := (H11.out.cell ob (.int .i64 0) 3 (by simp)).1
              have cJ := (H11.out.cell jb (.slice none 0 0) 22 (by simp)).1
              have cR := (H11.out.cell bR (.bool false) 4 (by rw [HX.out]; simp)).1
              have fR := (H11.out.cell bR (.bool false) 4 (by rw [HX.out]; simp)).2
              clear hI2 hK2
              gi_wp2_with fail
              have hput := (H11.out.sub (X' := [(bR, .bool false, 4)]) (Ds' := [D]) (fun p hp => by rw [List.mem_singleton] at hp; subst hp; rw [HX.out]; simp) (fun p hp => hp)).put (fun p hp => by cases hp) (.bool true)
              refine leaves_retN (p := 4) rfl bR true rfl w _ [D2, D] rfl (by have := HO.out; simp; omega) (fun E hE => ?_) (hput.x (bR, .bool true, 4) (by simp)) hput.g
              have := HO.out
              simp at hE
              rcases hE with rfl | rfl
              · exact ⟨(KeepsOthers.setCell _ _ _).same _ _ HK2.out rfl, by omega⟩
              · exact ⟨hput.d _ (by simp), by omega⟩
          · have hn1 : ((n : Int) == 0) = false := by simp; omega
            have h9 : RS w W rb sz more ((nb, .int .i64 n, 3) :: X) [D] := by have := H8.out.1; rwa [if_neg hn0] at this
            have h10 := (h9.add (.slice am nm cm) 22).add (.int .i64 0) 3
            have cA2 := ((h9.add (.slice am nm cm) 22).cell bA (.func (.func 31) #[] #[.pointer (some ⟨Bn, 0, none⟩)]) 46 (by rw [HX.out]; simp)).1
            have cA3 := (h10.cell bA (.func (.func 31) #[] #[.pointer (some ⟨Bn, 0, none⟩)]) 46 (by rw [HX.out]; simp)).1
            have HD8 : Keep (D < W.heap.size ∧ w.heap.size ≤ D ∧ ∀ p ∈ (nb, (.int .i64 n : Value), (3 : TypeId)) :: X, p.1 < W.heap.size) := ⟨H8.out.2.1, H8.out.2.2, fun p hp => (h9.x p hp).lt⟩
            clear h9 H8
            gi_wp2_with fail
            clear cN cL cM cL2 cA2 cA3
            rw [World.size_alloc] at h10
            have hs10 : ((W.alloc (.cells #[.slice am nm cm] 22)).alloc (.cells #[.int .i64 0] 3)).heap.size = W.heap.size + 1 + 1 := by simp
            obtain ⟨w10, hw10⟩ : ∃ w10, (W.alloc (.cells #[.slice am nm cm] 22)).alloc (.cells #[.int .i64 0] 3) = w10 := ⟨_, rfl⟩
            rw [hw10] at h10 hs10 ⊢
            obtain ⟨jb, hjb⟩ : ∃ jb, W.heap.size = jb := ⟨_, rfl⟩
            simp only [hjb] at h10 hs10 HD8 ⊢
            obtain ⟨ob, hob⟩ : ∃ ob, jb + 1 = ob := ⟨_, rfl⟩
            simp only [hob] at h10 hs10 ⊢
            have H10 : Keep (RS w w10 rb sz more ((ob, .int .i64 0, 3) :: (jb, .slice am nm cm, 22) :: (nb, .int .i64 n, 3) :: X) [D]) := ⟨h10⟩
            have HO : Keep (ob < w10.heap.size ∧ w.heap.size ≤ w10.heap.size ∧ D < w10.heap.size ∧ D < jb ∧ w.heap.size ≤ D ∧ jb < ob ∧ ∀ p ∈ (nb, (.int .i64 n : Value), (3 : TypeId)) :: X, p.1 < jb) := ⟨by omega, h10.g.size, by have := HD8.out.1; omega, HD8.out.1, HD8.out.2.1, by omega, HD8.out.2.2⟩
            clear h10 hs10 hw10 hjb hob HD8
            obtain ⟨vv, rr, _, _⟩ := H10.out.e
            obtain ⟨R, hR⟩ : ∃ R : List (Nat × Value × TypeId), R = (jb, .slice am nm cm, 22) :: (nb, .int .i64 n, 3) :: X := ⟨_, rfl⟩
            have HR : Keep (R = (jb, .slice am nm cm, 22) :: (nb, .int .i64 n, 3) :: X) := ⟨hR⟩
            rw [← hR] at H10
            have HRlt : Keep (∀ p ∈ R, p.1 < ob) := ⟨fun p hp => by
              rw [hR] at hp
              have q := HO.out
              rcases List.mem_cons.1 hp with rfl | hp
              · exact q.2.2.2.2.2.1
              · have := q.2.2.2.2.2.2 p hp; omega⟩
            have HRm : Keep ((jb, Value.slice am nm cm, (22 : TypeId)) ∈ R ∧ (bR, Value.bool false, (4 : TypeId)) ∈ R ∧ (bA, Value.func (.func 31) #[] #[.pointer (some ⟨Bn, 0, none⟩)], (46 : TypeId)) ∈ R ∧ (Bn, Value.pointer (some ⟨rb, 0, none⟩), (24 : TypeId)) ∈ R) := by
              rw [hR, HX.out]
              exact ⟨by simp, by simp, by simp, by simp⟩
            clear hR
            have hown6 : OwnFrom w10.heap.size (fun (_ : List Nat) W => RS w W rb sz more ((ob, .int .i64 6, 3) :: R) [D]) := RS.own (fun (_ : List Nat) => more) (fun (_ : List Nat) => (ob, .int .i64 6, 3) :: R) [D] HO.out.2.1 (fun E hE => by rw [List.mem_singleton] at hE; subst hE; exact HO.out.2.2.1)
            refine own_h (α := Nat) (n := 8) rfl (by decide) (gf := 31) (lb := #[.pointer (some ⟨Bn, 0, none⟩)]) rfl trivial (enters_of Try.func31 (by kernel_rfl) rfl)
              (all_stops 7 Bn rb vv sz more [ob] [] w10 (by decide) (H10.out.cell Bn (.pointer (some ⟨rb, 0, none⟩)) 24 (List.mem_cons_of_mem _ HRm.out.2.2.2)).1 rr (fun b hb => by simp at hb; rw [hb]; exact HO.out.1) (fun f hf => by cases hf))
              (fun f hf => by cases hf) (by exact fun _ => rfl)
              (fun pre W => pre = List.range pre.length ∧ RS w W rb sz more ((ob, .int .i64 pre.length, 3) :: R) [D])
              (fun c pre W => ¬ (pre = List.range pre.length) ∨ (c = .exit 6 ∧ RS w W rb sz more ((ob, .int .i64 6, 3) :: R) [D]))
              (OwnFrom.and (ownFrom_pure _ _) (RS.own (fun (_ : List Nat) => more) (fun (pre : List Nat) => (ob, .int .i64 pre.length, 3) :: R) [D] HO.out.2.1 (fun E hE => by rw [List.mem_singleton] at hE; subst hE; exact HO.out.2.2.1)))
              (fun _ s W W' row hs hg hr => hs.imp id (fun h => ⟨h.1, hown6 s W W' row h.2 hg hr⟩))
              ⟨rfl, H10.out⟩ ?a3 ?assign3 ?body3 ?done3 ?stop3
            case assign3 =>
              intro lp x W K hK
              gi_wp2
              exact hK
            case body3 =>
              rintro lp pre x W hlp ⟨rec, hrec⟩ ⟨hpre, hI⟩ hlen
              have HI : Keep (RS w W rb sz more ((ob, .int .i64 pre.length, 3) :: R) [D]) := ⟨hI⟩
              have HPRE : Keep (pre = List.range pre.length) := ⟨hpre⟩
              clear hI hpre
              obtain ⟨m, hm⟩ : ∃ m, pre.length = m := ⟨_, rfl⟩
              have HMM : Keep (pre.length = m) := ⟨hm⟩
              rw [hm] at HI hlen
              have hmn : m < nm := by rw [HM.out.2] at hlen; exact hlen
              clear hm hlen
              have h11 := HI.out.add (.int .i64 0) 3
              have cA := (h11.cell bA (.func (.func 31) #[] #[.pointer (some ⟨Bn, 0, none⟩)]) 46 (List.mem_cons_of_mem _ (List.mem_cons_of_mem _ HRm.out.2.2.1))).1
              have hrec1 : (W.alloc (.cells #[.int .i64 0] 3)).heap[lp]? = some (.loop rec) := (Below.heap_alloc W _ lp (Array.getElem?_eq_some_iff.1 hrec).1).trans hrec
              have hob : ob < W.heap.size := (HI.out.x (ob, .int .i64 m, 3) (by simp)).lt
              have hd1 : Did [ob] [] W (W.alloc (.cells #[.int .i64 0] 3)) := (Did.refl _ _ W).alloc _
              have hs1 : (W.alloc (.cells #[.int .i64 0] 3)).heap.size = W.heap.size + 1 := by simp
              have HREC : Keep ((W.alloc (.cells #[.int .i64 0] 3)).heap[lp]? = some (.loop rec)) := ⟨hrec1⟩
              clear hrec hrec1
              gi_wp2_with fail
              clear cA
              obtain ⟨W1, hW1⟩ : ∃ W1, W.alloc (.cells #[.int .i64 0] 3) = W1 := ⟨_, rfl⟩
              rw [hW1] at h11 hd1 hs1 HREC ⊢
              obtain ⟨ib, hib⟩ : ∃ ib, W.heap.size = ib := ⟨_, rfl⟩
              simp only [hib] at h11 hs1 hob ⊢
              have HW : Keep (RS w W1 rb sz more ((ib, .int .i64 0, 3) :: (ob, .int .i64 m, 3) :: R) [D] ∧ Did [ob] [] W W1 ∧ W.heap.size ≤ ib ∧ ib < W1.heap.size ∧ ob < ib ∧ D < W1.heap.size ∧ W.heap.size ≤ W1.heap.size ∧ w.heap.size ≤ W1.heap.size) := ⟨h11, hd1, by omega, by omega, hob, by have := HO.out; omega, by omega, h11.g.size⟩
              clear h11 hd1 hs1 hW1 hib HI hob
              obtain ⟨v2, r2, _, _⟩ := HW.out.1.e
              have hown8 : OwnFrom W1.heap.size (fun (_ : List Nat) W2 => RS w W2 rb sz more ((ob, .int .i64 m, 3) :: R) [D] ∧ Did [ob] [] W W2) := OwnFrom.and (RS.own (fun (_ : List Nat) => more) (fun (_ : List Nat) => (ob, .int .i64 m, 3) :: R) [D] HW.out.2.2.2.2.2.2.2 (fun E hE => by rw [List.mem_singleton] at hE; subst hE; exact HW.out.2.2.2.2.2.1)) (Did.own HW.out.2.2.2.2.2.2.1)
              refine own_n (F := Fence.wide.inRound lp) (α := Nat) (n := 6) (l₀ := lp) (r₀ := rec) rfl HREC.out (by decide) (gf := 31) (lb := #[.pointer (some ⟨Bn, 0, none⟩)]) rfl trivial (enters_of Try.func31 (by kernel_rfl) rfl)
                ((all_stops 5 Bn rb v2 sz more [ib] [] W1 (by decide) (HW.out.1.cell Bn (.pointer (some ⟨rb, 0, none⟩)) 24 (List.mem_cons_of_mem _ (List.mem_cons_of_mem _ HRm.out.2.2.2))).1 r2 (fun b hb => by simp at hb; rw [hb]; exact HW.out.2.2.2.1) (fun f hf => by cases hf)).inRound lp)
                (fun f hf => by cases hf) (by exact fun _ => rfl)
                (fun p2 W2 => p2 = List.range p2.length ∧ RS w W2 rb sz more ((ib, .int .i64 p2.length, 3) :: (ob, .int .i64 m, 3) :: R) [D] ∧ Did [ob] [] W W2)
                (fun c p2 W2 => ¬ (p2 = List.range p2.length) ∨ (c = .exit 8 ∧ RS w W2 rb sz more ((ob, .int .i64 m, 3) :: R) [D] ∧ Did [ob] [] W W2))
                (OwnFrom.and (ownFrom_pure _ _) (OwnFrom.and (RS.own (fun (_ : List Nat) => more) (fun (p2 : List Nat) => (ib, .int .i64 p2.length, 3) :: (ob, .int .i64 m, 3) :: R) [D] HW.out.2.2.2.2.2.2.2 (fun E hE => by rw [List.mem_singleton] at hE; subst hE; exact HW.out.2.2.2.2.2.1)) (Did.own HW.out.2.2.2.2.2.2.1)))
                (fun _ s W W' row hs hg hr => hs.imp id (fun h => ⟨h.1, hown8 s W W' row h.2 hg hr⟩))
                ⟨rfl, HW.out.1, HW.out.2.1⟩ ?a4 ?assign4 ?body4 ?done4 ?stop4
              case assign4 =>
                intro lp2 x2 W2 K hK
                gi_wp2
                exact hK
              case body4 =>
                rintro lp2 p2 x2 W2 ⟨hp2, hR2, hd2⟩ hlen2
                have HP2 : Keep (p2 = List.range p2.length) := ⟨hp2⟩
                obtain ⟨m2, hm2⟩ : ∃ m2, p2.length = m2 := ⟨_, rfl⟩
                have HM2 : Keep (p2.length = m2) := ⟨hm2⟩
                rw [hm2] at hR2 hlen2
                have hmn2 : m2 < nm := by rw [HM.out.2] at hlen2; exact hlen2
                have H12 : Keep (RS w W2 rb sz more ((ib, .int .i64 m2, 3) :: (ob, .int .i64 m, 3) :: R) [D] ∧ Did [ob] [] W W2) := ⟨hR2, hd2⟩
                clear hR2 hd2 hp2 hm2 hlen2
                have cI := (H12.out.1.cell ib (.int .i64 m2) 3 (by simp)).1
                have fI := (H12.out.1.cell ib (.int .i64 m2) 3 (by simp)).2
                have cJ := (H12.out.1.cell jb (.slice am nm cm) 22 (List.mem_cons_of_mem _ (List.mem_cons_of_mem _ HRm.out.1))).1
                have cR := (H12.out.1.cell bR (.bool false) 4 (List.mem_cons_of_mem _ (List.mem_cons_of_mem _ HRm.out.2.1))).1
                have fR := (H12.out.1.cell bR (.bool false) 4 (List.mem_cons_of_mem _ (List.mem_cons_of_mem _ HRm.out.2.1))).2
                by_cases hxm : x2 = m2
                · subst hxm
                  obtain ⟨B, o, rfl⟩ := HM.out.1.some_at (by omega)
                  obtain ⟨y, hy⟩ : ∃ y, more[x2]? = some y := ⟨_, List.getElem?_eq_getElem (by rw [HM.out.2]; omega)⟩
                  have e2 := HM.out.1.cellAt H12.out.1.g hy
                  rw [hy]
                  simp only [Option.getD_some]
                  have hwi : IntKind.i64.wrap ((x2 : Int) + 1) = x2 + 1 := wi _ (by omega) (by omega)
                  have H13 : Keep (RS w (W2.setCell ⟨ib, 0, none⟩ (.int .i64 ((x2 : Int) + 1))) rb sz more ((ib, .int .i64 ((x2 : Int) + 1), 3) :: (ob, .int .i64 m, 3) :: R) [D] ∧ Did [ob] [] W (W2.setCell ⟨ib, 0, none⟩ (.int .i64 ((x2 : Int) + 1))) ∧ Did [ib] [] W2 (W2.setCell ⟨ib, 0, none⟩ (.int .i64 ((x2 : Int) + 1)))) := by
                    have hib := H12.out.1.x (ib, .int .i64 x2, 3) (by simp)
                    refine ⟨H12.out.1.put (fun p hp => ?_) _, H12.out.2.new hib HW.out.2.2.1 _, Did.set hib (by simp) (fun f hf => by cases hf) _⟩
                    have := HW.out.2.2.2.2.1
                    rcases List.mem_cons.1 hp with rfl | hp
                    · simp only; omega
                    · have := HRlt.out p hp; omega
                  by_cases hx3 : x2 = 3
                  · have hx4 : ((x2 : Int) == 3) = true := by simp; omega
                    clear hx3
                    gi_wp2_with fail
                    exact ⟨H13.out.2.2.k.from _, .inr ⟨rfl, H13.out.1.sub (fun p hp => List.mem_cons_of_mem _ hp) (fun p hp => hp), H13.out.2.1⟩⟩
                  · have hx4 : ((x2 : Int) == 3) = false := by simp; omega
                    gi_wp2_with fail
                    refine ⟨H13.out.2.2.k.from _, H13.out.2.2.p, range_good HP2.out HM2.out.symm, ?_, H13.out.2.1⟩
                    rw [List.length_append, List.length_singleton, HM2.out]
                    exact H13.out.1
                · have hxm2 : ((x2 : Int) == (m2 : Int)) = false := beq_eq_false_iff_ne.2 (fun h => hxm (Int.ofNat_inj.1 h))
                  gi_wp2_with fail
                  exact ⟨(KeepsOthers.setCell _ _ _).from _, .inl (range_bad (by rw [HM2.out]; exact hxm))⟩
              case done4 =>
                rintro xs2 W2 rfl ⟨_, hR2, hd2⟩
                have H12 : Keep (RS w W2 rb sz more ((ob, .int .i64 m, 3) :: R) [D] ∧ Did [ob] [] W W2) := ⟨hR2.sub (fun p hp => List.mem_cons_of_mem _ hp) (fun p hp => hp), hd2⟩
                clear hR2 hd2
                have cO := (H12.out.1.cell ob (.int .i64 m) 3 (by simp)).1
                have fO := (H12.out.1.cell ob (.int .i64 m) 3 (by simp)).2
                have cJ := (H12.out.1.cell jb (.slice am nm cm) 22 (List.mem_cons_of_mem _ HRm.out.1)).1
                have cR := (H12.out.1.cell bR (.bool false) 4 (List.mem_cons_of_mem _ HRm.out.2.1)).1
                have fR := (H12.out.1.cell bR (.bool false) 4 (List.mem_cons_of_mem _ HRm.out.2.1)).2
                by_cases hxm : x = m
                · subst hxm
                  obtain ⟨B, o, rfl⟩ := HM.out.1.some_at (by omega)
                  obtain ⟨y, hy⟩ : ∃ y, more[x]? = some y := ⟨_, List.getElem?_eq_getElem (by rw [HM.out.2]; omega)⟩
                  have e2 := HM.out.1.cellAt H12.out.1.g hy
                  simp only [hy, Option.getD_some]
                  have hwi : IntKind.i64.wrap ((x : Int) + 1) = x + 1 := wi _ (by omega) (by omega)
                  have H13 : Keep (RS w (W2.setCell ⟨ob, 0, none⟩ (.int .i64 ((x : Int) + 1))) rb sz more ((ob, .int .i64 ((x : Int) + 1), 3) :: R) [D] ∧ Did [ob] [] W (W2.setCell ⟨ob, 0, none⟩ (.int .i64 ((x : Int) + 1)))) := by
                    have hib := H12.out.1.x (ob, .int .i64 x, 3) (by simp)
                    exact ⟨H12.out.1.put (fun p hp => by have := HRlt.out p hp; omega) _, H12.out.2.trans (Did.set hib (by simp) (fun f hf => by cases hf) _)⟩
                  by_cases hx5 : x = 5
                  · have hx6 : ((x : Int) == 5) = true := by simp; omega
                    have H14 : Keep (RS w (W2.setCell ⟨ob, 0, none⟩ (.int .i64 ((x : Int) + 1))) rb sz more ((ob, .int .i64 6, 3) :: R) [D]) := ⟨by have := H13.out.1; rwa [show ((x : Int) + 1) = 6 by omega] at this ⊢⟩
                    clear hx5
                    gi_wp2_with fail
                    exact ⟨H13.out.2.k.from _, .inr ⟨rfl, H14.out⟩⟩
                  · have hx6 : ((x : Int) == 5) = false := by simp; omega
                    gi_wp2_with fail
                    refine ⟨H13.out.2.k.from _, H13.out.2.p, range_good HPRE.out HMM.out.symm, ?_⟩
                    rw [List.length_append, List.length_singleton, HMM.out]
                    exact H13.out.1
                · have hxm2 : ((x : Int) == (m : Int)) = false := beq_eq_false_iff_ne.2 (fun h => hxm (Int.ofNat_inj.1 h))
                  gi_wp2_with fail
                  exact ⟨(H12.out.2.k.trans (KeepsOthers.setCell _ _ _)).from _, .inl (range_bad (by rw [HMM.out]; exact hxm))⟩
              case stop4 =>
                rintro cc p2 W2 hsp hst
                rcases hst with hbad | ⟨rfl, hR2, hd2⟩
                · exact absurd hsp.1 hbad
                have H12 : Keep (RS w W2 rb sz more ((ob, .int .i64 m, 3) :: R) [D] ∧ Did [ob] [] W W2) := ⟨hR2, hd2⟩
                clear hR2 hd2
                have cO := (H12.out.1.cell ob (.int .i64 m) 3 (by simp)).1
                have fO := (H12.out.1.cell ob (.int .i64 m) 3 (by simp)).2
                have cJ := (H12.out.1.cell jb (.slice am nm cm) 22 (List.mem_cons_of_mem _ HRm.out.1)).1
                have cR := (H12.out.1.cell bR (.bool false) 4 (List.mem_cons_of_mem _ HRm.out.2.1)).1
                have fR := (H12.out.1.cell bR (.bool false) 4 (List.mem_cons_of_mem _ HRm.out.2.1)).2
                by_cases hxm : x = m
                · subst hxm
                  obtain ⟨B, o, rfl⟩ := HM.out.1.some_at (by omega)
                  obtain ⟨y, hy⟩ : ∃ y, more[x]? = some y := ⟨_, List.getElem?_eq_getElem (by rw [HM.out.2]; omega)⟩
                  have e2 := HM.out.1.cellAt H12.out.1.g hy
                  simp only [hy, Option.getD_some]
                  have hwi : IntKind.i64.wrap ((x : Int) + 1) = x + 1 := wi _ (by omega) (by omega)
                  have H13 : Keep (RS w (W2.setCell ⟨ob, 0, none⟩ (.int .i64 ((x : Int) + 1))) rb sz more ((ob, .int .i64 ((x : Int) + 1), 3) :: R) [D] ∧ Did [ob] [] W (W2.setCell ⟨ob, 0, none⟩ (.int .i64 ((x : Int) + 1)))) := by
                    have hib := H12.out.1.x (ob, .int .i64 x, 3) (by simp)
                    exact ⟨H12.out.1.put (fun p hp => by have := HRlt.out p hp; omega) _, H12.out.2.trans (Did.set hib (by simp) (fun f hf => by cases hf) _)⟩
                  by_cases hx5 : x = 5
                  · have hx6 : ((x : Int) == 5) = true := by simp; omega
                    have H14 : Keep (RS w (W2.setCell ⟨ob, 0, none⟩ (.int .i64 ((x : Int) + 1))) rb sz more ((ob, .int .i64 6, 3) :: R) [D]) := ⟨by have := H13.out.1; rwa [show ((x : Int) + 1) = 6 by omega] at this ⊢⟩
                    clear hx5
                    gi_wp2_with fail
                    exact ⟨H13.out.2.k.from _, .inr ⟨rfl, H14.out⟩⟩
                  · have hx6 : ((x : Int) == 5) = false := by simp; omega
                    gi_wp2_with fail
                    refine ⟨H13.out.2.k.from _, H13.out.2.p, range_good HPRE.out HMM.out.symm, ?_⟩
                    rw [List.length_append, List.length_singleton, HMM.out]
                    exact H13.out.1
                · have hxm2 : ((x : Int) == (m : Int)) = false := beq_eq_false_iff_ne.2 (fun h => hxm (Int.ofNat_inj.1 h))
                  gi_wp2_with fail
                  exact ⟨(H12.out.2.k.trans (KeepsOthers.setCell _ _ _)).from _, .inl (range_bad (by rw [HMM.out]; exact hxm))⟩
            case done3 =>
              rintro D2 xs W2 hD2 rfl ⟨_, hI2⟩ hK2
              rw [List.length_range, HM.out.2] at hI2
              have H11 : Keep (RS w W2 rb sz more ((ob, .int .i64 nm, 3) :: (jb, .slice am nm cm, 22) :: (nb, .int .i64 n, 3) :: X) [D]) := ⟨by rw [HR.out] at hI2; exact hI2⟩
              have HK2 : Keep (W2.heap[D2]? = some (.deferred (some []))) := ⟨hK2⟩
              have cO := (H11.out.cell ob (.int .i64 nm) 3 (by simp)).1
              have cJ := (H11.out.cell jb (.slice am nm cm) 22 (by simp)).1
              have cR := (H11.out.cell bR (.bool false) 4 (by rw [HX.out]; simp)).1
              have fR := (H11.out.cell bR (.bool false) 4 (by rw [HX.out]; simp)).2
              clear hI2 hK2
              gi_wp2_with fail
              have hput := (H11.out.sub (X' := [(bR, .bool false, 4)]) (Ds' := [D]) (fun p hp => by rw [List.mem_singleton] at hp; subst hp; rw [HX.out]; simp) (fun p hp => hp)).put (fun p hp => by cases hp) (.bool true)
              refine leaves_retN (p := 4) rfl bR true rfl w _ [D2, D] rfl (by have := HO.out; simp; omega) (fun E hE => ?_) (hput.x (bR, .bool true, 4) (by simp)) hput.g
              have := HO.out
              simp at hE
              rcases hE with rfl | rfl
              · exact ⟨(KeepsOthers.setCell _ _ _).same _ _ HK2.out rfl, by omega⟩
              · exact ⟨hput.d _ (by simp), by omega⟩
            case stop3 =>
              rintro D2 cc pre W2 hD2 hsp hst hK2
              rcases hst with hbad | ⟨rfl, hI2⟩
              · exact absurd hsp.1 hbad
              have H11 : Keep (RS w W2 rb sz more ((ob, .int .i64 6, 3) :: (jb, .slice am nm cm, 22) :: (nb, .int .i64 n, 3) :: X) [D]) := ⟨by rw [HR.out] at hI2; exact hI2⟩
              have HK2 : Keep (W2.heap[D2]? = some (.deferred (some []))) := ⟨hK2⟩
              have cO := (H11.out.cell ob (.int .i64 6) 3 (by simp)).1
              have cJ := (H11.out.cell jb (.slice am nm cm) 22 (by simp)).1
              have cR := (H11.out.cell bR (.bool false) 4 (by rw [HX.out]; simp)).1
              have fR := (H11.out.cell bR (.bool false) 4 (by rw [HX.out]; simp)).2
              clear hI2 hK2
              by_cases h6 : nm = 6
              · have h7 : ((6 : Int) == (nm : Int)) = true := by simp; omega
                clear h6
                gi_wp2_with fail
                have hput := (H11.out.sub (X' := [(bR, .bool false, 4)]) (Ds' := [D]) (fun p hp => by rw [List.mem_singleton] at hp; subst hp; rw [HX.out]; simp) (fun p hp => hp)).put (fun p hp => by cases hp) (.bool true)
                refine leaves_retN (p := 4) rfl bR true rfl w _ [D2, D] rfl (by have := HO.out; simp; omega) (fun E hE => ?_) (hput.x (bR, .bool true, 4) (by simp)) hput.g
                have := HO.out
                simp at hE
                rcases hE with rfl | rfl
                · exact ⟨(KeepsOthers.setCell _ _ _).same _ _ HK2.out rfl, by omega⟩
                · exact ⟨hput.d _ (by simp), by omega⟩
              · have h7 : ((6 : Int) == (nm : Int)) = false := by simp; omega
                gi_wp2_with fail
                have hput := (H11.out.sub (X' := [(bR, .bool false, 4)]) (Ds' := [D]) (fun p hp => by rw [List.mem_singleton] at hp; subst hp; rw [HX.out]; simp) (fun p hp => hp)).put (fun p hp => by cases hp) (.bool true)
                refine leaves_retN (p := 4) rfl bR true rfl w _ [D2, D] rfl (by have := HO.out; simp; omega) (fun E hE => ?_) (hput.x (bR, .bool true, 4) (by simp)) hput.g
                have := HO.out
                simp at hE
                rcases hE with rfl | rfl
                · exact ⟨(KeepsOthers.setCell _ _ _).same _ _ HK2.out rfl, by omega⟩
                · exact ⟨hput.d _ (by simp), by omega⟩
end Go.Proofs.Ytflglflggeaokaa
