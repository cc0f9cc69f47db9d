/- RingFresh's walk. -/
import Derived.Test.YtflglflggeaokaaC2
import Derived.Test.YtflglflggeaokaaSB1
namespace Go.Proofs.Ytflglflggeaokaa
open Go Go.RowKit

theorem Ints.cellAt {w : World} {B o n : Nat} {xs : List Int} (h : Ints w (some ⟨B, o, none⟩) n xs) {W : World} (g : w.grownBy W none) {j : Nat} {x : Int} (hx : xs[j]? = some x) : W.cell? ⟨B, o + j, none⟩ = some (.int .i64 x) := by
  have hj : j < xs.length := (List.getElem?_eq_some_iff.1 hx).1
  obtain ⟨B', o', e, hc⟩ := (h.kept g).at_ (by have := h.len; omega)
  cases e
  exact hc j x hx
theorem Ints.some_at {w : World} {a : Option Addr} {n : Nat} {xs : List Int} (h : Ints w a n xs) (hn : 0 < n) : ∃ B o, a = some ⟨B, o, none⟩ := by
  obtain ⟨B, o, e, _⟩ := h.at_ hn
  exact ⟨B, o, e⟩
structure SameW (a b : World) : Prop where
  e : a = b

set_option maxRecDepth 100000 in
set_option maxHeartbeats 16000000 in
theorem fresh_walk (a : Option Addr) (n c : Nat) (pa pb : Int) (l : List Int) (w : World) (hst : Ints w a n l) (hn : n ≤ 9223372036854775807) :
    Calls Try.prog 4 #[.slice a n c, .int .i64 pa, .int .i64 pb] w fun e w' => e = .returned (.bool true) ∧ w.grownBy w' none := by
  have HS : Keep (Ints w a n l) := ⟨hst⟩
  have HL : Keep (l.length = n) := ⟨hst.len⟩
  clear hst
  go_enter Try.func4, Try.ntmps4
  go_wp2_with fail
  refine (alive_c w).mono ?_
  rintro e w1 ⟨rfl, g1⟩
  have G1 : Keep (w.grownBy w1 none) := ⟨g1⟩
  clear g1
  by_cases hbig : 4000 < n
  · have hb : (4000 : Int) < n := by omega
    go_wp2_with fail
    refine (alive_c w1).mono ?_
    rintro e w2 ⟨rfl, g2⟩
    have G2 : Keep (w.grownBy w2 none) := ⟨G1.out.trans g2⟩
    clear g2
    go_wp2_with fail
    go_ret
    exact ⟨rfl, G2.out⟩
  have hb : ¬ ((4000 : Int) < n) := by omega
  obtain ⟨sz, hsz⟩ : ∃ sz, sz = n + 20 := ⟨_, rfl⟩
  have hsz1 : IntKind.i64.wrap ((n : Int) + 20) = sz := (wi _ (by omega) (by omega)).trans (by omega)
  have HSZ : Keep (sz = n + 20) := ⟨hsz⟩
  have hsz2 : 1 ≤ sz := by omega
  have hsz3 : sz ≤ 4096 := by omega
  clear hsz
  go_wp2_with fail
  refine (new_yes sz w1 hsz2 hsz3).mono ?_
  rintro e w2 ⟨rfl, r2, g2, s2⟩
  have H2 : Keep (RingAt w2 w1.heap.size (.slice none 0 0) sz [] ∧ w1.grownBy w2 none ∧ w2.heap.size = w1.heap.size + 1) := ⟨r2, g2, s2⟩
  clear r2 g2 s2
  go_wp2_with fail
  refine (Str.new_yes 2 w2 (by decide) (by decide)).mono ?_
  rintro e w3 ⟨rfl, r3, g3, s3⟩
  have H3 : Keep (St w w3 w1.heap.size w2.heap.size sz [] []) := by
    obtain ⟨q1, q2, q3⟩ := H2.out
    have q4 := G1.out.size
    refine ⟨⟨_, fun _ => none, ⟨q1.kept g3, r3, fun i cs e => (by cases e), fun e => ?_, fun i e => ?_, by omega, (G1.out.trans q2).trans g3⟩, fun p hp => by cases hp⟩⟩
    · rcases e with e | e
      · omega
      · cases e
    · rcases e with e | e
      · omega
      · cases e
  clear r3 g3 s3 H2 G1
  generalize w1.heap.size = rb at *
  generalize w2.heap.size = sb at *
  go_wp2_with fail
  go_loopw [11] (fun u wr => ∃ i : Int, 0 ≤ i ∧ i ≤ n ∧ u = .int .i64 i ∧ Keep (St w wr rb sb sz (l.take i.toNat) [])) (fun u _ => (n - (intOf u)).toNat)
  case atStart => exact ⟨0, by omega, by omega, rfl, H3⟩
  case round =>
    obtain ⟨i, hi0, hi1, rfl, hF⟩ := hrel
    clear H3
    by_cases hlt : i < n
    · obtain ⟨B, o, rfl⟩ := HS.out.some_at (by omega)
      obtain ⟨x, hx⟩ : ∃ x, l[i.toNat]? = some x := ⟨_, List.getElem?_eq_getElem (by rw [HL.out]; omega)⟩
      have e2 := HS.out.cellAt hF.out.g hx
      have hwi : IntKind.i64.wrap (i + 1) = i + 1 := wi _ (by omega) (by omega)
      have HX : Keep (l.take i.toNat ++ [x] = l.take (i.toNat + 1)) := ⟨by obtain ⟨q, e⟩ := List.getElem?_eq_some_iff.1 hx; rw [List.take_succ_eq_append_getElem q, e]⟩
      clear hx
      go_wp2_with fail
      refine (hF.out.push x (by rw [List.length_take, HL.out, HSZ.out]; omega)).mono ?_
      rintro e w5 ⟨rfl, h5⟩
      rw [HX.out] at h5
      have H5 : Keep (St w w5 rb sb sz (l.take (i.toNat + 1)) []) := ⟨h5⟩
      clear h5 e2
      go_wp2_with fail
      refine ⟨⟨i + 1, by omega, by omega, rfl, ?_⟩, by simp only [intOf]; omega⟩
      rw [show (i + 1).toNat = i.toNat + 1 by omega]
      exact H5
    · have hF1 : Keep (St w wr rb sb sz l []) := ⟨by have := hF.out; rwa [List.take_of_length_le (by rw [HL.out]; omega)] at this⟩
      clear hF hi0 hi1
      obtain ⟨kx, hkx⟩ : ∃ kx, kx = (min pa (l.length : Nat)).toNat := ⟨_, rfl⟩
      have hkn : kx ≤ n := by rw [hkx, HL.out]; omega
      go_wp2_with fail
      refine (hF1.out.take pa kx hkx).mono ?_
      rintro e w4 ⟨rfl, h4⟩
      have H4 : Keep (St w w4 rb sb sz (l.drop kx) [(wr.heap.size, (l.take kx).map iv)]) := ⟨h4⟩
      clear h4 hF1 hkx
      obtain ⟨bx, hbx⟩ : ∃ bx, wr.heap.size = bx := ⟨_, rfl⟩
      rw [hbx] at H4
      obtain ⟨ky, hky⟩ : ∃ ky, ky = (min pb ((l.drop kx).length : Nat)).toNat := ⟨_, rfl⟩
      have hkn2 : kx + ky ≤ n := by rw [hky, List.length_drop, HL.out]; omega
      rw [hbx]
      clear hbx
      go_wp2_with fail
      refine (H4.out.take pb ky hky).mono ?_
      rintro e w5 ⟨rfl, h5⟩
      have hxy : bx < w4.heap.size := (H4.out.has (b := bx) (cs := (l.take kx).map iv) (List.mem_singleton.2 rfl)).2
      obtain ⟨yb, hyb⟩ : ∃ yb, w4.heap.size = yb := ⟨_, rfl⟩
      rw [hyb] at h5 hxy ⊢
      obtain ⟨X, hX⟩ : ∃ X, X = l.take kx := ⟨_, rfl⟩
      obtain ⟨Y, hY⟩ : ∃ Y, Y = (l.drop kx).take ky := ⟨_, rfl⟩
      obtain ⟨Q, hQ⟩ : ∃ Q, Q = (l.drop kx).drop ky := ⟨_, rfl⟩
      rw [← hX, ← hY, ← hQ] at h5
      have H5 : Keep (St w w5 rb sb sz Q [(bx, marks (-11) X 0), (yb, Y.map iv)]) := ⟨by rw [marks_zero]; exact h5.sub (fun p hp => by simp at hp ⊢; rcases hp with rfl | rfl | hp <;> simp_all)⟩
      have HZ : Keep (X.length = kx ∧ Y.length = ky ∧ Q.length = n - kx - ky ∧ (∀ j, j < ky → Y[j]? = l[kx + j]?) ∧ (∀ j, Q[j]? = l[kx + ky + j]?)) := by
        have := HL.out
        refine ⟨by rw [hX, List.length_take]; omega, by rw [hY, List.length_take, List.length_drop]; omega, by rw [hQ, List.length_drop, List.length_drop]; omega, fun j hj => by rw [hY, List.getElem?_take, if_pos hj, List.getElem?_drop], fun j => by rw [hQ, List.getElem?_drop, List.getElem?_drop]; congr 1; omega⟩
      clear h5 H4 hky hyb hX hY hQ
      rename World => wo
      go_wp2_with fail
      go_loopw [14] (fun u wr => ∃ i : Int, 0 ≤ i ∧ i ≤ kx ∧ u = .int .i64 i ∧ Keep (St w wr rb sb sz Q [(bx, marks (-11) X i.toNat), (yb, Y.map iv)])) (fun u _ => (kx - (intOf u)).toNat)
      case atStart => exact ⟨0, by omega, by omega, rfl, H5⟩
      case round =>
        obtain ⟨i, hi0, hi1, rfl, hF⟩ := hrel
        clear H5
        by_cases hlt : i < kx
        · have hwi : IntKind.i64.wrap (i + 1) = i + 1 := wi _ (by omega) (by omega)
          have hh := (hF.out.has (b := bx) (cs := marks (-11) X i.toNat) List.mem_cons_self).1
          have hf3 : wr.frozen? ⟨bx, i.toNat, none⟩ = false := hh.frozen _
          have hc3 : wr.cell? ⟨bx, i.toNat, none⟩ ≠ none := by
            rw [hh.cell, List.getElem?_eq_getElem (by rw [marks_len _ _ _ (by rw [HZ.out.1]; omega), HZ.out.1]; omega)]; simp
          have H6 : Keep (St w (wr.setCell ⟨bx, i.toNat, none⟩ (.int .i64 (-11))) rb sb sz Q [(bx, marks (-11) X (i.toNat + 1)), (yb, Y.map iv)]) := by
            have := hF.out.put (fun p hp => by simp at hp; rw [hp]; simp only; omega) i.toNat (.int .i64 (-11))
            rw [marks_succ _ _ _ (by rw [HZ.out.1]; omega)] at this
            exact ⟨this⟩
          clear hh
          go_wp2_with fail
          refine ⟨⟨i + 1, by omega, by omega, rfl, ?_⟩, by simp only [intOf]; omega⟩
          rw [show (i + 1).toNat = i.toNat + 1 by omega]
          exact H6
        · have H6 : Keep (St w wr rb sb sz Q [(bx, (List.replicate kx (-11)).map iv), (yb, Y.map iv)]) := ⟨by have := hF.out; rwa [show i.toNat = kx by omega, marks_all _ _ _ HZ.out.1] at this⟩
          clear hF hi0 hi1
          rename World => w6
          go_wp2_with fail
          go_loopw [15, 16] (fun u15 u16 wr => ∃ (i : Int) (al : Option Addr) (cl nl : Nat), 0 ≤ i ∧ i ≤ 40 ∧ nl = kx + i.toNat ∧ u15 = .slice al nl cl ∧ u16 = .int .i64 i ∧ Keep (Lng w6 wr bx kx (-11) al cl i.toNat)) (fun _ u _ => (40 - (intOf u)).toNat)
          case atStart => exact ⟨0, _, kx, kx, by omega, by omega, rfl, rfl, rfl, ⟨World.grownBy.refl _ _, (H6.out.has (cs := (List.replicate kx (-11)).map iv) (by simp)).1, .inl ⟨rfl, rfl, rfl⟩⟩⟩
          case round =>
            obtain ⟨i, al, cl, nl, hi0, hi1, hnl, rfl, rfl, hF⟩ := hrel
            by_cases hlt : i < 40
            · have hwi : IntKind.i64.wrap (i + 1) = i + 1 := wi _ (by omega) (by omega)
              obtain ⟨a2, c2, w7, r1, r2⟩ := hF.out.step (by omega)
              rw [← hnl] at r1
              obtain ⟨n2, hn2⟩ : ∃ n2, nl + 1 = n2 := ⟨_, rfl⟩
              rw [hn2] at r1
              have R1 : Keep (_ = _) := ⟨r1⟩
              have R2 : Keep (Lng w6 w7 bx kx (-11) a2 c2 (i.toNat + 1)) := ⟨r2⟩
              clear r1 r2 hF
              go_wp2_with ((at_builtin; refine wpList_append_run _ rfl (.tmp 88) (.tmp 89) 22 rfl _ _ rfl rfl R1.out ?_))
              refine ⟨⟨i + 1, a2, c2, n2, by omega, by omega, by omega, rfl, rfl, ?_⟩, by simp only [intOf]; omega⟩
              rw [show (i + 1).toNat = i.toNat + 1 by omega]
              exact R2
            · obtain ⟨gl, G, rfl, hgl, hst, hpre⟩ := hF.out.fin H6.out (by omega)

              have hgl2 : yb < gl := by have := (H6.out.has (b := yb) (cs := Y.map iv) (by simp)).2; omega
              have H7 : Keep (St w wr rb sb sz Q [(yb, marks (-22) Y 0), (bx, (List.replicate kx (-11)).map iv), (gl, G)]) := ⟨by rw [marks_zero]; exact hst.sub (fun p hp => by simp at hp ⊢; rcases hp with rfl | rfl | hp <;> simp_all)⟩
              have HG : Keep (nl = kx + 40 ∧ ∀ j, j < kx + 40 → G[j]? = some (.int .i64 (-11))) := ⟨by omega, by have := hpre; rwa [show i.toNat = 40 by omega] at this⟩
              obtain ⟨ng, hng⟩ : ∃ ng, nl = ng := ⟨_, rfl⟩
              rw [hng] at HG ⊢
              clear hF hst hpre hgl H6 hi0 hi1 hnl hng
              go_wp2_with fail
              go_loopw [17] (fun u wr => ∃ i : Int, 0 ≤ i ∧ i ≤ ky ∧ u = .int .i64 i ∧ Keep (St w wr rb sb sz Q [(yb, marks (-22) Y i.toNat), (bx, (List.replicate kx (-11)).map iv), (gl, G)])) (fun u _ => (ky - (intOf u)).toNat)
              case atStart => exact ⟨0, by omega, by omega, rfl, H7⟩
              case round =>
                obtain ⟨i, hi0, hi1, rfl, hF⟩ := hrel
                clear H7
                by_cases hlt : i < ky
                · obtain ⟨B, o, rfl⟩ := HS.out.some_at (by omega)
                  have hwi : IntKind.i64.wrap (i + 1) = i + 1 := wi _ (by omega) (by omega)
                  obtain ⟨at_, hat⟩ : ∃ at_ : Nat, (kx : Int) + i = at_ := ⟨kx + i.toNat, by omega⟩
                  have hwa : IntKind.i64.wrap at_ = at_ := wi _ (by omega) (by omega)
                  have hat2 : (at_ : Int) < n := by omega
                  obtain ⟨x, hx⟩ : ∃ x, l[at_]? = some x := ⟨_, List.getElem?_eq_getElem (by rw [HL.out]; omega)⟩
                  have e2 := HS.out.cellAt hF.out.g hx
                  have hh := (hF.out.has (b := yb) (cs := marks (-22) Y i.toNat) List.mem_cons_self).1
                  have e3 : wr.cell? ⟨yb, i.toNat, none⟩ = some (.int .i64 x) := by
                    rw [hh.cell, marks_at _ _ _ _ (Nat.le_refl _), HZ.out.2.2.2.1 _ (by omega), show kx + i.toNat = at_ by omega, hx]; rfl
                  have hf3 : wr.frozen? ⟨yb, i.toNat, none⟩ = false := hh.frozen _
                  have H8 : Keep (∀ k, St w ((wr.drewN k).setCell ⟨yb, i.toNat, none⟩ (.int .i64 (-22))) rb sb sz Q [(yb, marks (-22) Y (i.toNat + 1)), (bx, (List.replicate kx (-11)).map iv), (gl, G)]) := by
                    refine ⟨fun k => ?_⟩
                    have := (hF.out.drewN k).put (fun p hp => by simp at hp; rcases hp with rfl | rfl <;> simp only <;> omega) i.toNat (.int .i64 (-22))
                    rw [marks_succ _ _ _ (by rw [HZ.out.2.1]; omega)] at this
                    exact this
                  clear hh hx
                  go_wp2_with fail
                  go_quiet (fail)
                  go_wp2_with fail
                  refine ⟨⟨i + 1, by omega, by omega, rfl, ?_⟩, by simp only [intOf]; omega⟩
                  rw [show (i + 1).toNat = i.toNat + 1 by omega]
                  exact ⟨H8.out _⟩
                · have H8 : Keep (St w wr rb sb sz Q [(yb, (List.replicate ky (-22)).map iv), (bx, (List.replicate kx (-11)).map iv), (gl, G)]) := ⟨by have := hF.out; rwa [show i.toNat = ky by omega, marks_all _ _ _ HZ.out.2.1] at this⟩
                  clear hF hi0 hi1
                  rename World => w8
                  go_wp2_with fail
                  go_loopw [18, 19] (fun u15 u16 wr => ∃ (i : Int) (al : Option Addr) (cl nl : Nat), 0 ≤ i ∧ i ≤ 40 ∧ nl = ky + i.toNat ∧ u15 = .slice al nl cl ∧ u16 = .int .i64 i ∧ Keep (Lng w8 wr yb ky (-22) al cl i.toNat)) (fun _ u _ => (40 - (intOf u)).toNat)
                  case atStart => exact ⟨0, _, ky, ky, by omega, by omega, rfl, rfl, rfl, ⟨World.grownBy.refl _ _, (H8.out.has (cs := (List.replicate ky (-22)).map iv) (by simp)).1, .inl ⟨rfl, rfl, rfl⟩⟩⟩
                  case round =>
                    obtain ⟨i, al, cl, nl, hi0, hi1, hnl, rfl, rfl, hF⟩ := hrel
                    by_cases hlt : i < 40
                    · have hwi : IntKind.i64.wrap (i + 1) = i + 1 := wi _ (by omega) (by omega)
                      obtain ⟨a2, c2, w7, r1, r2⟩ := hF.out.step (by omega)
                      rw [← hnl] at r1
                      obtain ⟨n2, hn2⟩ : ∃ n2, nl + 1 = n2 := ⟨_, rfl⟩
                      rw [hn2] at r1
                      have R1 : Keep (_ = _) := ⟨r1⟩
                      have R2 : Keep (Lng w8 w7 yb ky (-22) a2 c2 (i.toNat + 1)) := ⟨r2⟩
                      clear r1 r2 hF
                      go_wp2_with ((at_builtin; refine wpList_append_run _ rfl (.tmp 117) (.tmp 118) 22 rfl _ _ rfl rfl R1.out ?_))
                      refine ⟨⟨i + 1, a2, c2, n2, by omega, by omega, by omega, rfl, rfl, ?_⟩, by simp only [intOf]; omega⟩
                      rw [show (i + 1).toNat = i.toNat + 1 by omega]
                      exact R2
                    · obtain ⟨gw, Wd, rfl, hgl, hst, hpre⟩ := hF.out.fin H8.out (by omega)

                      have hgw2 : gl < gw := by have := (H8.out.has (b := gl) (cs := G) (by simp)).2; omega
                      have H9 : Keep (St w wr rb sb sz Q [(gw, Wd), (yb, (List.replicate ky (-22)).map iv), (bx, (List.replicate kx (-11)).map iv), (gl, G)]) := ⟨hst⟩
                      have HW : Keep (nl = ky + 40 ∧ ∀ j, j < ky + 40 → Wd[j]? = some (.int .i64 (-22))) := ⟨by omega, by have := hpre; rwa [show i.toNat = 40 by omega] at this⟩
                      obtain ⟨nw, hnw⟩ : ∃ nw, nl = nw := ⟨_, rfl⟩
                      rw [hnw] at HW ⊢
                      clear hF hst hpre hgl H8 hi0 hi1 hnl hnw
                      go_wp2_with fail
                      obtain ⟨R, hR⟩ : ∃ R, R = [(gw, Wd), (yb, (List.replicate ky (-22)).map iv), (bx, (List.replicate kx (-11)).map iv), (gl, G)] := ⟨_, rfl⟩
                      rw [← hR] at H9
                      have HR : Keep (R = [(gw, Wd), (yb, (List.replicate ky (-22)).map iv), (bx, (List.replicate kx (-11)).map iv), (gl, G)]) := ⟨hR⟩
                      clear hR
                      go_loopw [20] (fun u wr => ∃ i : Int, 0 ≤ i ∧ i ≤ 10 ∧ u = .int .i64 i ∧ Keep (St w wr rb sb sz (Q ++ List.replicate i.toNat 77) R)) (fun u _ => (10 - (intOf u)).toNat)
                      case atStart => exact ⟨0, by omega, by omega, rfl, ⟨by have := H9.out; simpa using this⟩⟩
                      case round =>
                        obtain ⟨i, hi0, hi1, rfl, hF⟩ := hrel
                        clear H9
                        by_cases hlt : i < 10
                        · have hwi : IntKind.i64.wrap (i + 1) = i + 1 := wi _ (by omega) (by omega)
                          go_wp2_with fail
                          refine (hF.out.push 77 (by rw [List.length_append, List.length_replicate, HZ.out.2.2.1, HSZ.out]; omega)).mono ?_
                          rintro e w9 ⟨rfl, h9⟩
                          rw [List.append_assoc, ← List.replicate_succ'] at h9
                          have H10 : Keep (St w w9 rb sb sz (Q ++ List.replicate (i.toNat + 1) 77) R) := ⟨h9⟩
                          clear h9
                          go_wp2_with fail
                          refine ⟨⟨i + 1, by omega, by omega, rfl, ?_⟩, by simp only [intOf]; omega⟩
                          rw [show (i + 1).toNat = i.toNat + 1 by omega]
                          exact H10
                        · have H10 : Keep (St w wr rb sb sz (Q ++ List.replicate 10 77) R) := ⟨by have := hF.out; rwa [show i.toNat = 10 by omega] at this⟩
                          clear hF hi0 hi1
                          obtain ⟨kl, hkl⟩ : ∃ kl, kl = n - kx - ky + 10 := ⟨_, rfl⟩
                          have HKL : Keep (kl = n - kx - ky + 10) := ⟨hkl⟩
                          have HLL : Keep ((Q ++ List.replicate 10 (77 : Int)).length = kl) := ⟨by rw [List.length_append, List.length_replicate, HZ.out.2.2.1, hkl]⟩
                          have hkl2 : kl ≤ 4096 := by omega
                          clear hkl
                          rename World => w9
                          go_wp2_with fail
                          refine (H10.out.take 4096 kl (by rw [HLL.out]; omega)).mono ?_
                          rintro e w10 ⟨rfl, h10⟩
                          have hbl : ∀ p ∈ R, p.1 < w9.heap.size := fun p hp => (H10.out.has (b := p.1) (cs := p.2) hp).2
                          obtain ⟨bl, hbl2⟩ : ∃ bl, w9.heap.size = bl := ⟨_, rfl⟩
                          rw [hbl2] at h10 hbl ⊢
                          have HBL : Keep (∀ p ∈ R, p.1 < bl) := ⟨hbl⟩
                          rw [List.take_of_length_le (by rw [HLL.out]; exact Nat.le_refl _)] at h10
                          obtain ⟨LL, hLL⟩ : ∃ LL, LL = Q ++ List.replicate 10 (77 : Int) := ⟨_, rfl⟩
                          rw [← hLL] at h10 HLL
                          have HQ : Keep (LL = Q ++ List.replicate 10 (77 : Int)) := ⟨hLL⟩
                          obtain ⟨Q2, hQ2⟩ : ∃ Q2, LL.drop kl = Q2 := ⟨_, rfl⟩
                          rw [hQ2] at h10
                          have H11 : Keep (St w w10 rb sb sz Q2 ((bl, marks (-33) LL 0) :: R)) := ⟨by rw [marks_zero]; exact h10⟩
                          clear h10 H10 hbl hbl2 hLL hQ2
                          go_wp2_with fail
                          go_loopw [22] (fun u wr => ∃ i : Int, 0 ≤ i ∧ i ≤ kl ∧ u = .int .i64 i ∧ Keep (St w wr rb sb sz Q2 ((bl, marks (-33) LL i.toNat) :: R))) (fun u _ => (kl - (intOf u)).toNat)
                          case atStart => exact ⟨0, by omega, by omega, rfl, H11⟩
                          case round =>
                            obtain ⟨i, hi0, hi1, rfl, hF⟩ := hrel
                            clear H11
                            by_cases hlt : i < kl
                            · have hwi : IntKind.i64.wrap (i + 1) = i + 1 := wi _ (by omega) (by omega)
                              obtain ⟨k2, hk2⟩ : ∃ k2 : Int, (kx : Int) + ky = k2 := ⟨_, rfl⟩
                              have hwk2 : IntKind.i64.wrap k2 = k2 := wi _ (by omega) (by omega)
                              obtain ⟨at_, hat⟩ : ∃ at_ : Nat, k2 + i = at_ := ⟨kx + ky + i.toNat, by omega⟩
                              have hwa : IntKind.i64.wrap at_ = at_ := wi _ (by omega) (by omega)
                              have hh := (hF.out.has (b := bl) (cs := marks (-33) LL i.toNat) List.mem_cons_self).1
                              have hf3 : wr.frozen? ⟨bl, i.toNat, none⟩ = false := hh.frozen _
                              have H12 : Keep (∀ k, St w ((wr.drewN k).setCell ⟨bl, i.toNat, none⟩ (.int .i64 (-33))) rb sb sz Q2 ((bl, marks (-33) LL (i.toNat + 1)) :: R)) := by
                                refine ⟨fun k => ?_⟩
                                have := (hF.out.drewN k).put (fun p hp => by have := HBL.out p hp; omega) i.toNat (.int .i64 (-33))
                                rw [marks_succ _ _ _ (by rw [HLL.out]; omega)] at this
                                exact this
                              by_cases hin : at_ < n
                              · obtain ⟨B, o, rfl⟩ := HS.out.some_at (by omega)
                                have hat2 : (at_ : Int) < n := by omega
                                obtain ⟨x, hx⟩ : ∃ x, l[at_]? = some x := ⟨_, List.getElem?_eq_getElem (by rw [HL.out]; omega)⟩
                                have e2 := HS.out.cellAt hF.out.g hx
                                have e3 : wr.cell? ⟨bl, i.toNat, none⟩ = some (.int .i64 x) := by
                                  rw [hh.cell, marks_at _ _ _ _ (Nat.le_refl _), HQ.out, List.getElem?_append_left (by rw [HZ.out.2.2.1]; omega), HZ.out.2.2.2.2, show kx + ky + i.toNat = at_ by omega, hx]; rfl
                                clear hh hx
                                go_wp2_with fail
                                have hd1 : decide ((at_ : Int) < (n : Int)) = true := by simpa using hin
                                have hd2 : decide (n ≤ at_) = false := by simp; omega
                                go_quiet (fail)
                                go_wp2_with fail
                                refine ⟨⟨i + 1, by omega, by omega, rfl, ?_⟩, by simp only [intOf]; omega⟩
                                rw [show (i + 1).toNat = i.toNat + 1 by omega]
                                exact ⟨H12.out _⟩
                              · have hat2 : ¬ ((at_ : Int) < n) := by omega
                                have e3 : wr.cell? ⟨bl, i.toNat, none⟩ = some (.int .i64 77) := by
                                  rw [hh.cell, marks_at _ _ _ _ (Nat.le_refl _), HQ.out, List.getElem?_append_right (by rw [HZ.out.2.2.1]; omega), List.getElem?_replicate, if_pos (by have := HKL.out; rw [HZ.out.2.2.1]; omega)]; rfl
                                clear hh
                                go_wp2_with fail
                                have hd1 : decide ((at_ : Int) < (n : Int)) = false := by simp; omega
                                have hd2 : decide (n ≤ at_) = true := by simp; omega
                                go_quiet (fail)
                                go_wp2_with fail
                                refine ⟨⟨i + 1, by omega, by omega, rfl, ?_⟩, by simp only [intOf]; omega⟩
                                rw [show (i + 1).toNat = i.toNat + 1 by omega]
                                exact ⟨H12.out _⟩
                            · have H12 : Keep (St w wr rb sb sz Q2 R) := ⟨hF.out.sub (fun p hp => by simp [hp])⟩
                              clear hF hi0 hi1
                              rename World => w12
                              have HG2 : Keep (∀ j : Int, 0 ≤ j → j < kx + 40 → w12.cell? ⟨gl, j.toNat, none⟩ = some (.int .i64 (-11))) := ⟨fun j h0 h1 => by rw [(H12.out.has (b := gl) (cs := G) (by rw [HR.out]; simp)).1.cell]; exact HG.out.2 _ (by omega)⟩
                              have HX2 : Keep (∀ j : Int, 0 ≤ j → j < kx → w12.cell? ⟨bx, j.toNat, none⟩ = some (.int .i64 (-11))) := ⟨fun j h0 h1 => by rw [(H12.out.has (b := bx) (cs := (List.replicate kx (-11)).map iv) (by rw [HR.out]; simp)).1.cell, List.getElem?_map, List.getElem?_replicate, if_pos (by omega)]; rfl⟩
                              have HW2 : Keep (∀ j : Int, 0 ≤ j → j < ky + 40 → w12.cell? ⟨gw, j.toNat, none⟩ = some (.int .i64 (-22))) := ⟨fun j h0 h1 => by rw [(H12.out.has (b := gw) (cs := Wd) (by rw [HR.out]; simp)).1.cell]; exact HW.out.2 _ (by omega)⟩
                              have HY2 : Keep (∀ j : Int, 0 ≤ j → j < ky → w12.cell? ⟨yb, j.toNat, none⟩ = some (.int .i64 (-22))) := ⟨fun j h0 h1 => by rw [(H12.out.has (b := yb) (cs := (List.replicate ky (-22)).map iv) (by rw [HR.out]; simp)).1.cell, List.getElem?_map, List.getElem?_replicate, if_pos (by omega)]; rfl⟩
                              have hnl := HG.out.1
                              have hnw := HW.out.1
                              clear HG HW HR HBL HQ HLL HZ
                              go_wp2_with fail
                              go_loopw [24] (fun u wr => ∃ i : Int, 0 ≤ i ∧ i ≤ ng ∧ u = .int .i64 i ∧ SameW w12 wr) (fun u _ => (ng - (intOf u)).toNat)
                              case atStart => exact ⟨0, by omega, by omega, rfl, ⟨rfl⟩⟩
                              case round =>
                                obtain ⟨i, hi0, hi1, rfl, hwr⟩ := hrel
                                have hwq := hwr.e
                                clear hwr
                                subst hwq
                                by_cases hlt : i < ng
                                · have hwi : IntKind.i64.wrap (i + 1) = i + 1 := wi _ (by omega) (by omega)
                                  have e1 := HG2.out i hi0 (by omega)
                                  by_cases hin : i < kx
                                  · have e2 := HX2.out i hi0 hin
                                    go_wp2_with fail
                                    exact ⟨⟨i + 1, by omega, by omega, rfl, ⟨rfl⟩⟩, by simp only [intOf]; omega⟩
                                  · go_wp2_with fail
                                    exact ⟨⟨i + 1, by omega, by omega, rfl, ⟨rfl⟩⟩, by simp only [intOf]; omega⟩
                                · clear hi0 hi1
                                  go_wp2_with fail
                                  go_loopw [25] (fun u wr => ∃ i : Int, 0 ≤ i ∧ i ≤ nw ∧ u = .int .i64 i ∧ SameW w12 wr) (fun u _ => (nw - (intOf u)).toNat)
                                  case atStart => exact ⟨0, by omega, by omega, rfl, ⟨rfl⟩⟩
                                  case round =>
                                    obtain ⟨i, hi0, hi1, rfl, hwr⟩ := hrel
                                    have hwq := hwr.e
                                    clear hwr
                                    subst hwq
                                    by_cases hlt : i < nw
                                    · have hwi : IntKind.i64.wrap (i + 1) = i + 1 := wi _ (by omega) (by omega)
                                      have e1 := HW2.out i hi0 (by omega)
                                      by_cases hin : i < ky
                                      · have e2 := HY2.out i hi0 hin
                                        go_wp2_with fail
                                        exact ⟨⟨i + 1, by omega, by omega, rfl, ⟨rfl⟩⟩, by simp only [intOf]; omega⟩
                                      · go_wp2_with fail
                                        exact ⟨⟨i + 1, by omega, by omega, rfl, ⟨rfl⟩⟩, by simp only [intOf]; omega⟩
                                    · clear hi0 hi1
                                      go_wp2_with fail
                                      have M12 : Keep (Str.Mine w w12 sb 2 []) := by
                                        obtain ⟨v, B, f, _⟩ := H12.out.e
                                        exact ⟨⟨_, f.s, fun i hi => by rcases hi with rfl | hi; exact f.so; cases hi⟩, f.g⟩
                                      clear H12 HG2 HX2 HW2 HY2
                                      refine (Str.my_push M12.out ⟨#[97]⟩ (by decide)).mono ?_
                                      rintro e w13 ⟨rfl, m13⟩
                                      have M13 : Keep (Str.Mine w w13 sb 2 [⟨#[97]⟩]) := ⟨m13⟩
                                      clear m13 M12
                                      go_wp2_with fail
                                      refine (Str.my_push M13.out ⟨#[98]⟩ (by decide)).mono ?_
                                      rintro e w14 ⟨rfl, m14⟩
                                      have M14 : Keep (Str.Mine w w14 sb 2 [⟨#[97]⟩, ⟨#[98]⟩]) := ⟨m14⟩
                                      clear m14 M13
                                      go_wp2_with fail
                                      refine (Str.my_pop M14.out).mono ?_
                                      rintro e w15 ⟨rfl, m15⟩
                                      have M15 : Keep (Str.Mine w w15 sb 2 [⟨#[98]⟩]) := ⟨m15⟩
                                      clear m15 M14
                                      go_wp2_with fail
                                      refine (Str.my_take M15.out 9 1 rfl).mono ?_
                                      rintro e w16 ⟨rfl, m16, h16⟩
                                      have M16 : Keep (Str.Mine w w16 sb 2 []) := ⟨m16⟩
                                      have c16 : w16.cell? ⟨w15.heap.size, 0, none⟩ = some (.string ⟨#[98]⟩) := h16.cellv 0 _ rfl
                                      clear m16 h16 M15
                                      go_wp2_with fail
                                      refine (Str.my_pop_no M16.out).mono ?_
                                      rintro e w' ⟨rfl, hw⟩
                                      subst w'
                                      have G16 : Keep (w.grownBy w16 none) := ⟨M16.out.g⟩
                                      clear M16
                                      obtain ⟨k2, hk2⟩ : ∃ k2 : Int, (kx : Int) + ky = k2 := ⟨_, rfl⟩
                                      have hwk2 : IntKind.i64.wrap k2 = k2 := wi _ (by omega) (by omega)
                                      obtain ⟨k3, hk3⟩ : ∃ k3 : Int, k2 + kl = k3 := ⟨_, rfl⟩
                                      have hwk3 : IntKind.i64.wrap k3 = k3 := wi _ (by omega) (by omega)
                                      have hk4 : (n : Int) + 10 = k3 := by have := HKL.out; omega
                                      go_wp2_with fail
                                      go_ret
                                      exact ⟨rfl, G16.out⟩
end Go.Proofs.Ytflglflggeaokaa
