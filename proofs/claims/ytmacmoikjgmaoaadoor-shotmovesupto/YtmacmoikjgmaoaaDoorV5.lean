/- vec: Turn, Unit, along, Sub, Dist2, Within; the reference's. -/
import Derived.Test.YtmacmoikjgmaoaaDoorV2
import Derived.Test.YtmacmoikjgmaoaaDoorV3
import Derived.Test.YtmacmoikjgmaoaaDoorS2
namespace Go.Proofs.YtmacmoikjgmaoaaDoor
open Go Go.RowKit

set_option maxRecDepth 100000 in
theorem Has.two {W : World} {rb : Nat} {p q : Value} (h : Has W rb [p, q] 24) (u v : Value) : Has ((W.setCell ⟨rb, 0, none⟩ u).setCell ⟨rb, 1, none⟩ v) rb [u, v] 24 := (h.setCell 0 _).setCell 1 _
set_option maxRecDepth 100000 in
theorem gr_two {w W : World} {rb : Nat} (g : w.grownBy W none) (hl : w.heap.size ≤ rb) (u v : Value) : w.grownBy ((W.setCell ⟨rb, 0, none⟩ u).setCell ⟨rb, 1, none⟩ v) none := gr_new g ((gr_set W rb 0 u).trans (gr_set _ rb 1 v)) hl

/-- places that lie in boxes of the call's own, and the table -/
structure Bx (w0 W : World) (L : List (Nat × Int × Int)) : Prop where
  g : w0.grownBy W none
  k : Kc W
  has : ∀ b x y, (b, x, y) ∈ L → Has W b [.int .i64 x, .int .i64 y] 24
  lo : ∀ p ∈ L, w0.heap.size ≤ p.1
  nd : L.Pairwise (fun p q => p.1 ≠ q.1)
set_option maxRecDepth 100000 in
theorem Bx.start {w : World} (h : Kc w) : Bx w w [] := ⟨World.grownBy.refl w _, h, fun _ _ _ h => (by cases h), fun _ h => (by cases h), List.Pairwise.nil⟩
set_option maxRecDepth 100000 in
theorem Bx.kept {w0 W W' : World} {L : List (Nat × Int × Int)} (h : Bx w0 W L) (g : W.grownBy W' none) : Bx w0 W' L :=
  ⟨h.g.trans g, h.k.kept g, fun b x y hm => (h.has b x y hm).kept g (by simp), h.lo, h.nd⟩
set_option maxRecDepth 100000 in
theorem Bx.new {w0 W : World} {L : List (Nat × Int × Int)} (h : Bx w0 W L) (x y : Int) : Bx w0 (W.alloc (.cells #[.int .i64 x, .int .i64 y] 24)) ((W.heap.size, x, y) :: L) := by
  have h1 := h.kept (gr_alloc W (.cells #[.int .i64 x, .int .i64 y] 24) none)
  refine ⟨h1.g, h1.k, fun b x' y' hm => ?_, fun p hm => ?_, List.Pairwise.cons (fun q hq e => ?_) h.nd⟩
  · rcases List.mem_cons.1 hm with e | hm
    · cases e; exact Has.newA W _ 24
    · exact h1.has b x' y' hm
  · rcases List.mem_cons.1 hm with e | hm
    · cases e; exact h.g.size
    · exact h.lo p hm
  · obtain ⟨b, x', y'⟩ := q
    have := (h.has b x' y' hq).lt
    simp at e
    omega
set_option maxRecDepth 100000 in
theorem Bx.put {w0 W : World} {L : List (Nat × Int × Int)} {b : Nat} {x y : Int} (h : Bx w0 W ((b, x, y) :: L)) (u v : Int) : Bx w0 ((W.setCell ⟨b, 0, none⟩ (.int .i64 u)).setCell ⟨b, 1, none⟩ (.int .i64 v)) ((b, u, v) :: L) := by
  have hb := h.has b x y (.head _)
  have hlt : 0 < b := by
    apply Nat.pos_of_ne_zero
    intro e
    subst e
    have h1 := hb.cellv 0 _ rfl
    rw [h.k 0 (by omega)] at h1
    simp at h1
  have hg : W.grownBy ((W.setCell ⟨b, 0, none⟩ (.int .i64 u)).setCell ⟨b, 1, none⟩ (.int .i64 v)) (some b) := (gr_set W b 0 _).trans (gr_set _ b 1 _)
  refine ⟨gr_two h.g (h.lo _ (.head _)) _ _, fun j hj => ?_, fun c x' y' hm => ?_, fun p hm => ?_, List.Pairwise.cons (List.pairwise_cons.1 h.nd).1 (List.pairwise_cons.1 h.nd).2⟩
  · have h1 := h.k j hj
    have hlt2 : 0 < W.heap.size := by have := hb.lt; omega
    have hbl := hg.block 0 hlt2 (by simp; omega)
    rw [← h1]
    simp only [World.cell?, hbl]
  · rcases List.mem_cons.1 hm with e | hm
    · cases e; exact hb.two _ _
    · exact (h.has c x' y' (.tail _ hm)).kept hg (by have := (List.pairwise_cons.1 h.nd).1 _ hm; simp at this; simp; omega)
  · rcases List.mem_cons.1 hm with e | hm
    · cases e; exact h.lo (b, x, y) (.head _)
    · exact h.lo p (.tail _ hm)
set_option maxRecDepth 100000 in
set_option maxHeartbeats 2000000 in
theorem unit_c (h : Int) (w : World) (hk : Kc w) :
    Calls Tryd.prog 16 #[.int .i64 h] w fun e w' => e = .returned (vv (sinZ (h + 64)) (sinZ h)) ∧ w.grownBy w' none := by
  have c1 := fun W (hk : Kc W) => cos_c h W hk
  have c2 := fun W (hk : Kc W) => sin_c h W hk
  generalize sinZ (h + 64) = u at *
  generalize sinZ h = v at *
  have HB := Keep.mk ((Bx.start hk).new 0 0)
  have c1 := c1 _ HB.out.k
  have c2 := c2 _ HB.out.k
  clear hk
  generalize hW : w.alloc (.cells #[.int .i64 0, .int .i64 0] 24) = W at HB c1 c2
  go_enter Tryd.func16, Tryd.ntmps16
  go_wp2_with fail
  generalize w.heap.size = rb at HB ⊢
  refine c1.mono ?_
  rintro e w' ⟨rfl, hw⟩; rw [hw]
  go_wp2_with fail
  refine c2.mono ?_
  rintro e w' ⟨rfl, hw⟩; rw [hw]
  have HR := Keep.mk (HB.out.put u v)
  have x0 := (HB.out.has _ _ _ (.head _)).cellv 0 _ rfl
  have x1 := (HB.out.has _ _ _ (.head _)).cellv 1 _ rfl
  have y0 := (HB.out.has _ _ _ (.head _)).frozen 0
  have y1 := (HB.out.has _ _ _ (.head _)).frozen 1
  clear c1 c2
  go_wp2_with fail
  obtain ⟨du, hdu, hdr⟩ := underVc
  exact ret_cell rfl rfl (HR.out.has _ _ _ (.head _)) hdu hdr infoVc rfl ⟨rfl, HR.out.g⟩
set_option maxRecDepth 100000 in
set_option maxHeartbeats 2000000 in
theorem runit_c (h : Int) (hI : In h) (w : World) (hk : Kc w) :
    Calls Tryd.prog 38 #[.int .i64 h] w fun e w' => e = .returned (vv (sinZ (h + 64)) (sinZ h)) ∧ w.grownBy w' none := by
  have c1 := fun W => rcos_c h W
  have c2 := fun W => rsin_c h hI W
  generalize sinZ (h + 64) = u at *
  generalize sinZ h = v at *
  have HB := Keep.mk ((Bx.start hk).new 0 0)
  clear hk
  generalize hW : w.alloc (.cells #[.int .i64 0, .int .i64 0] 24) = W at HB
  go_enter Tryd.func38, Tryd.ntmps38
  go_wp2_with fail
  generalize w.heap.size = rb at HB ⊢
  refine (c1 _).mono ?_
  rintro e w1 ⟨rfl, hg⟩
  have HB1 := Keep.mk (HB.out.kept hg)
  clear hg HB hW
  go_wp2_with fail
  refine (c2 _).mono ?_
  rintro e w2 ⟨rfl, hg⟩
  have HB := Keep.mk (HB1.out.kept hg)
  clear hg HB1
  have HR := Keep.mk (HB.out.put u v)
  have x0 := (HB.out.has _ _ _ (.head _)).cellv 0 _ rfl
  have x1 := (HB.out.has _ _ _ (.head _)).cellv 1 _ rfl
  have y0 := (HB.out.has _ _ _ (.head _)).frozen 0
  have y1 := (HB.out.has _ _ _ (.head _)).frozen 1
  clear c1 c2
  go_wp2_with fail
  obtain ⟨du, hdu, hdr⟩ := underVc
  exact ret_cell rfl rfl (HR.out.has _ _ _ (.head _)) hdu hdr infoVc rfl ⟨rfl, HR.out.g⟩
set_option maxRecDepth 100000 in
theorem mul_bd (a x : Int) (ha : -65536 ≤ a ∧ a ≤ 65536) (hx : -2147483647 ≤ x ∧ x ≤ 2147483647) : -140737488289792 ≤ a * x ∧ a * x ≤ 140737488289792 := by
  have h1 : 0 ≤ (65536 - a) * (2147483647 + x) := Int.mul_nonneg (by omega) (by omega)
  have h2 : 0 ≤ (65536 + a) * (2147483647 - x) := Int.mul_nonneg (by omega) (by omega)
  have h3 : 0 ≤ (65536 - a) * (2147483647 - x) := Int.mul_nonneg (by omega) (by omega)
  have h4 : 0 ≤ (65536 + a) * (2147483647 + x) := Int.mul_nonneg (by omega) (by omega)
  constructor <;> grind
set_option maxRecDepth 100000 in
theorem sin_range (h : Int) : -65536 ≤ sinZ h ∧ sinZ h ≤ 65536 := by
  unfold sinZ
  have h1 := Int.emod_nonneg h (show (256 : Int) ≠ 0 by omega)
  have h2 := Int.emod_lt_of_pos h (show (0 : Int) < 256 by omega)
  split
  · have := rz_range (h % 256 - 128) (by omega) (by omega); omega
  · have := rz_range (h % 256) (by omega) (by omega); omega
/-- how far a way leads along a heading -/
def pr (h x y : Int) : Int := sinZ (h + 64) * x + sinZ h * y
set_option maxRecDepth 100000 in
theorem pr_range (h x y : Int) (hx : -2147483647 ≤ x ∧ x ≤ 2147483647) (hy : -2147483647 ≤ y ∧ y ≤ 2147483647) : -281474976579584 ≤ pr h x y ∧ pr h x y ≤ 281474976579584 := by
  have h1 := mul_bd _ x (sin_range (h + 64)) hx
  have h2 := mul_bd _ y (sin_range h) hy
  unfold pr
  omega
end Go.Proofs.YtmacmoikjgmaoaaDoor
