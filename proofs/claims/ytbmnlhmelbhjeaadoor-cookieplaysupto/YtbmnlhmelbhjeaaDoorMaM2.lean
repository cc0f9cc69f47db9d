/- mac.begin -/
import Derived.Test.YtbmnlhmelbhjeaaDoorMaM1
namespace Go.Proofs.YtbmnlhmelbhjeaaDoor
open Go Go.RowKit

structure BG (w w' : World) (k : List UInt8) (x : UInt8) (i : Nat) : Prop where
  k : Has w' w.heap.size ((Mac.kx x (k.take i) ++ k.drop i).map bv) 61
  g : w.grownBy w' none
theorem kx_step (k : List UInt8) (x y : UInt8) (i : Nat) (hy : k[i]? = some y) : (Mac.kx x (k.take i) ++ k.drop i).set i (y ^^^ x) = Mac.kx x (k.take (i + 1)) ++ k.drop (i + 1) := by
  obtain ⟨h1, e1⟩ := List.getElem?_eq_some_iff.1 hy
  have hl : (Mac.kx x (k.take i)).length = i := by rw [Mac.kx_len, List.length_take]; omega
  rw [List.set_append_right _ _ (by omega), hl, Nat.sub_self, List.drop_eq_getElem_cons h1, List.set_cons_zero, List.take_succ_eq_append_getElem h1, e1, Mac.kx, Mac.kx, List.map_append]
  simp
theorem kx_at (k : List UInt8) (x y : UInt8) (i : Nat) (hy : k[i]? = some y) : (Mac.kx x (k.take i) ++ k.drop i)[i]? = some y := by
  obtain ⟨h1, e1⟩ := List.getElem?_eq_some_iff.1 hy
  have hl : (Mac.kx x (k.take i)).length = i := by rw [Mac.kx_len, List.length_take]; omega
  rw [List.getElem?_append_right (by omega), hl, Nat.sub_self, List.getElem?_drop, Nat.add_zero, hy]

set_option maxRecDepth 100000 in
set_option maxHeartbeats 4000000 in
theorem begin_any (k : List UInt8) (A : Array Value) (x : UInt8) (w : World) (hA : Keep (A = (k.map bv).toArray)) (h64 : k.length = 64) (hk : Kc w) :
    Calls Tryd.prog 28 #[.agg A, .int .u8 x.toNat] w fun e w' => ∃ b, e = .returned (.pointer (some ⟨b, 0, none⟩)) ∧ HashOf w' b (Mac.kx x k) ∧ w.grownBy w' none ∧ w.heap.size ≤ b := by
  have HK : Keep (Kc w) := ⟨hk⟩
  clear hk
  go_enter Tryd.func28, Tryd.ntmps28
  go_wp2
  go_loopw [7] (fun t w' => ∃ i : Nat, i ≤ 64 ∧ t = .int .i64 i ∧ Keep (BG w w' k x i)) (fun t _ => 64 - (intOf t).toNat)
  case atStart => exact ⟨0, by omega, rfl, ⟨by rw [hA.out]; exact Has.new _ _ _, World.grownBy_alloc _ _ _⟩⟩
  case round =>
    obtain ⟨i, hi, rfl, hrel⟩ := hrel
    by_cases hli : i < 64
    · obtain ⟨y, hy⟩ : ∃ y, k[i]? = some y := ⟨_, List.getElem?_eq_getElem (by omega)⟩
      obtain ⟨v, hv⟩ : ∃ v, y ^^^ x = v := ⟨_, rfl⟩
      have hc : wr.cell? ⟨w.heap.size, i, none⟩ = some (.int .u8 y.toNat) := hrel.out.k.cellv i _ (by rw [List.getElem?_map, kx_at k x y i hy]; rfl)
      have hf := hrel.out.k.frozen i
      have c1 := c_xor y x
      rw [hv] at c1
      have H2 : Keep (BG w (wr.setCell ⟨w.heap.size, i, none⟩ (.int .u8 v.toNat)) k x (i + 1)) := ⟨by
        have := hrel.out.k.setCell i (bv v)
        rw [← List.map_set, ← hv, kx_step k x y i hy, hv] at this
        exact this, gr_new hrel.out.g (gr_set _ _ _ _) (Nat.le_refl _)⟩
      clear hrel hy hv
      go_wp2
      refine ⟨⟨i + 1, by omega, by go_num, H2⟩, ?_⟩
      simp [intOf]; omega
    · have HE : Keep (Has wr w.heap.size ((Mac.kx x k).map bv) 61 ∧ w.grownBy wr none ∧ Kc wr) := ⟨by
        obtain rfl : i = 64 := by omega
        have h := hrel.out.k
        rw [List.take_of_length_le (by omega), List.drop_of_length_le (by omega), List.append_nil] at h
        exact ⟨h, hrel.out.g, HK.out.kept hrel.out.g (by simp)⟩⟩
      clear hrel
      go_wp2_with (first
        | (go_at_call 39; refine (new_any _).mono ?_; rintro e w1 ⟨rfl, h1, g1⟩
           have H1 : Keep (HashOf w1 wr.heap.size [] ∧ Bytes wr.heap.size w1 (some ⟨w.heap.size, 0, none⟩) 64 64 (Mac.kx x k) ∧ w.grownBy w1 none ∧ Kc w1 ∧ w.heap.size ≤ wr.heap.size ∧ 0 ≠ wr.heap.size) := ⟨h1, by
             refine ⟨by rw [Mac.kx_len, h64], Nat.le_refl _, fun _ => ⟨_, 0, rfl, by have := HE.out.1.lt; omega, fun j y hy => ?_⟩⟩
             rw [Nat.zero_add]
             exact (HE.out.1.kept g1 (by simp)).cellv j _ (by rw [List.getElem?_map, hy]; rfl), HE.out.2.1.trans g1, HE.out.2.2.kept g1 (by simp), HE.out.2.1.size, by have := HE.out.2.2.lt; omega⟩
           clear h1 g1)
        | (go_at_call 30; refine (write_any _ _ 64 64 [] (Mac.kx x k) w1 H1.out.1 H1.out.2.2.2.1 H1.out.2.2.2.2.2 H1.out.2.1 (by rw [Mac.kx_len, h64]; decide)).mono ?_; rintro e w3 ⟨rfl, h3, g3⟩; have H3 : Keep (HashOf w3 wr.heap.size (Mac.kx x k) ∧ w.grownBy w3 none) := ⟨h3, gr_new H1.out.2.2.1 g3 H1.out.2.2.2.2.1⟩; clear h3 g3))
      go_ret
      exact ⟨_, rfl, H3.out.1, H3.out.2, H1.out.2.2.2.2.1⟩
end Go.Proofs.YtbmnlhmelbhjeaaDoor
