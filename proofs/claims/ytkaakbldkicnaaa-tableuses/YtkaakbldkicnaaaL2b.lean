/- TableUses: many keys, none. -/
import Derived.Test.YtkaakbldkicnaaaL2
namespace Go.Proofs.Ytkaakbldkicnaaa
open Go Go.RowKit Go.Maps

set_option maxRecDepth 100000 in
set_option maxHeartbeats 8000000 in
theorem uses_long (sz : Nat) (a : Option Addr) (n cap : Nat) (w : World) (hn : 120 < n) (hn2 : n ≤ 4611686018427387904) (h1 : 1 ≤ sz) (h2 : sz ≤ 4096) :
    Calls Try.prog 6 #[iv (sz : Nat), .slice a n cap] w fun r w' => r = .returned (.bool true) ∧ w.grownBy w' none := by
  have h1' : ¬ ((sz : Int) < 1) := by omega
  have h2' : ¬ (4096 < (sz : Int)) := by omega
  have hnb : (120 : Int) < (n : Int) := by omega
  go_enter Try.func6, Try.ntmps6
  go_wp2_with fail
  refine (alive_c _).mono ?_
  rintro r w1 ⟨rfl, g1⟩
  have G1 : Keep (w.grownBy w1 none) := ⟨g1⟩
  clear g1
  go_wp2_with fail
  refine (new_s sz (Sep.start G1.out) h1 (by omega)).mono ?_
  rintro r w2 ⟨tb, rfl, S2⟩
  have G2 : Keep (w.grownBy w2 none) := ⟨S2.g⟩
  clear S2 G1
  go_wp2_with fail
  refine (num_c 0 _).mono ?_
  rintro r w' ⟨rfl, hw⟩
  subst w'
  go_wp2_with fail
  refine (num_c 0 _).mono ?_
  rintro r w' ⟨rfl, hw⟩
  subst w'
  go_wp2_with fail
  go_ret
  exact ⟨rfl, G2.out⟩
set_option maxRecDepth 100000 in
set_option maxHeartbeats 8000000 in
theorem uses_nil (sz : Nat) (w : World) (h1 : 1 ≤ sz) (h2 : sz ≤ 4096) :
    Calls Try.prog 6 #[iv (sz : Nat), .slice none 0 0] w fun r w' => r = .returned (.bool true) ∧ w.grownBy w' none := by
  have h1' : ¬ ((sz : Int) < 1) := by omega
  have h2' : ¬ (4096 < (sz : Int)) := by omega
  go_enter Try.func6, Try.ntmps6
  go_wp2_with fail
  refine (alive_c _).mono ?_
  rintro r w1 ⟨rfl, g1⟩
  have G1 : Keep (w.grownBy w1 none) := ⟨g1⟩
  clear g1
  go_wp2_with fail
  refine (new_s sz (Sep.start G1.out) h1 (by omega)).mono ?_
  rintro r w2 ⟨tb, rfl, S2⟩
  have G2 : Keep (w.grownBy w2 none) := ⟨S2.g⟩
  clear S2 G1
  go_wp2_with fail
  refine (num_c 0 _).mono ?_
  rintro r w' ⟨rfl, hw⟩
  subst w'
  go_wp2_with fail
  go_loopw [7, 8] (fun u v wr => wr = w2 ∧ u = .slice none 0 0 ∧ v = .int .i64 0) (fun _ _ _ => 0)
  case atStart => exact ⟨rfl, rfl, rfl⟩
  case round =>
    obtain ⟨rfl, rfl, rfl⟩ := hrel
    go_wp2_with fail
    go_ret
    exact ⟨rfl, G2.out⟩
theorem uses_c (sz : Int) (v : Value) (K : List ByteArray) (w : World) (hS : Str w v K) (hl : K.length ≤ 8796093022207) (hs : ∀ x ∈ K, x.size ≤ 140737488351232) :
    Calls Try.prog 6 #[iv sz, v] w fun r w' => r = .returned (.bool true) ∧ w.grownBy w' none := by
  by_cases h : 1 ≤ sz ∧ sz ≤ 4096
  · obtain ⟨n, rfl⟩ : ∃ n : Nat, sz = n := ⟨sz.toNat, by omega⟩
    rcases hS.o with ⟨rfl, rfl⟩ | ⟨a, cap, rfl, q⟩
    · exact uses_nil n w (by omega) (by omega)
    · by_cases hn : 120 < K.length
      · exact uses_long n _ _ cap w hn (by omega) (by omega) (by omega)
      · exact uses_yes n a _ cap K w rfl (by omega) hs q (by omega) (by omega)
  · exact uses_no sz v w h
end Go.Proofs.Ytkaakbldkicnaaa
