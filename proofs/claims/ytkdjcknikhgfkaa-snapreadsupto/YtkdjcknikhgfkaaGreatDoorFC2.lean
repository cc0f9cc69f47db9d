import Derived.Test.YtkdjcknikhgfkaaGreatDoorFC1
import Derived.Deep.RegionHeld
/- frame.Body, Sealed -/
namespace Go.Proofs.YtkdjcknikhgfkaaGreatDoor.Pk
open Go Go.RowKit

def bodyB (s : ByteArray) : ByteArray := ba (bodyL (sl s))
set_option maxRecDepth 100000 in
theorem ext_to (s : ByteArray) (n : Nat) : s.extract 0 n = ba ((sl s).take n) := by
  apply sl_inj
  rw [sl_mk]
  simp only [sl, ByteArray.data_extract, Array.toList_extract, List.extract, Nat.sub_zero, List.drop_zero]
set_option maxRecDepth 100000 in
theorem ba_size (l : List UInt8) : (ba l).size = l.length := by simp [ByteArray.size]
set_option maxHeartbeats 4000000 in
set_option maxRecDepth 100000 in
theorem body_c (s : ByteArray) (w : World) (hs : s.size ≤ 281474976710656) :
    Calls Tryz.prog 49 #[.string s] w fun e w' => e = .returned (.string (bodyB s)) ∧ w.grownBy w' none := by
  by_cases h36 : s.size < 36
  · have hb : bodyB s = nob := by rw [bodyB, bodyL, if_pos (.inl (by rw [sl_len]; exact h36))]; rfl
    rw [hb]
    have hd : decide ((s.size : Int) < 36) = true := decide_eq_true (by omega)
    clear h36 hb
    go_enter Tryz.func49, Tryz.ntmps49
    go_wp2_with fail
    go_ret
    exact ⟨rfl, World.grownBy.refl _ _⟩
  · have hd : decide ((s.size : Int) < 36) = false := decide_eq_false (by omega)
    have HK := Keep.mk (kind_c s w (by omega))
    by_cases ht : 3 ≤ kindL (sl s) ∧ kindL (sl s) ≤ 7
    · have hb : bodyB s = ba ((sl s).take (s.size - 32)) := by rw [bodyB, bodyL, if_neg (by rw [sl_len]; simp [ht]; omega), sl_len]
      rw [hb]
      have HT := Keep.mk (tagged_c (kindL (sl s)) w)
      rw [decide_eq_true ht] at HT
      obtain ⟨m, hm⟩ : ∃ m, s.size - 32 = m := ⟨_, rfl⟩
      have hi : IntKind.i64.wrap ((s.size : Int) - 32) = (m : Int) := by rw [show (s.size : Int) - 32 = (m : Int) by omega]; exact IntWalk.i64_in _ (by omega)
      rw [hm]
      have hsz : (ba ((sl s).take m)).size ≤ 281474976710656 := by rw [ba_size, List.length_take, sl_len]; omega
      have hT := ext_to s m
      generalize ba ((sl s).take m) = T at hT hsz ⊢
      have hm0 : (m : Int) ≤ s.size := by omega
      generalize kindL (sl s) = k at HK HT
      have HZ := Keep.mk hsz
      clear ht hb hm hsz h36
      go_enter Tryz.func49, Tryz.ntmps49
      go_wp2_with fail
      refine HK.out.mono ?_
      rintro e w1 ⟨rfl, rfl⟩
      go_wp2_with fail
      refine HT.out.mono ?_
      rintro e w1 ⟨rfl, rfl⟩
      go_wp2_with fail
      refine (clone_c T _ HZ.out).mono ?_
      rintro e w1 ⟨rfl, g1⟩
      have HG := Keep.mk g1
      clear g1
      go_wp2_with fail
      go_ret
      exact ⟨rfl, HG.out⟩
    · have hb : bodyB s = nob := by rw [bodyB, bodyL, if_pos (.inr ht)]; rfl
      rw [hb]
      have HT := Keep.mk (tagged_c (kindL (sl s)) w)
      rw [decide_eq_false ht] at HT
      generalize kindL (sl s) = k at HK HT
      clear ht hb h36
      go_enter Tryz.func49, Tryz.ntmps49
      go_wp2_with fail
      refine HK.out.mono ?_
      rintro e w1 ⟨rfl, rfl⟩
      go_wp2_with fail
      refine HT.out.mono ?_
      rintro e w1 ⟨rfl, rfl⟩
      go_wp2_with fail
      go_ret
      exact ⟨rfl, World.grownBy.refl _ _⟩
end Go.Proofs.YtkdjcknikhgfkaaGreatDoor.Pk
