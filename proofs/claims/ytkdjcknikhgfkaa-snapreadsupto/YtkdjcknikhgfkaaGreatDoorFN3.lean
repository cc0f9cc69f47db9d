import Derived.Test.YtkdjcknikhgfkaaGreatDoorFN2
/- the reference's long, the third kind -/
namespace Go.Proofs.YtkdjcknikhgfkaaGreatDoor.Pk
open Go Go.RowKit
set_option maxHeartbeats 4000000 in
set_option maxRecDepth 100000 in
theorem rlong_3 (s : ByteArray) (w : World) (hy : (sl s)[3]? = some 3) (hl : 3 < s.size) :
    Calls Tryz.prog 125 #[.string s] w fun e w' => e = .returned (.bool (decide (93 ≤ s.size ∧ s.size = 93 + ((sl s).getD 60 0).toNat))) ∧ w' = w := by
  have ix : ∀ W, (Instr.index 9 (.string s) (.int .i64 3)).run Tryz.prog W = .ok (.int .u8 3) W := fun W => idx9 s 3 3 hl hy W
  by_cases h : 93 ≤ s.size
  · obtain ⟨y, hy6⟩ : ∃ y, (sl s)[60]? = some y := ⟨_, List.getElem?_eq_getElem (by rw [sl_len]; omega)⟩
    have hg : (sl s).getD 60 0 = y := by simp [List.getD, hy6]
    rw [hg]
    have hyl := UInt8.toNat_lt y
    have ix6 : ∀ W, (Instr.index 9 (.string s) (.int .i64 60)).run Tryz.prog W = .ok (.int .u8 y.toNat) W := fun W => idx9 s 60 y (by omega) hy6 W
    obtain ⟨z, hz⟩ : ∃ z : Int, (y.toNat : Int) = z := ⟨_, rfl⟩
    have ix7 : ∀ W, (Instr.index 9 (.string s) (.int .i64 60)).run Tryz.prog W = .ok (.int .u8 z) W := fun W => by rw [ix6 W, hz]
    have z0 : 0 ≤ z := by omega
    have z1 : z ≤ 255 := by omega
    have w1 : IntKind.i64.wrap z = z := IntWalk.i64_in _ (by omega)
    have w2 : IntKind.i64.wrap (93 + z) = 93 + z := IntWalk.i64_in _ (by omega)
    have h93 : (93 : Int) ≤ (s.size : Int) := by omega
    by_cases he : s.size = 93 + y.toNat
    · rw [decide_eq_true ⟨h, he⟩]
      have he2 : (s.size : Int) = 93 + z := by omega
      have h94 : (93 : Int) ≤ 93 + z := by omega
      have h95 : decide ((93 : Int) ≤ 93 + z) = true := decide_eq_true (by omega)
      clear ix6 hz hyl he h hy6 hg h93 hy
      go_enter Tryz.func125, Tryz.ntmps125
      go_wp2_with fail
      go_ret
      exact ⟨rfl, rfl⟩
    · rw [decide_eq_false (fun q => he q.2)]
      obtain ⟨m, hm⟩ : ∃ m : Int, (s.size : Int) = m := ⟨_, rfl⟩
      have he2 : ¬ m = 93 + z := by omega
      have he3 : (m == 93 + z) = false := by simp; omega
      have he4 : decide (m = 93 + z) = false := decide_eq_false he2
      rw [hm] at h93
      clear ix6 hz hyl he h hy6 hg hy
      go_enter Tryz.func125, Tryz.ntmps125
      go_wp2_with fail
      go_ret
      exact ⟨rfl, rfl⟩
  · rw [decide_eq_false (fun q => h q.1)]
    have h1 : ¬ (93 : Int) ≤ (s.size : Int) := by omega
    have h2 : decide ((93 : Int) ≤ (s.size : Int)) = false := decide_eq_false h1
    go_enter Tryz.func125, Tryz.ntmps125
    go_wp2_with fail
    go_ret
    exact ⟨rfl, rfl⟩
end Go.Proofs.YtkdjcknikhgfkaaGreatDoor.Pk
