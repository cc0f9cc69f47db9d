/- the laws' begin. -/
import Derived.Test.YtflglflggeaokaaG1
namespace Go.Proofs.Ytflglflggeaokaa
open Go Go.RowKit Go.Shelf

theorem begin_no (pb : Nat) (at_ sz : Int) (w : World) (hs : ¬ (1 ≤ sz ∧ sz ≤ 4096)) :
    Calls Try.prog 23 #[.pointer (some ⟨pb, 0, none⟩), .int .i64 at_, .int .i64 sz] w fun e w' => e = .returned (.bool true) ∧ w' = w := by
  go_enter Try.func23, Try.ntmps23
  go_wp2_with (first
    | (go_at_call 9; refine (new_no sz _ hs).mono ?_; rintro e w' ⟨rfl, rfl⟩)
    | (go_at_call 33; refine (dnew_no sz _ hs).mono ?_; rintro e w' ⟨rfl, rfl⟩)
    | (go_at_call 10; refine (num_c _ _).mono ?_; rintro e w' ⟨rfl, rfl⟩))
  go_ret
  exact ⟨rfl, rfl⟩
theorem begin_yes (pb : Nat) (cs : List Value) (k : Nat) (sz : Nat) (w : World) (hk : k < 2) (h1 : 1 ≤ sz) (h2 : sz ≤ 4096) (hp : Has w pb cs 57) (hl : cs.length = 6) :
    Calls Try.prog 23 #[.pointer (some ⟨pb, 0, none⟩), .int .i64 k, .int .i64 sz] w fun e w' => e = .returned (.bool true) ∧ ∃ rb db w2, w.grownBy w2 none ∧ (pairO rb (.slice none 0 0) db none sz [] []).P w2 ∧ w.heap.size ≤ rb ∧ w.heap.size ≤ db ∧ w' = (w2.setCell ⟨pb, k, none⟩ (.pointer (some ⟨rb, 0, none⟩))).setCell ⟨pb, 2 + k, none⟩ (.pointer (some ⟨db, 0, none⟩)) := by
  have HP : Keep (Has w pb cs 57 ∧ cs.length = 6) := ⟨hp, hl⟩
  clear hp hl
  go_enter Try.func23, Try.ntmps23
  go_wp2_with (first
    | (go_at_call 9; refine (new_yes sz _ h1 h2).mono ?_; rintro e w1 ⟨rfl, r1, r2, r3⟩))
  have HR : Keep (RingAt w1 w.heap.size (.slice none 0 0) sz [] ∧ w.grownBy w1 none ∧ w1.heap.size = w.heap.size + 1) := ⟨r1, r2, r3⟩
  clear r1 r2 r3
  go_wp2_with (first
    | (go_at_call 33; refine (dnew_yes sz _ h1 h2).mono ?_; rintro e w2 ⟨rfl, d1, d2, d3⟩))
  have HD : Keep (DAt w2 w1.heap.size none 0 sz [] ∧ w1.grownBy w2 none ∧ w2.heap.size = w1.heap.size + 1) := ⟨d1, d2, d3⟩
  clear d1 d2 d3
  have hg : w.grownBy w2 none := HR.out.2.1.trans HD.out.2.1
  have HP2 := HP.out.1.kept hg (by simp)
  have HG : Keep (w.grownBy w2 none) := ⟨hg⟩
  have hf := fun j => HP2.frozen j
  have hc0 : w2.cell? ⟨pb, 0, none⟩ = some (cs[0]'(by rw [HP.out.2]; decide)) := HP2.cellv 0 _ (by simp)
  have hc1 : w2.cell? ⟨pb, 1, none⟩ = some (cs[1]'(by rw [HP.out.2]; decide)) := HP2.cellv 1 _ (by simp)
  have hc2 : w2.cell? ⟨pb, 2, none⟩ = some (cs[2]'(by rw [HP.out.2]; decide)) := HP2.cellv 2 _ (by simp)
  have hc3 : w2.cell? ⟨pb, 3, none⟩ = some (cs[3]'(by rw [HP.out.2]; decide)) := HP2.cellv 3 _ (by simp)
  have f0 := hf 0
  have f1 := hf 1
  have f2 := hf 2
  have f3 := hf 3
  clear hf hg HP2
  obtain ⟨rb, hrb⟩ : ∃ rb, w.heap.size = rb := ⟨_, rfl⟩
  obtain ⟨db, hdb⟩ : ∃ db, w1.heap.size = db := ⟨_, rfl⟩
  rw [hrb] at HR ⊢
  rw [hdb] at HR HD ⊢
  have HPAIR : Keep ((pairO rb (.slice none 0 0) db none sz [] []).P w2 ∧ w.heap.size ≤ rb ∧ w.heap.size ≤ db) := by
    refine ⟨⟨HR.out.1.kept HD.out.2.1, ⟨0, HD.out.1⟩, fun i hi e => ?_⟩, by omega, by have := HR.out.2.2; omega⟩
    have q1 : i = rb := by rcases hi with rfl | hi; rfl; cases hi
    have q2 : i = db := by rcases e with rfl | ⟨o, e⟩; rfl; cases e
    have := HR.out.2.2
    omega
  clear HR HD hrb hdb
  rcases (by omega : k = 0 ∨ k = 1) with rfl | rfl
  all_goals
    go_wp2_with (first
      | (go_at_call 10; refine (num_c _ _).mono ?_; rintro e w' ⟨rfl, rfl⟩))
    go_ret
    exact ⟨rfl, rb, db, _, HG.out, HPAIR.out.1, HPAIR.out.2.1, HPAIR.out.2.2, rfl⟩
end Go.Proofs.Ytflglflggeaokaa
