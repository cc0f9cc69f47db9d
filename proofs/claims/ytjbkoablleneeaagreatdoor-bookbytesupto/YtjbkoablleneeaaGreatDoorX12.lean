import Derived.Test.YtjbkoablleneeaaGreatDoorX11
/- the reference's number, cut, take; a text with its sum behind -/
namespace Go.Proofs.YtjbkoablleneeaaGreatDoor.Pk
open Go Go.RowKit

theorem sl_at (s : ByteArray) (i : Nat) (h : i < s.size) : (sl s)[i]? = some s[i] := by
  unfold sl
  rw [Array.getElem?_toList]
  exact Array.getElem?_eq_getElem h
theorem idx9 (s : ByteArray) (i : Nat) (y : UInt8) (h : i < s.size) (hy : (sl s)[i]? = some y) (W : World) : (Instr.index 9 (.string s) (.int .i64 (i : Int))).run Tryz.prog W = .ok (.int .u8 y.toNat) W := by
  rw [run_index_string W 9 s .i64 i (by kernel_rfl), dif_pos ⟨by omega, by omega⟩]
  rw [sl_at s i h] at hy
  simp only [Int.toNat_natCast, Option.some.inj hy]
set_option maxRecDepth 100000 in
set_option maxHeartbeats 4000000 in
theorem number_c (l : List UInt8) (w : World) (hl : l.length ≤ 8) :
    Calls Tryz.prog 68 #[.string (ba l)] w fun e w' => e = .returned (.int .u64 (val l : Nat)) ∧ w' = w := by
  have HI : Keep (∀ (i : Nat) (y : UInt8), l[i]? = some y → ∀ W : World, (Instr.index 9 (.string (ba l)) (.int .i64 (i : Int))).run Tryz.prog W = .ok (.int .u8 y.toNat) W) := ⟨fun i y hy W => idx9 _ i y (by rw [ba_size]; exact (List.getElem?_eq_some_iff.1 hy).1) (by rw [sl_mk]; exact hy) W⟩
  have hs := ba_size l
  generalize ba l = L at HI hs ⊢
  go_enter Tryz.func68, Tryz.ntmps68
  go_wp2_with fail
  go_loopw [3, 4] (fun x t w' => ∃ i : Nat, i ≤ l.length ∧ t = .int .i64 i ∧ x = .int .u64 (val (l.take i) : Nat) ∧ w' = w) (fun _ t _ => l.length - (intOf t).toNat)
  case atStart => exact ⟨0, by omega, rfl, rfl, rfl⟩
  case round =>
    obtain ⟨i, hi, rfl, rfl, rfl⟩ := hrel
    by_cases hli : i < l.length
    · obtain ⟨b, hb⟩ : ∃ b, l[i]? = some b := ⟨_, List.getElem?_eq_getElem hli⟩
      have hx : val (l.take i) < 72057594037927936 := by
        have h1 := val_lt (l.take i)
        have h2 : (l.take i).length ≤ 7 := by rw [List.length_take]; omega
        have h3 : 256 ^ (l.take i).length ≤ 256 ^ 7 := Nat.pow_le_pow_right (by omega) h2
        have h4 : (256 : Nat) ^ 7 = 72057594037927936 := by decide
        omega
      have hst : val (l.take (i + 1)) = val (l.take i) * 256 + b.toNat := by
        obtain ⟨q1, q2⟩ := List.getElem?_eq_some_iff.1 hb
        rw [List.take_succ_eq_append_getElem q1, q2, val_snoc]
      have hix := HI.out i b hb
      have HY : Keep (val (l.take (i + 1)) = val (l.take i) * 256 + b.toNat) := ⟨hst⟩
      generalize val (l.take i) = x at hx HY ⊢
      have HO : Keep (bits .or .u64 ((x : Int) * 256) (b.toNat : Int) = ((x * 256 + b.toNat : Nat) : Int)) := ⟨by
        have := or_add x b hx
        rw [← this]; congr 1⟩
      have hbl : b.toNat < 256 := b.toNat_lt
      clear hst hb
      go_wp2
      refine ⟨⟨i + 1, by omega, by go_num, ?_, trivial⟩, ?_⟩
      · rw [HY.out, ← HO.out]
      · simp only [intOf]; omega
    · have he : l.take i = l := List.take_of_length_le (by omega)
      rw [he]
      clear he
      go_wp2
      go_ret
      exact ⟨rfl, rfl⟩
/-- what the reference's cut tells -/
def qCut (S : List UInt8) (at_ n : Nat) : List UInt8 × Bool := if at_ + n ≤ S.length then ((S.drop at_).take n, true) else ([], false)
set_option maxRecDepth 100000 in
set_option maxHeartbeats 4000000 in
theorem rcut_c (S : List UInt8) (at_ n : Nat) (w : World) (hS : S.length ≤ 1099511627776) (h1 : at_ ≤ 1099511627776) (h2 : n ≤ 1099511627776) :
    Calls Tryz.prog 109 #[.string (ba S), .int .i64 at_, .int .i64 n] w fun e w' => e = .returned (.tuple #[.string (ba (qCut S at_ n).1), .bool (qCut S at_ n).2]) ∧ w' = w := by
  by_cases h : at_ + n ≤ S.length
  · rw [qCut, if_pos h]
    have hs := ba_size S
    have HX : Keep ((ba S).extract at_ (at_ + n) = ba ((S.drop at_).take n)) := ⟨by rw [ext_ba, List.drop_take]; congr 3; omega⟩
    generalize ba ((S.drop at_).take n) = X at HX ⊢
    generalize ba S = L at HX hs ⊢
    have hg : ¬ ((L.size : Int) < (at_ : Int) + (n : Int)) := by omega
    have he : ((at_ : Int) + (n : Int)).toNat = at_ + n := by omega
    have hx := HX.out
    clear h HX
    go_enter Tryz.func109, Tryz.ntmps109
    go_wp2
    go_ret2
    exact ⟨rfl, rfl⟩
  · rw [qCut, if_neg h]
    have hs := ba_size S
    generalize ba S = L at hs ⊢
    have hg : (L.size : Int) < (at_ : Int) + (n : Int) := by omega
    clear h
    go_enter Tryz.func109, Tryz.ntmps109
    go_wp2
    go_ret2
    exact ⟨rfl, rfl⟩
/-- the reference's reader -/
def RdA (w : World) (rb : Nat) (S : List UInt8) (at_ : Nat) (bad : Bool) : Prop := Has w rb [.string (ba S), iv at_, .bool bad] 151
def qTake (S : List UInt8) (at_ : Nat) (bad : Bool) (n : Nat) : List UInt8 × Nat × Bool := if at_ + n ≤ S.length then ((S.drop at_).take n, at_ + n, bad) else ([], at_, true)
set_option maxRecDepth 100000 in
set_option maxHeartbeats 4000000 in
theorem rtk_c (rb : Nat) (S : List UInt8) (at_ : Nat) (bad : Bool) (n : Nat) (w : World) (h : RdA w rb S at_ bad) (hS : S.length ≤ 1099511627776) (h1 : at_ ≤ 1099511627776) (h2 : n ≤ 1099511627776) :
    Calls Tryz.prog 69 #[.pointer (some ⟨rb, 0, none⟩), .int .i64 n] w fun e w' => e = .returned (.string (ba (qTake S at_ bad n).1)) ∧ RdA w' rb S (qTake S at_ bad n).2.1 (qTake S at_ bad n).2.2 ∧ w.grownBy w' (some rb) := by
  have HH : Keep (RdA w rb S at_ bad) := ⟨h⟩
  have HC : Keep (∀ W : World, (Has W rb [.string (ba S), iv at_, .bool bad] 151 ∧ w.grownBy W none) → Calls Tryz.prog 109 #[.string (ba S), .int .i64 at_, .int .i64 n] W fun e w' => e = .returned (.tuple #[.string (ba (qCut S at_ n).1), .bool (qCut S at_ n).2]) ∧ w' = W) := ⟨fun W _ => rcut_c S at_ n W hS h1 h2⟩
  have HQ : Keep (qTake S at_ bad n = if (qCut S at_ n).2 = true then ((qCut S at_ n).1, at_ + n, bad) else ([], at_, true)) := ⟨by
    unfold qTake qCut; by_cases q : at_ + n ≤ S.length <;> simp [q]⟩
  generalize qTake S at_ bad n = T at HQ ⊢
  generalize qCut S at_ n = C at HQ HC
  obtain ⟨X, ok⟩ := C
  dsimp only at HQ HC
  generalize hXB : ba X = XB at HC
  replace hXB := hXB.symm
  clear h
  go_enter Tryz.func69, Tryz.ntmps69
  go_wp2_with fail
  refine wp_region_held_drew (S := fun W => Has W rb [.string (ba S), iv at_, .bool bad] 151 ∧ w.grownBy W none) (by kernel_rfl) ⟨HH.out.kept (gr_drew w none) (by simp), gr_drew _ _⟩ (fun hHeld => ?_)
  refine wpAnyH_take (i := 0) (oi := _) (v := ?_) rfl (by kernel_rfl) (by kernel_rfl) (by kernel_rfl) (fun _ _ _ h => h) (Or.inl ⟨by rfl, ?_⟩) (by assumption) ?_
  rotate_left
  · (intro w hSw; go_simp; first | done | (with_reducible rfl))
  simp only [Act.put, List.getElem_toArray, List.getElem_cons_zero, List.setIfInBounds_toArray, List.set_cons_zero, List.set_cons_succ]
  refine wpAnyH_take (i := 1) (oi := _) (v := ?_) rfl (by kernel_rfl) (by kernel_rfl) (by kernel_rfl) (fun _ _ _ h => h) (Or.inl ⟨by rfl, ?_⟩) (by assumption) ?_
  rotate_left
  · (intro w hSw; go_simp; first | done | (with_reducible rfl))
  simp only [Act.put, List.getElem_toArray, List.getElem_cons_succ, List.getElem_cons_zero, List.setIfInBounds_toArray, List.set_cons_zero, List.set_cons_succ]
  refine wpAnyH_take (i := 2) (oi := _) (v := ?_) rfl (by kernel_rfl) (by kernel_rfl) (by kernel_rfl) (fun _ _ _ h => h) (Or.inl ⟨by rfl, ?_⟩) (by assumption) ?_
  rotate_left
  · (intro w hSw; go_simp; first | done | (with_reducible rfl))
  simp only [Act.put, List.getElem_toArray, List.getElem_cons_succ, List.getElem_cons_zero, List.setIfInBounds_toArray, List.set_cons_zero, List.set_cons_succ]
  refine wpAnyH_take (i := 3) (oi := _) (v := ?_) rfl (by kernel_rfl) (by kernel_rfl) (by kernel_rfl) (fun _ _ _ h => h) (Or.inl ⟨by rfl, ?_⟩) (by assumption) ?_
  rotate_left
  · (intro w hSw; have c0 := hSw.1.cellv 0 _ rfl; have c1 := hSw.1.cellv 1 _ rfl; go_simp; first | done | (with_reducible rfl))
  simp only [Act.put, List.getElem_toArray, List.getElem_cons_succ, List.getElem_cons_zero, List.setIfInBounds_toArray, List.set_cons_zero, List.set_cons_succ]
  refine wpAnyH_take (i := 4) (oi := _) (v := ?_) rfl (by kernel_rfl) (by kernel_rfl) (by kernel_rfl) (fun _ _ _ h => h) (Or.inl ⟨by rfl, ?_⟩) (by assumption) ?_
  rotate_left
  · (intro w hSw; go_simp; first | done | (with_reducible rfl))
  simp only [Act.put, List.getElem_toArray, List.getElem_cons_succ, List.getElem_cons_zero, List.setIfInBounds_toArray, List.set_cons_zero, List.set_cons_succ]
  refine wpAnyH_take (i := 5) (oi := _) (v := ?_) rfl (by kernel_rfl) (by kernel_rfl) (by kernel_rfl) (fun _ _ _ h => h) (Or.inl ⟨by rfl, ?_⟩) (by assumption) ?_
  rotate_left
  · (intro w hSw; go_simp; first | done | (with_reducible rfl))
  simp only [Act.put, List.getElem_toArray, List.getElem_cons_succ, List.getElem_cons_zero, List.setIfInBounds_toArray, List.set_cons_zero, List.set_cons_succ]
  refine wpAnyH_take (i := 6) (oi := _) (v := ?_) rfl (by kernel_rfl) (by kernel_rfl) (by kernel_rfl) (fun _ _ _ h => h) (Or.inl ⟨by rfl, ?_⟩) (by assumption) ?_
  rotate_left
  · (intro w hSw; go_simp; first | done | (with_reducible rfl))
  simp only [Act.put, List.getElem_toArray, List.getElem_cons_succ, List.getElem_cons_zero, List.setIfInBounds_toArray, List.set_cons_zero, List.set_cons_succ]
  refine wpAnyH_take (i := 7) (oi := _) (v := ?_) rfl (by kernel_rfl) (by kernel_rfl) (by kernel_rfl) (fun _ _ _ h => h) (Or.inl ⟨by rfl, ?_⟩) (by assumption) ?_
  rotate_left
  · (intro w hSw; have c0 := hSw.1.cellv 0 _ rfl; have c1 := hSw.1.cellv 1 _ rfl; go_simp; first | done | (with_reducible rfl))
  simp only [Act.put, List.getElem_toArray, List.getElem_cons_succ, List.getElem_cons_zero, List.setIfInBounds_toArray, List.set_cons_zero, List.set_cons_succ]
  refine wpAnyH_take (i := 8) (oi := _) (v := ?_) rfl (by kernel_rfl) (by kernel_rfl) (by kernel_rfl) (fun _ _ _ h => h) (Or.inl ⟨by rfl, ?_⟩) (by assumption) ?_
  rotate_left
  · (intro w hSw; go_simp; first | done | (with_reducible rfl))
  simp only [Act.put, List.getElem_toArray, List.getElem_cons_succ, List.getElem_cons_zero, List.setIfInBounds_toArray, List.set_cons_zero, List.set_cons_succ]
  refine wpAnyH_ready (rs := [9]) (by kernel_rfl) (by simp) ?_
  refine AllReadyH.cons (o := _) rfl (fun K hK => ?_) AllReadyH.nil
  go_simp
  refine (HC.out _ hHeld).mono ?_
  rintro e wA ⟨rfl, hwA⟩
  subst hwA
  refine hK.out _ _ hHeld (fun hHeld => ?_)
  clear hK K
  refine wpAnyH_take (i := 10) (oi := _) (v := ?_) rfl (by kernel_rfl) (by kernel_rfl) (by kernel_rfl) (fun _ _ _ h => h) (Or.inl ⟨by rfl, ?_⟩) (by assumption) ?_
  rotate_left
  · (intro w hSw; go_simp; first | done | (with_reducible rfl))
  simp only [Act.put, List.getElem_toArray, List.getElem_cons_succ, List.getElem_cons_zero, List.setIfInBounds_toArray, List.set_cons_zero, List.set_cons_succ]
  refine wpAnyH_take (i := 11) (oi := _) (v := ?_) rfl (by kernel_rfl) (by kernel_rfl) (by kernel_rfl) (fun _ _ _ h => h) (Or.inl ⟨by rfl, ?_⟩) (by assumption) ?_
  rotate_left
  · (intro w hSw; go_simp; first | done | (with_reducible rfl))
  simp only [Act.put, List.getElem_toArray, List.getElem_cons_succ, List.getElem_cons_zero, List.setIfInBounds_toArray, List.set_cons_zero, List.set_cons_succ]
  refine wpAnyH_take (i := 12) (oi := _) (v := ?_) rfl (by kernel_rfl) (by kernel_rfl) (by kernel_rfl) (fun _ _ _ h => h) (Or.inl ⟨by rfl, ?_⟩) (by assumption) ?_
  rotate_left
  · (intro w hSw; go_simp; first | done | (with_reducible rfl))
  simp only [Act.put, List.getElem_toArray, List.getElem_cons_succ, List.getElem_cons_zero, List.setIfInBounds_toArray, List.set_cons_zero, List.set_cons_succ]
  refine wpAnyH_take (i := 13) (oi := _) (v := ?_) rfl (by kernel_rfl) (by kernel_rfl) (by kernel_rfl) (fun _ _ _ h => h) (Or.inl ⟨by rfl, ?_⟩) (by assumption) ?_
  rotate_left
  · (intro w hSw; go_simp; first | done | (with_reducible rfl))
  simp only [Act.put, List.getElem_toArray, List.getElem_cons_succ, List.getElem_cons_zero, List.setIfInBounds_toArray, List.set_cons_zero, List.set_cons_succ]
  refine wpAnyH_take (i := 14) (oi := _) (v := ?_) rfl (by kernel_rfl) (by kernel_rfl) (by kernel_rfl) (fun _ _ _ h => h) (Or.inl ⟨by rfl, ?_⟩) (by assumption) ?_
  rotate_left
  · (intro w hSw; go_simp; first | done | (with_reducible rfl))
  simp only [Act.put, List.getElem_toArray, List.getElem_cons_succ, List.getElem_cons_zero, List.setIfInBounds_toArray, List.set_cons_zero, List.set_cons_succ]
  refine wpAnyH_done (by kernel_rfl) ?_ _

  cases ok with
  | false =>
    have HT : Keep (T = ([], at_, true)) := ⟨by simpa using HQ.out⟩
    have HS := Keep.mk hHeld
    have c2 := hHeld.1.cellv 2 _ rfl
    have f2 := hHeld.1.frozen 2
    clear hHeld HQ
    go_wp2
    go_ret
    refine ⟨by rw [HT.out]; rfl, ?_, ?_⟩
    · rw [HT.out]; exact HS.out.1.setCell 2 _
    · exact (gr_drew w _).trans (gr_set _ _ _ _)
  | true =>
    have HT : Keep (T = (X, at_ + n, bad)) := ⟨by simpa using HQ.out⟩
    have HXB : Keep (XB = ba X) := ⟨hXB⟩
    have HS := Keep.mk hHeld
    have c1 := hHeld.1.cellv 1 _ rfl
    have f1 := hHeld.1.frozen 1
    clear hHeld HQ hXB
    go_wp2
    go_ret
    refine ⟨by rw [HT.out, ← HXB.out]; rfl, ?_, ?_⟩
    · rw [HT.out]; exact HS.out.1.setCell 1 _
    · exact (gr_drew w _).trans (gr_set _ _ _ _)
end Go.Proofs.YtjbkoablleneeaaGreatDoor.Pk

