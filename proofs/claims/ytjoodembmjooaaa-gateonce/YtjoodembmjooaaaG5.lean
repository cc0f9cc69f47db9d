/- lists of intents that are the same; a gate that is alive. -/
import Derived.Test.YtjoodembmjooaaaG3
import Derived.ChangeKeysEq
namespace Go.Proofs.Ytjoodembmjooaaa
open Go Go.RowKit Go.Maps

theorem wi (z : Int) (h1 : -9223372036854775808 ≤ z) (h2 : z ≤ 9223372036854775807) : IntKind.i64.wrap z = z := by
  simp [IntKind.wrap, IntKind.bits, IntKind.signed]
  omega
set_option maxRecDepth 100000 in
set_option maxHeartbeats 4000000 in
theorem eq36 (c : Itn) (w : World) : (Op.equalIn 10000 36 (.agg #[iv c.pl, iv c.th, iv c.tu, .bool c.fi, .bool c.bo]) (.agg #[iv c.pl, iv c.th, iv c.tu, .bool c.fi, .bool c.bo])).run Try.prog w = .ok true w := by
  rw [show (10000 : Nat) = 9999 + 1 from rfl, run_equalIn_agg w 9999 36 _ _ (by kernel_rfl) (by kernel_rfl)]
  have u3 := Try.underlying3
  have g3 := Try.isAgg3
  have z3 := Try.sizeOf3
  have u4 := Try.underlying4
  have a4 := Try.isAgg4
  have z4 := Try.sizeOf4
  simp only [Program.fieldsOf, Try.underlying36]
  go_simp
/-- a list of intents as it is read -/
structure Rdi (W : World) (v : Value) (M : List Itn) : Prop where
  o : ∃ a cap, v = .slice a M.length cap ∧ (0 < M.length → ∃ g, a = some ⟨g, 0, none⟩ ∧ ∀ (j : Nat) (x : Itn), M[j]? = some x → W.rangeAt g (j * 5) (itv x))
theorem Rdi.kept {W W' : World} {v : Value} {M : List Itn} (h : Rdi W v M) (g : W.grownBy W' none) : Rdi W' v M := by
  obtain ⟨a, cap, e, q⟩ := h.o
  refine ⟨a, cap, e, fun hn => ?_⟩
  obtain ⟨b, e1, q⟩ := q hn
  refine ⟨b, e1, fun j x hx k u hu => ?_⟩
  exact g.cell (q j x hx k u hu) (by simp)
theorem its_get : ∀ (M : List Itn) (j : Nat) (x : Itn), M[j]? = some x → ∀ (k : Nat) (u : Value), (itv x)[k]? = some u → (its M)[j * 5 + k]? = some u
  | [], j, x, h, _, _, _ => by simp at h
  | y :: r, 0, x, h, k, u, hu => by
    obtain rfl : y = x := by simpa using h
    have hk := (List.getElem?_eq_some_iff.1 hu).1
    rw [show its (y :: r) = itv y ++ its r by simp [its], Nat.zero_mul, Nat.zero_add, List.getElem?_append_left hk]
    exact hu
  | y :: r, j + 1, x, h, k, u, hu => by
    have ih := its_get r j x (by simpa using h) k u hu
    rw [show its (y :: r) = itv y ++ its r by simp [its], List.getElem?_append_right (by rw [itv_len]; omega), itv_len, show (j + 1) * 5 + k - 5 = j * 5 + k by omega]
    exact ih
theorem rdi_of {W : World} {v : Value} {M : List Itn} (h : W.ownsRow 0 36 5 v M.length (its M)) : Rdi W v M := by
  by_cases hn : 0 < M.length
  · obtain ⟨g, c, e, q⟩ := own_any h hn
    refine ⟨_, c, e, fun _ => ⟨g, rfl, fun j x hx k u hu => ?_⟩⟩
    have := (q (j * 5 + k) u (its_get M j x hx k u hu)).1
    exact this
  · obtain ⟨a, c, e⟩ := own_slice h
    exact ⟨a, c, e, fun q => absurd q hn⟩
theorem Sep.rdi {w0 W : World} {l : List As} {v : Value} {n : Nat} {M : List Itn} (h : Sep w0 W l) (hm : rowV 36 5 v n (its M) ∈ l) (hn : n = M.length) : Rdi W v M := by
  subst hn
  exact rdi_of (h.rowGet hm)
theorem Rdi.cells {W : World} {g n cap : Nat} {M : List Itn} (h : Rdi W (sl g n cap) M) (hn : M.length = n) {i : Nat} {s : Itn} (hs : M[i]? = some s) :
    W.cell? ⟨g, i * 5, none⟩ = some (iv s.pl) ∧ W.cell? ⟨g, i * 5 + 1, none⟩ = some (iv s.th) ∧ W.cell? ⟨g, i * 5 + 2, none⟩ = some (iv s.tu) ∧ W.cell? ⟨g, i * 5 + 3, none⟩ = some (.bool s.fi) ∧ W.cell? ⟨g, i * 5 + 4, none⟩ = some (.bool s.bo) := by
  obtain ⟨a, c, e, q⟩ := h.o
  have hlt := (List.getElem?_eq_some_iff.1 hs).1
  obtain ⟨g', e1, q⟩ := q (by omega)
  injection e with e2 _ _
  rw [e1] at e2
  injection e2 with e2
  injection e2 with e2 _ _
  subst e2
  have r := q i s hs
  exact ⟨r 0 _ rfl, r 1 _ rfl, r 2 _ rfl, r 3 _ rfl, r 4 _ rfl⟩
set_option maxRecDepth 100000 in
set_option maxHeartbeats 8000000 in
theorem same_c (w : World) (v1 v2 : Value) (S : List Itn) (h1 : Rdi w v1 S) (h2 : Rdi w v2 S) (hn : S.length < 4611686018427387904) :
    Calls Try.prog 12 #[v1, v2] w fun e w' => e = .returned (.bool true) ∧ w.grownBy w' none := by
  obtain ⟨n, hnS⟩ : ∃ n, S.length = n := ⟨_, rfl⟩
  obtain ⟨a1, cap1, hv1, hq1⟩ := h1.o
  obtain ⟨a2, cap2, hv2, hq2⟩ := h2.o
  rw [hnS] at hv1 hq1 hv2 hq2 hn
  subst hv1 hv2
  have HL := Keep.mk (And.intro h1 h2)
  have HQ := Keep.mk hnS
  have HA1 : Keep (0 < n → ∃ g, a1 = some ⟨g, 0, none⟩) := ⟨fun q => by obtain ⟨g, e, _⟩ := hq1 q; exact ⟨g, e⟩⟩
  have HA2 : Keep (0 < n → ∃ g, a2 = some ⟨g, 0, none⟩) := ⟨fun q => by obtain ⟨g, e, _⟩ := hq2 q; exact ⟨g, e⟩⟩
  clear hq1 hq2 h1 h2 hnS
  go_enter Try.func12, Try.ntmps12
  go_wp2_with fail
  go_loopw [5] (fun u wr => ∃ i : Nat, i ≤ n ∧ u = iv i ∧ Keep (w.grownBy wr none)) (fun u _ => (n - intOf u).toNat)
  case atStart => exact ⟨0, by omega, rfl, ⟨World.grownBy.refl _ _⟩⟩
  case round =>
    obtain ⟨i, hi, rfl, hG⟩ := hrel
    by_cases hlt : i < n
    · obtain ⟨s, hs⟩ : ∃ s, S[i]? = some s := ⟨_, List.getElem?_eq_getElem (by rw [HQ.out]; exact hlt)⟩
      obtain ⟨g1, rfl⟩ := HA1.out (by omega)
      obtain ⟨g2, rfl⟩ := HA2.out (by omega)
      have hi0 : (0 : Int) ≤ (i : Int) := by omega
      have hi1 : (i : Int) < (n : Nat) := by omega
      have hti : ((i : Nat) : Int).toNat = i := by omega
      have hwi : IntKind.i64.wrap ((i : Int) + 1) = ((i + 1 : Nat) : Int) := by rw [wi _ (by omega) (by omega)]; omega
      have HS : Keep (Rdi wr (.slice (some ⟨g1, 0, none⟩) n cap1) S ∧ Rdi wr (.slice (some ⟨g2, 0, none⟩) n cap2) S ∧ w.grownBy wr none) := ⟨HL.out.1.kept hG.out, HL.out.2.kept hG.out, hG.out⟩
      have HS0 : Keep (∀ W, wr.grownBy W none → (Rdi W (.slice (some ⟨g1, 0, none⟩) n cap1) S ∧ Rdi W (.slice (some ⟨g2, 0, none⟩) n cap2) S ∧ w.grownBy W none)) := ⟨fun W g => ⟨HS.out.1.kept g, HS.out.2.1.kept g, HS.out.2.2.trans g⟩⟩
      clear hG HS
      go_wp2_with fail
      refine wp_region_held_drew (S := fun w' => Rdi w' (.slice (some ⟨g1, 0, none⟩) n cap1) S ∧ Rdi w' (.slice (some ⟨g2, 0, none⟩) n cap2) S ∧ w.grownBy w' none) (by kernel_rfl) (HS0.out _ (gr_drew _ _)) (fun hHeld => ?_)
      clear HS0
      refine wpAnyH_take (i := 0) (oi := _) (v := ?_) rfl (by kernel_rfl) (by kernel_rfl) (by kernel_rfl) (fun _ _ _ h => h) (Or.inl ⟨by rfl, ?_⟩) (by assumption) ?_
      rotate_left
      · (intro w hSw; go_simp; first | done | (with_reducible rfl))
      simp only [Act.put, List.getElem_toArray, List.getElem_cons_zero, List.setIfInBounds_toArray, List.set_cons_zero, List.set_cons_succ]
      refine wpAnyH_take (i := 1) (oi := _) (v := ?_) rfl (by kernel_rfl) (by kernel_rfl) (by kernel_rfl) (fun _ _ _ h => h) (Or.inl ⟨by rfl, ?_⟩) (by assumption) ?_
      rotate_left
      · (intro w hSw; go_simp; first | done | (with_reducible rfl))
      simp only [Act.put, List.getElem_toArray, List.getElem_cons_succ, List.getElem_cons_zero, List.setIfInBounds_toArray, List.set_cons_zero, List.set_cons_succ]
      refine wpAnyH_take (i := 2) (oi := _) (v := ?_) rfl (by kernel_rfl) (by kernel_rfl) (by kernel_rfl) (fun _ _ _ h => h) (Or.inl ⟨by rfl, ?_⟩) (by assumption) ?_
      rotate_left
      · (intro w hSw; go_simp; first | done | (with_reducible rfl))
      simp only [Act.put, List.getElem_toArray, List.getElem_cons_succ, List.getElem_cons_zero, List.setIfInBounds_toArray, List.set_cons_zero, List.set_cons_succ]
      refine wpAnyH_take (i := 3) (oi := _) (v := ?_) rfl (by kernel_rfl) (by kernel_rfl) (by kernel_rfl) (fun _ _ _ h => h) (Or.inl ⟨by rfl, ?_⟩) (by assumption) ?_
      rotate_left
      · (intro w hSw; obtain ⟨y0, y1, y2, y3, y4⟩ := hSw.1.cells HQ.out hs; go_simp; first | done | (with_reducible rfl))
      simp only [Act.put, List.getElem_toArray, List.getElem_cons_succ, List.getElem_cons_zero, List.setIfInBounds_toArray, List.set_cons_zero, List.set_cons_succ]
      refine wpAnyH_take (i := 4) (oi := _) (v := ?_) rfl (by kernel_rfl) (by kernel_rfl) (by kernel_rfl) (fun _ _ _ h => h) (Or.inl ⟨by rfl, ?_⟩) (by assumption) ?_
      rotate_left
      · (intro w hSw; go_simp; first | done | (with_reducible rfl))
      simp only [Act.put, List.getElem_toArray, List.getElem_cons_succ, List.getElem_cons_zero, List.setIfInBounds_toArray, List.set_cons_zero, List.set_cons_succ]
      refine wpAnyH_take (i := 5) (oi := _) (v := ?_) rfl (by kernel_rfl) (by kernel_rfl) (by kernel_rfl) (fun _ _ _ h => h) (Or.inl ⟨by rfl, ?_⟩) (by assumption) ?_
      rotate_left
      · (intro w hSw; go_simp; first | done | (with_reducible rfl))
      simp only [Act.put, List.getElem_toArray, List.getElem_cons_succ, List.getElem_cons_zero, List.setIfInBounds_toArray, List.set_cons_zero, List.set_cons_succ]
      refine wpAnyH_take (i := 6) (oi := _) (v := ?_) rfl (by kernel_rfl) (by kernel_rfl) (by kernel_rfl) (fun _ _ _ h => h) (Or.inl ⟨by rfl, ?_⟩) (by assumption) ?_
      rotate_left
      · (intro w hSw; go_simp; first | done | (with_reducible rfl))
      simp only [Act.put, List.getElem_toArray, List.getElem_cons_succ, List.getElem_cons_zero, List.setIfInBounds_toArray, List.set_cons_zero, List.set_cons_succ]
      refine wpAnyH_take (i := 7) (oi := _) (v := ?_) rfl (by kernel_rfl) (by kernel_rfl) (by kernel_rfl) (fun _ _ _ h => h) (Or.inl ⟨by rfl, ?_⟩) (by assumption) ?_
      rotate_left
      · (intro w hSw; obtain ⟨y0, y1, y2, y3, y4⟩ := hSw.2.1.cells HQ.out hs; go_simp; first | done | (with_reducible rfl))
      simp only [Act.put, List.getElem_toArray, List.getElem_cons_succ, List.getElem_cons_zero, List.setIfInBounds_toArray, List.set_cons_zero, List.set_cons_succ]
      refine wpAnyH_take (i := 8) (oi := _) (v := .bool false) rfl (by kernel_rfl) (by kernel_rfl) (by kernel_rfl) (fun _ _ _ h => h) (Or.inl ⟨by rfl, ?_⟩) (by assumption) ?_
      · (intro w hSw; have hE := eq36 s w; go_simp; first | done | (simp; done) | trace_state)
      simp only [Act.put, List.getElem_toArray, List.getElem_cons_succ, List.getElem_cons_zero, List.setIfInBounds_toArray, List.set_cons_zero, List.set_cons_succ]
      refine wpAnyH_done (by kernel_rfl) ?_ _

      have HG := Keep.mk hHeld.2.2
      clear hHeld
      go_wp2_with fail
      go_roundw
      case rel => exact ⟨i + 1, by omega, rfl, HG⟩
      case measure => simp [intOf]; omega
    · have hi1 : ¬ (i : Int) < (n : Nat) := by omega
      go_wp2_with fail
      go_ret
      exact ⟨rfl, hG.out⟩
set_option maxRecDepth 100000 in
theorem fld2 (a b c : Int) (d e : Bool) (w : World) : (Instr.field 36 (.agg #[iv a, iv b, iv c, .bool d, .bool e]) 2).run Try.prog w = .ok (iv c) w := by kernel_rfl
def c1 : Cmd := ⟨127, -128, true, false⟩
def c2 : Cmd := ⟨0, 0, false, false⟩
def c3 : Cmd := ⟨0, 9, false, false⟩
def x1 : Itn := ⟨3, 100, -8, true, false⟩
set_option maxRecDepth 100000 in
set_option maxHeartbeats 8000000 in
theorem fixed_c (hso : SortC) (w : World) : Calls Try.prog 7 #[] w fun e w' => e = .returned (.bool true) ∧ w.grownBy w' none := by
  have HSO := Keep.mk hso
  have HN := Keep.mk (new_c w w [] (Sep.nil w))
  go_enter Try.func7, Try.ntmps7
  go_wp2_with fail
  refine HN.out.mono ?_
  rintro e w1 ⟨gb, rfl, S1⟩
  have HO : Keep (Calls Try.prog 9 #[pt gb, .int .i64 3, .agg #[.int .i64 127, .int .i64 (-128), .bool true, .bool false]] w1 fun e W' => e = .returned (.int .i64 0) ∧ Sep w W' [gateA gb [x1]]) := ⟨offer_c w w1 [] gb [] 3 c1 (by unfold I64; omega) (by decide) S1⟩
  clear HN S1
  go_wp2_with fail
  refine HO.out.mono ?_
  rintro e w2 ⟨rfl, S2⟩
  have HO2 : Keep (Calls Try.prog 9 #[pt gb, .int .i64 3, .agg #[.int .i64 0, .int .i64 0, .bool false, .bool false]] w2 fun e W' => e = .returned (.int .i64 180) ∧ Sep w W' [gateA gb [x1]]) := ⟨offer_c w w2 [] gb [x1] 3 c2 (by unfold I64; omega) (by decide) S2⟩
  clear HO S2
  go_wp2_with fail
  refine HO2.out.mono ?_
  rintro e w3 ⟨rfl, S3⟩
  have HW : Keep (Calls Try.prog 13 #[pt gb, .int .i64 3] w3 fun e W' => e = .returned (.bool true) ∧ w3.grownBy W' none) := ⟨waits_c w w3 [] gb [x1] 3 (by unfold I64; omega) S3⟩
  have HS := Keep.mk S3
  clear HO2 S3
  go_wp2_with fail
  refine HW.out.mono ?_
  rintro e w4 ⟨rfl, g4⟩
  have HT := Keep.mk (take_c HSO.out w w4 [] gb [x1] (by decide) (HS.out.grown g4))
  clear HW HS g4
  go_wp2_with fail
  refine HT.out.mono ?_
  rintro e w5 ⟨g, c, rfl, S5⟩
  change Sep w w5 (rowV 36 5 (sl g 1 c) 1 (its [x1]) :: [gateA gb []]) at S5
  obtain ⟨y0, y1, y2, y3, y4⟩ := (S5.rdi (M := [x1]) k0m rfl).cells rfl (i := 0) (s := x1) rfl
  simp only [Nat.zero_mul, Nat.zero_add] at y0 y1 y2 y3 y4
  have hE := eq36 x1 w5
  unfold x1 at y0 y1 y2 y3 y4 hE
  have HW : Keep (Calls Try.prog 13 #[pt gb, .int .i64 3] w5 fun e W' => e = .returned (.bool false) ∧ w5.grownBy W' none) := ⟨waits_c w w5 _ gb [] 3 (by unfold I64; omega) S5.swap⟩
  have HS := Keep.mk S5.swap
  clear HT S5 HSO
  go_wp2_with fail
  refine HW.out.mono ?_
  rintro e w6 ⟨rfl, g6⟩
  have HD : Keep (Calls Try.prog 10 #[pt gb, .int .i64 3] w6 fun e W' => e = .returned (.bool false) ∧ Sep w W' (gateA gb [] :: _)) := ⟨drop_c w w6 _ gb [] 3 (by unfold I64; omega) (HS.out.grown g6)⟩
  clear HW HS g6 y0 y1 y2 y3 y4 hE
  go_wp2_with fail
  refine HD.out.mono ?_
  rintro e w7 ⟨rfl, S7⟩
  have HL : Keep (Calls Try.prog 19 #[.int .i64 3, .agg #[.int .i64 0, .int .i64 9, .bool false, .bool false]] w7 fun e w' => e = .returned (.agg #[.int .i64 3, .int .i64 0, .int .i64 8, .bool false, .bool false]) ∧ w7.grownBy w' none) := ⟨legal_c w7 3 c3⟩
  have HG := Keep.mk S7.g
  clear HD S7
  go_wp2_with fail
  refine HL.out.mono ?_
  rintro e w8 ⟨rfl, g8⟩
  replace HG := Keep.mk (HG.out.trans g8)
  clear HL g8
  have hF := fld2 3 0 8 false false w8
  go_wp2_with fail
  go_ret
  exact ⟨rfl, HG.out⟩
end Go.Proofs.Ytjoodembmjooaaa
