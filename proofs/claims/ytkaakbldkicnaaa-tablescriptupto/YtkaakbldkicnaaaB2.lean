/- the laws' alive. -/
import Derived.Test.YtkaakbldkicnaaaB1
import Derived.KernelRfl
namespace Go.Proofs.Ytkaakbldkicnaaa
open Go Go.RowKit Go.Maps

abbrev ka : ByteArray := ⟨#[97]⟩
abbrev kb : ByteArray := ⟨#[98]⟩
abbrev kc : ByteArray := ⟨#[99]⟩
theorem al1 : Tb.putL 2 ([] : KV) ka 1 = [(ka, 1)] := by decide
theorem al2 : Tb.putL 2 ([(ka, 1)] : KV) kb 2 = [(ka, 1), (kb, 2)] := by decide
theorem al3 : Tb.useL ([(ka, 1), (kb, 2)] : KV) ka = [(kb, 2), (ka, 1)] := by decide
theorem al4 : Tb.putL 2 ([(kb, 2), (ka, 1)] : KV) kc 3 = [(ka, 1), (kc, 3)] := by decide
theorem al5 : Tb.rm ([(ka, 1), (kc, 3)] : KV) ka = [(kc, 3)] := by decide
theorem al3v : Tb.look ([(ka, 1), (kb, 2)] : KV) ka = some 1 := by decide
theorem al4v : Tb.goneK 2 ([(kb, 2), (ka, 1)] : KV) kc = kb := by decide
theorem al4w : Tb.goneB 2 ([(kb, 2), (ka, 1)] : KV) kc = true := by decide
theorem al5v : Tb.look ([(ka, 1), (kc, 3)] : KV) ka = some 1 := by decide
theorem al6v : Tb.look ([(kc, 3)] : KV) ka = none := by decide
theorem str_lit (W : World) : Str (W.alloc (.cells #[.string ka, .string kc] 9)) (.slice (some ⟨W.heap.size, 0, none⟩) 2 2) [ka, kc] := by
  refine ⟨.inr ⟨_, 2, rfl, fun j x hx => ?_⟩⟩
  rw [Addr.add_mid, Nat.zero_add]
  refine (Has.newA W #[.string ka, .string kc] 9).cellv j _ ?_
  match j, hx with
  | 0, hx => injection hx with e; subst e; rfl
  | 1, hx => injection hx with e; subst e; rfl
  | j + 2, hx => simp at hx
set_option maxHeartbeats 4000000 in
theorem alive_c (w : World) : Calls Try.prog 8 #[] w fun r w' => r = .returned (.bool true) ∧ w.grownBy w' none := by
  go_enter Try.func8, Try.ntmps8
  go_wp2_with fail
  refine (new_s 2 (Sep.nil w) (by omega) (by omega)).mono ?_
  rintro r w1 ⟨tb, rfl, S1⟩
  have H1 : Keep (Sep w w1 [tabA tb 2 []]) := ⟨S1⟩
  clear S1
  go_wp2_with fail
  refine (num_c 0 _).mono ?_
  rintro r w' ⟨rfl, hw⟩
  subst w'
  go_wp2_with fail
  refine (put_s ka 1 H1.out (by decide)).mono ?_
  rintro r w2 ⟨rfl, S2⟩
  rw [al1] at S2
  have H2 : Keep (Sep w w2 [tabA tb 2 [(ka, 1)]]) := ⟨S2⟩
  clear S2 H1
  go_wp2_with fail
  refine (put_s kb 2 H2.out (by decide)).mono ?_
  rintro r w3 ⟨rfl, S3⟩
  rw [al2] at S3
  have H3 : Keep (Sep w w3 [tabA tb 2 [(ka, 1), (kb, 2)]]) := ⟨S3⟩
  clear S3 H2
  go_wp2_with fail
  refine (get_s ka H3.out (by decide)).mono ?_
  rintro r w4 ⟨rfl, S4⟩
  rw [al3] at S4
  have H4 : Keep (Sep w w4 [tabA tb 2 [(kb, 2), (ka, 1)]]) := ⟨S4⟩
  clear S4 H3
  rw [al3v]
  go_wp2_with fail
  refine (put_s kc 3 H4.out (by decide)).mono ?_
  rintro r w5 ⟨rfl, S5⟩
  rw [al4] at S5
  have H5 : Keep (Sep w w5 [tabA tb 2 [(ka, 1), (kc, 3)]]) := ⟨S5⟩
  clear S5 H4
  rw [al4v, al4w]
  go_wp2_with fail
  refine (keys_s H5.out (List.mem_cons_self ..)).mono ?_
  rintro r w6 ⟨v, rfl, S6⟩
  have H6 : Keep (Sep w w6 [rowA v [ka, kc], tabA tb 2 [(ka, 1), (kc, 3)]]) := ⟨S6⟩
  clear S6 H5
  go_wp2_with fail
  have hr := Sep.row H6.out (List.mem_cons_self ..)
  refine (texts_c _ _ _ [ka, kc] [ka, kc] (hr.kept (World.grownBy_alloc _ _ _)) (str_lit w6) (by decide)).mono ?_
  rintro r w7 ⟨rfl, g7⟩
  have H7 : Keep (Sep w w7 [tabA tb 2 [(ka, 1), (kc, 3)]]) := ⟨(H6.out.tail.grown (World.grownBy_alloc _ _ _)).grown g7⟩
  clear g7 H6 hr
  rw [show decide ([ka, kc] = [ka, kc]) = true by simp]
  go_wp2_with fail
  refine (del_s ka H7.out (by decide)).mono ?_
  rintro r w8 ⟨rfl, S8⟩
  rw [al5] at S8
  rw [al5v]
  have H8 : Keep (Sep w w8 [tabA tb 2 [(kc, 3)]]) := ⟨S8⟩
  clear S8 H7
  go_wp2_with fail
  refine (del_s ka H8.out (by decide)).mono ?_
  rintro r w9 ⟨rfl, S9⟩
  rw [al6v]
  have H9 : Keep (w.grownBy w9 none) := ⟨S9.g⟩
  clear S9 H8
  go_wp2_with fail
  go_ret
  exact ⟨rfl, H9.out⟩
end Go.Proofs.Ytkaakbldkicnaaa
