import Derived.Test.YtbjmibihopddcaaDoorB1
import Derived.Lib.SlBytesConst
import Derived.Lib.ConvBytes
namespace Go.Proofs.YtbjmibihopddcaaDoor
open Go Go.RowKit
theorem sum_abc : Sha.sha [97, 98, 99] = [186, 120, 22, 191, 143, 1, 207, 234, 65, 65, 64, 222, 93, 174, 34, 35, 176, 3, 97, 163, 150, 23, 122, 156, 180, 16, 255, 97, 242, 0, 21, 173] := by kernel_rfl
theorem hex_abc : (hexB (Sha.sha [97, 98, 99])).toList = [98, 97, 55, 56, 49, 54, 98, 102, 56, 102, 48, 49, 99, 102, 101, 97, 52, 49, 52, 49, 52, 48, 100, 101, 53, 100, 97, 101, 50, 50, 50, 51, 98, 48, 48, 51, 54, 49, 97, 51, 57, 54, 49, 55, 55, 97, 57, 99, 98, 52, 49, 48, 102, 102, 54, 49, 102, 50, 48, 48, 49, 53, 97, 100] := by rw [sum_abc]; kernel_rfl
theorem sum_empty : Sha.sha [] = [227, 176, 196, 66, 152, 252, 28, 20, 154, 251, 244, 200, 153, 111, 185, 36, 39, 174, 65, 228, 100, 155, 147, 76, 164, 149, 153, 27, 120, 82, 184, 85] := by kernel_rfl
theorem hex_empty : (hexB (Sha.sha [])).toList = [101, 51, 98, 48, 99, 52, 52, 50, 57, 56, 102, 99, 49, 99, 49, 52, 57, 97, 102, 98, 102, 52, 99, 56, 57, 57, 54, 102, 98, 57, 50, 52, 50, 55, 97, 101, 52, 49, 101, 52, 54, 52, 57, 98, 57, 51, 52, 99, 97, 52, 57, 53, 57, 57, 49, 98, 55, 56, 53, 50, 98, 56, 53, 53] := by rw [sum_empty]; kernel_rfl
theorem sum_two : Sha.sha [97, 98, 99, 100, 98, 99, 100, 101, 99, 100, 101, 102, 100, 101, 102, 103, 101, 102, 103, 104, 102, 103, 104, 105, 103, 104, 105, 106, 104, 105, 106, 107, 105, 106, 107, 108, 106, 107, 108, 109, 107, 108, 109, 110, 108, 109, 110, 111, 109, 110, 111, 112, 110, 111, 112, 113] = [36, 141, 106, 97, 210, 6, 56, 184, 229, 192, 38, 147, 12, 62, 96, 57, 163, 60, 228, 89, 100, 255, 33, 103, 246, 236, 237, 212, 25, 219, 6, 193] := by kernel_rfl
theorem hex_two : (hexB (Sha.sha [97, 98, 99, 100, 98, 99, 100, 101, 99, 100, 101, 102, 100, 101, 102, 103, 101, 102, 103, 104, 102, 103, 104, 105, 103, 104, 105, 106, 104, 105, 106, 107, 105, 106, 107, 108, 106, 107, 108, 109, 107, 108, 109, 110, 108, 109, 110, 111, 109, 110, 111, 112, 110, 111, 112, 113])).toList = [50, 52, 56, 100, 54, 97, 54, 49, 100, 50, 48, 54, 51, 56, 98, 56, 101, 53, 99, 48, 50, 54, 57, 51, 48, 99, 51, 101, 54, 48, 51, 57, 97, 51, 51, 99, 101, 52, 53, 57, 54, 52, 102, 102, 50, 49, 54, 55, 102, 54, 101, 99, 101, 100, 100, 52, 49, 57, 100, 98, 48, 54, 99, 49] := by rw [sum_two]; kernel_rfl
theorem sha_len (T : List UInt8) : (Sha.sha T).length = 32 := by
  rw [Sha.sha, out_len, Sha.fold_len]; rfl

theorem under5 : Tryd.prog.underlying 5 = some (.int .u8) := by kernel_rfl
theorem kconst (w : World) (C : Array Value) (n c : Nat) : (convert 28 28 (.slice (some ⟨w.heap.size, 0, none⟩) n c)).run Tryd.prog (w.alloc (.cells C 5)) = .ok (.slice (some ⟨w.heap.size, 0, none⟩) n c) (w.alloc (.cells C 5 (C.size, C.size + 1))) :=
  Lib.run_convert_bytes_const w 28 5 C n c under28 under5
/-- a block of a slice's bytes, whatever mark it bears -/
theorem bytes_new (w' : World) (b n c : Nat) (q : List UInt8) (fr : Nat × Nat) (e : TypeId) (hb : w'.heap[b]? = some (.cells (q.map bv).toArray e fr)) (hn : q.length = n) (hc : n ≤ c) : BytesOf w' (some ⟨b, 0, none⟩) n c q := by
  refine ⟨hn, hc, fun _ => ⟨b, 0, rfl, fun j x hx => ?_⟩⟩
  simp only [World.cell?, hb]
  simp [hx]
theorem parts_one (w : World) (a : Option Addr) (n c : Nat) (q : List UInt8) (hq : BytesOf w a n c q) : Parts (w.alloc (.cells #[.slice a n c] 28)) (some ⟨w.heap.size, 0, none⟩) 1 [q] := by
  refine ⟨rfl, fun _ => ⟨_, 0, rfl, fun j p hp => ?_⟩⟩
  match j, hp with
  | 0, hp =>
    obtain rfl : q = p := by simpa using hp
    refine ⟨a, n, c, ?_, hq.kept (World.grownBy_alloc _ _ _)⟩
    rw [(Has.newA w #[.slice a n c] 28).cell]; rfl
  | j + 1, hp => simp at hp

theorem parts_of (W : World) (b n : Nat) (vs : List Value) (t : TypeId) (ps : List (List UInt8)) (h : Has W b vs t) (hl : ps.length = n) (hv : ∀ (j : Nat) (q : List UInt8), ps[j]? = some q → ∃ a n c, vs[j]? = some (Value.slice a n c) ∧ BytesOf W a n c q) : Parts W (some ⟨b, 0, none⟩) n ps := by
  refine ⟨hl, fun _ => ⟨b, 0, rfl, fun j q hq => ?_⟩⟩
  obtain ⟨a, n, c, h1, h2⟩ := hv j q hq
  exact ⟨a, n, c, by rw [Nat.zero_add, h.cell, h1], h2⟩
theorem bytes_none (W : World) (a : Option Addr) (c : Nat) : BytesOf W a 0 c [] := ⟨rfl, Nat.zero_le _, fun h => by omega⟩
theorem parts_two (W : World) (b : Nat) (a1 a2 : Option Addr) (n1 n2 c1 c2 : Nat) (t : TypeId) (q1 q2 : List UInt8) (h : Has W b [.slice a1 n1 c1, .slice a2 n2 c2] t) (h1 : BytesOf W a1 n1 c1 q1) (h2 : BytesOf W a2 n2 c2 q2) : Parts W (some ⟨b, 0, none⟩) 2 [q1, q2] := by
  refine parts_of W b 2 _ t _ h rfl fun j q hq => ?_
  match j, hq with
  | 0, hq => obtain rfl : q1 = q := by simpa using hq
             exact ⟨a1, n1, c1, rfl, h1⟩
  | 1, hq => obtain rfl : q2 = q := by simpa using hq
             exact ⟨a2, n2, c2, rfl, h2⟩
  | j + 2, hq => simp at hq
theorem parts_three (W : World) (b : Nat) (a1 a2 a3 : Option Addr) (n1 n2 n3 c1 c2 c3 : Nat) (t : TypeId) (q1 q2 q3 : List UInt8) (h : Has W b [.slice a1 n1 c1, .slice a2 n2 c2, .slice a3 n3 c3] t) (h1 : BytesOf W a1 n1 c1 q1) (h2 : BytesOf W a2 n2 c2 q2) (h3 : BytesOf W a3 n3 c3 q3) : Parts W (some ⟨b, 0, none⟩) 3 [q1, q2, q3] := by
  refine parts_of W b 3 _ t _ h rfl fun j q hq => ?_
  match j, hq with
  | 0, hq => obtain rfl : q1 = q := by simpa using hq
             exact ⟨a1, n1, c1, rfl, h1⟩
  | 1, hq => obtain rfl : q2 = q := by simpa using hq
             exact ⟨a2, n2, c2, rfl, h2⟩
  | 2, hq => obtain rfl : q3 = q := by simpa using hq
             exact ⟨a3, n3, c3, rfl, h3⟩
  | j + 3, hq => simp at hq
def twoT : List UInt8 := [97, 98, 99, 100, 98, 99, 100, 101, 99, 100, 101, 102, 100, 101, 102, 103, 101, 102, 103, 104, 102, 103, 104, 105, 103, 104, 105, 106, 104, 105, 106, 107, 105, 106, 107, 108, 106, 107, 108, 109, 107, 108, 109, 110, 108, 109, 110, 111, 109, 110, 111, 112, 110, 111, 112, 113]
theorem ktwo (W : World) : (convert 9 28 (.string ⟨twoT.toArray⟩)).run Tryd.prog W = .ok (.slice (some ⟨W.heap.size, 0, none⟩) 56 (grownCap W 56 0 5)) (Lib.bytesWorld W 5 ⟨twoT.toArray⟩) :=
  Lib.run_convert_string_bytes (P := Tryd.prog) W 9 28 5 ⟨twoT.toArray⟩ (u := .string) (by kernel_rfl) under28 under5
theorem two_bytes (W : World) (c : Nat) (hc : 56 ≤ c) : BytesOf (Lib.bytesWorld W 5 ⟨twoT.toArray⟩) (some ⟨W.heap.size, 0, none⟩) 56 c twoT ∧ W.grownBy (Lib.bytesWorld W 5 ⟨twoT.toArray⟩) none := by
  refine ⟨⟨rfl, hc, fun _ => ⟨_, 0, rfl, fun j x hx => ?_⟩⟩, ⟨rfl, rfl, rfl, by rw [Lib.bytesWorld_size]; omega, fun k hk _ => Lib.bytesWorld_at_old _ _ _ _ hk⟩⟩
  have hj : j < twoT.length := (List.getElem?_eq_some_iff.1 hx).1
  rw [Nat.zero_add, Lib.bytesWorld_cell _ _ _ j (by simpa [ByteArray.size] using hj)]
  simp [List.getD, hx]

theorem ktwo_ex (W : World) : ∃ w' c, (convert 9 28 (.string ⟨twoT.toArray⟩)).run Tryd.prog W = .ok (.slice (some ⟨W.heap.size, 0, none⟩) 56 c) w' ∧ BytesOf w' (some ⟨W.heap.size, 0, none⟩) 56 c twoT ∧ W.grownBy w' none :=
  ⟨_, _, ktwo W, (two_bytes W _ (grownCap_ge W 56 0 5)).1, (two_bytes W _ (grownCap_ge W 56 0 5)).2⟩

set_option maxRecDepth 100000 in
set_option maxHeartbeats 2000000 in
theorem alive_any (w : World) (hk : Kc w) :
    Calls Tryd.prog 11 #[] w fun e w' => e = .returned (.bool true) ∧ w.grownBy w' none := by
  have HK : Keep (Kc w) := ⟨hk⟩
  clear hk
  have hcv := kconst
  go_enter Tryd.func11, Tryd.ntmps11
  go_wp2_with fail
  generalize hw1 : World.alloc _ _ = w1
  have H1 : Keep (Parts w1 (some ⟨w.heap.size + 1, 0, none⟩) 1 [[97, 98, 99]] ∧ w.grownBy w1 none) := ⟨by
    subst hw1
    have h := parts_one (w.alloc (.cells #[Value.int IntKind.u8 97, Value.int IntKind.u8 98, Value.int IntKind.u8 99] 5 (3, 4))) (some ⟨w.heap.size, 0, none⟩) 3 3 [97, 98, 99] (bytes_new _ w.heap.size 3 3 [97, 98, 99] (3, 4) 5 (heap_alloc_last w _) rfl (by decide))
    rw [heap1] at h
    exact ⟨h, (World.grownBy_alloc _ _ _).trans (World.grownBy_alloc _ _ _)⟩⟩
  have HK1 : Keep (Kc w1) := ⟨HK.out.kept H1.out.2 (by simp)⟩
  clear hw1
  refine (of_any _ 1 1 [[97, 98, 99]] _ H1.out.1 HK1.out (by decide) (by decide)).mono ?_
  rintro e w2 ⟨rfl, g2⟩
  have HG2 : Keep (w.grownBy w2 none) := ⟨H1.out.2.trans g2⟩
  have hh := hex_abc
  have hsl := sha_len [97, 98, 99]
  rw [show ([[97, 98, 99]] : List (List UInt8)).flatten = [97, 98, 99] from rfl]
  generalize Sha.sha [97, 98, 99] = S at hh hsl ⊢
  clear g2
  go_wp2_with (go_at_call 8; refine (hex_any S _ _ ⟨rfl⟩ hsl).mono ?_; rintro e w3 ⟨rfl, g3⟩; have HG3 : Keep (w.grownBy w3 none) := ⟨HG2.out.trans g3⟩; clear g3)
  go_ret
  exact ⟨rfl, HG3.out⟩

set_option maxRecDepth 100000 in
set_option maxHeartbeats 4000000 in
theorem known_any (w : World) (hk : Kc w) :
    Calls Tryd.prog 3 #[] w fun e w' => e = .returned (.bool true) ∧ w.grownBy w' none := by
  have HK : Keep (Kc w) := ⟨hk⟩
  clear hk
  go_enter Tryd.func3, Tryd.ntmps3
  go_wp2_with fail
  refine (new_any _).mono ?_
  rintro e w1 ⟨rfl, h1, g1⟩
  have H1 : Keep (HashOf w1 w.heap.size [] ∧ w.grownBy w1 none ∧ Kc w1) := ⟨h1, g1, HK.out.kept g1 (by simp)⟩
  clear h1 g1
  go_wp2_with fail
  refine (sum_any _ [] _ H1.out.1 H1.out.2.2 (by decide)).mono ?_
  rintro e w2 ⟨rfl, g2⟩
  have H2 : Keep (w.grownBy w2 none ∧ Kc w2) := ⟨H1.out.2.1.trans g2, H1.out.2.2.kept g2 (by simp)⟩
  have hh := hex_empty
  have hsl := sha_len []
  generalize Sha.sha [] = S at hh hsl ⊢
  clear g2 H1
  go_wp2_with fail
  refine (hex_any S _ _ ⟨rfl⟩ hsl).mono ?_
  rintro e w3 ⟨rfl, g3⟩
  have H3 : Keep (w.grownBy w3 none ∧ Kc w3) := ⟨H2.out.1.trans g3, H2.out.2.kept g3 (by simp)⟩
  clear g3 H2
  go_wp2_with fail
  refine (of_any none 0 0 [] _ ⟨rfl, fun h => by omega⟩ H3.out.2 (by decide) (by decide)).mono ?_
  rintro e w4 ⟨rfl, g4⟩
  have H4 : Keep (w.grownBy w4 none ∧ Kc w4) := ⟨H3.out.1.trans g4, H3.out.2.kept g4 (by simp)⟩
  rw [show ([] : List (List UInt8)).flatten = [] from rfl]
  have hh2 := hex_empty
  have hsl2 := sha_len []
  generalize Sha.sha [] = S2 at hh2 hsl2 ⊢
  clear g4 H3 hh hsl
  go_wp2_with fail
  refine (hex_any S2 _ _ ⟨rfl⟩ hsl2).mono ?_
  rintro e w5 ⟨rfl, g5⟩
  have H5 : Keep (w.grownBy w5 none ∧ Kc w5) := ⟨H4.out.1.trans g5, H4.out.2.kept g5 (by simp)⟩
  clear g5 H4
  go_wp2_with fail
  generalize hw6 : World.alloc _ _ = w6
  have H6 : Keep (Parts w6 (some ⟨w5.heap.size + 1, 0, none⟩) 2 [[], []] ∧ w.grownBy w6 none ∧ Kc w6) := ⟨by
    subst hw6
    have g : w5.grownBy ((w5.alloc (Obj.cells #[] 5)).alloc (Obj.cells #[Value.slice none 0 0, Value.slice (some ⟨w5.heap.size, 0, none⟩) 0 0] 28)) none := (World.grownBy_alloc _ _ _).trans (World.grownBy_alloc _ _ _)
    refine ⟨parts_two _ _ none (some ⟨w5.heap.size, 0, none⟩) 0 0 0 0 28 [] [] ?_ (bytes_none _ _ _) (bytes_none _ _ _), H5.out.1.trans g, H5.out.2.kept g (by simp)⟩
    have := Has.newA (w5.alloc (Obj.cells #[] 5)) #[Value.slice none 0 0, Value.slice (some ⟨w5.heap.size, 0, none⟩) 0 0] 28
    rw [heap1] at this
    exact this⟩
  clear hw6 H5
  refine (of_any _ 2 2 [[], []] _ H6.out.1 H6.out.2.2 (by decide) (by decide)).mono ?_
  rintro e w7 ⟨rfl, g7⟩
  have H7 : Keep (w.grownBy w7 none ∧ Kc w7) := ⟨H6.out.2.1.trans g7, H6.out.2.2.kept g7 (by simp)⟩
  rw [show ([[], []] : List (List UInt8)).flatten = [] from rfl]
  have hh3 := hex_empty
  have hsl3 := sha_len []
  generalize Sha.sha [] = S3 at hh3 hsl3 ⊢
  clear g7 H6 hh2 hsl2
  go_wp2_with fail
  refine (hex_any S3 _ _ ⟨rfl⟩ hsl3).mono ?_
  rintro e w8 ⟨rfl, g8⟩
  have H8 : Keep (w.grownBy w8 none ∧ Kc w8) := ⟨H7.out.1.trans g8, H7.out.2.kept g8 (by simp)⟩
  clear g8 H7
  go_wp2_with fail
  refine (alive_any _ H8.out.2).mono ?_
  rintro e w9 ⟨rfl, g9⟩
  have H9 : Keep (w.grownBy w9 none ∧ Kc w9) := ⟨H8.out.1.trans g9, H8.out.2.kept g9 (by simp)⟩
  clear g9 H8 hh3 hsl3
  obtain ⟨w10, c10, hk2, hb10, g10⟩ := ktwo_ex w9
  have H10 : Keep (BytesOf w10 (some ⟨w9.heap.size, 0, none⟩) 56 c10 twoT ∧ w.grownBy w10 none ∧ Kc w10) := ⟨hb10, H9.out.1.trans g10, H9.out.2.kept g10 (by simp)⟩
  clear hb10 g10 H9
  unfold twoT at hk2
  go_wp2_with fail
  clear hk2
  refine (of_any _ 1 1 [twoT] _ (parts_one w10 _ _ _ _ H10.out.1) (H10.out.2.2.kept (World.grownBy_alloc _ _ none) (by simp)) (by decide) (by decide)).mono ?_
  rintro e w11 ⟨rfl, g11⟩
  have H11 : Keep (w.grownBy w11 none) := ⟨(H10.out.2.1.trans (World.grownBy_alloc _ _ _)).trans g11⟩
  rw [show ([twoT] : List (List UInt8)).flatten = twoT from rfl]
  have hh4 : (hexB (Sha.sha twoT)).toList = _ := hex_two
  have hsl4 := sha_len twoT
  generalize Sha.sha twoT = S4 at hh4 hsl4 ⊢
  clear g11 H10
  go_wp2_with fail
  refine (hex_any S4 _ _ ⟨rfl⟩ hsl4).mono ?_
  rintro e w12 ⟨rfl, g12⟩
  have H12 : Keep (w.grownBy w12 none) := ⟨H11.out.trans g12⟩
  clear g12 H11
  go_wp2_with fail
  go_ret
  exact ⟨rfl, H12.out⟩
end Go.Proofs.YtbjmibihopddcaaDoor
