/- mac.writeNumber, mac.end -/
import Derived.Test.YtbmnlhmelbhjeaaDoorMaM3
namespace Go.Proofs.YtbmnlhmelbhjeaaDoor
open Go Go.RowKit

theorem len8_get (n i : Nat) (hi : i < 8) : (Mac.len8 n)[i]? = some (UInt8.ofNat (n / 2 ^ (56 - 8 * i))) := by
  match i, hi with
  | 0, _ => rfl
  | 1, _ => rfl
  | 2, _ => rfl
  | 3, _ => rfl
  | 4, _ => rfl
  | 5, _ => rfl
  | 6, _ => rfl
  | 7, _ => simp [Mac.len8]
/-- the first i bytes laid, zeros behind -/
def l8To (n i : Nat) : List UInt8 := (Mac.len8 n).take i ++ List.replicate (8 - i) 0
theorem l8To_step (n i : Nat) (hi : i < 8) : (l8To n i).set i (UInt8.ofNat (n / 2 ^ (56 - 8 * i))) = l8To n (i + 1) := by
  match i, hi with
  | 0, _ => rfl
  | 1, _ => rfl
  | 2, _ => rfl
  | 3, _ => rfl
  | 4, _ => rfl
  | 5, _ => rfl
  | 6, _ => rfl
  | 7, _ => simp [l8To, Mac.len8]
theorem gr_weak {a c : World} (h : a.grownBy c none) (row : Option Nat) : a.grownBy c row := ⟨h.os, h.tape, h.output, h.size, fun i hi _ => h.block i hi (by simp)⟩
structure WN (w w' : World) (b n : Nat) (T : List UInt8) (i : Nat) : Prop where
  h : HashOf w' b T
  p : Has w' w.heap.size ((l8To n i).map bv) 83
  g : w.grownBy w' none

set_option maxRecDepth 100000 in
set_option maxHeartbeats 4000000 in
theorem wnum_gen (b n : Nat) (T : List UInt8) (w : World) (hh : HashOf w b T) (hk : Kc w) (hb0 : 0 ≠ b) :
    Calls Tryd.prog 31 #[.pointer (some ⟨b, 0, none⟩), .int .u64 n] w fun e w' => e = .returned (.tuple #[]) ∧ HashOf w' b (T ++ Mac.len8 n) ∧ w.grownBy w' (some b) := by
  have HK : Keep (Kc w) := ⟨hk⟩
  have HH : Keep (HashOf w b T) := ⟨hh⟩
  have hbw := hh.lt
  clear hk hh
  go_enter Tryd.func31, Tryd.ntmps31
  go_wp2
  go_loopw [6] (fun t w' => ∃ i : Nat, i ≤ 8 ∧ t = .int .i64 i ∧ Keep (WN w w' b n T i)) (fun t _ => 8 - (intOf t).toNat)
  case atStart => exact ⟨0, by omega, rfl, ⟨HH.out.kept (World.grownBy_alloc _ _ none) (by simp), Has.newA _ _ _, World.grownBy_alloc _ _ _⟩⟩
  case round =>
    obtain ⟨i, hi, rfl, hrel⟩ := hrel
    by_cases hli : i < 8
    · obtain ⟨v, hv⟩ : ∃ v, UInt8.ofNat (n / 2 ^ (56 - 8 * i)) = v := ⟨_, rfl⟩
      have H2 : Keep (WN w (wr.setCell ⟨w.heap.size, i, none⟩ (.int .u8 v.toNat)) b n T (i + 1)) := ⟨hrel.out.h.kept (gr_set _ _ _ _) (by simp <;> omega), by
        have := hrel.out.p.setCell i (bv v)
        rw [← List.map_set, ← hv, l8To_step n i hli, hv] at this
        exact this, gr_new hrel.out.g (gr_set _ _ _ _) (Nat.le_refl _)⟩
      have hf := hrel.out.p.frozen i
      have hcl : (wr.cell? ⟨w.heap.size, i, none⟩).isSome = true := (hrel.out.p.there i 1 (by rw [List.length_map]; simp [l8To, Mac.len8]; omega) 0 (by decide)).1
      obtain ⟨y0, hc⟩ := Option.isSome_iff_exists.1 hcl
      have hv2 : (n : Int) / 2 ^ (56 - 8 * i) % 256 = (v.toNat : Int) := by
        rw [← hv]; simp
      clear hrel hv hcl
      go_wp2
      refine ⟨⟨i + 1, by omega, by go_num, H2⟩, ?_⟩
      simp [intOf]; omega
    · have HE : Keep (HashOf wr b T ∧ Bytes b wr (some ⟨w.heap.size, 0, none⟩) 8 8 (Mac.len8 n) ∧ w.grownBy wr none ∧ Kc wr) := ⟨by
        obtain rfl : i = 8 := by omega
        have h := hrel.out.p
        refine ⟨hrel.out.h, ⟨rfl, Nat.le_refl _, fun _ => ⟨_, 0, rfl, by omega, fun j x hx => ?_⟩⟩, hrel.out.g, HK.out.kept hrel.out.g (by simp)⟩
        rw [Nat.zero_add]
        exact h.cellv j _ (by rw [List.getElem?_map, show l8To n 8 = Mac.len8 n from rfl, hx]; rfl)⟩
      clear hrel
      go_wp2_with (go_at_call 30; refine (write_gen b _ 8 8 T (Mac.len8 n) wr HE.out.1 HE.out.2.2.2 hb0 HE.out.2.1 (by decide)).mono ?_; rintro e w3 ⟨rfl, h3, g3⟩; have H3 : Keep (HashOf w3 b (T ++ Mac.len8 n) ∧ w.grownBy w3 (some b)) := ⟨h3, (gr_weak HE.out.2.2.1 _).trans g3⟩; clear h3 g3)
      go_end0
      exact ⟨rfl, H3.out⟩

theorem wnum_any (b n : Nat) (T : List UInt8) (w : World) (hh : HashOf w b T) (hk : Kc w) (hb0 : 0 ≠ b) (_hT : T.length + 8 ≤ 4611686018427387904) :
    Calls Tryd.prog 31 #[.pointer (some ⟨b, 0, none⟩), .int .u64 n] w fun e w' => e = .returned (.tuple #[]) ∧ HashOf w' b (T ++ Mac.len8 n) ∧ w.grownBy w' (some b) := wnum_gen b n T w hh hk hb0

theorem str_back (w : World) (b : Nat) (S : List UInt8) (h32 : S.length = 32) (h : Has w b (S.map bv) 76) : (convert 67 9 (.slice (some ⟨b, 0, none⟩) 32 32)).run Tryd.prog w = .ok (.string ⟨S.toArray⟩) w := by
  have := run_convert_bytes_back (P := Tryd.prog) w 67 9 5 ⟨b, 0, none⟩ 32 S under28 (by kernel_rfl) (by kernel_rfl) (fun j hj => by
    rw [Addr.add_mid, Nat.zero_add]
    exact h.cellv j _ (by rw [List.getElem?_map, List.getElem?_eq_getElem hj]; rfl))
  rw [h32] at this
  exact this
theorem Has.by32 {w : World} {b b' : Nat} {S : List UInt8} (h : Has w b (S.map bv) 76) (h32 : S.length = 32) (hne : b ≠ b') : Bytes b' w (some ⟨b, 0, none⟩) 32 32 S :=
  ⟨h32, Nat.le_refl _, fun _ => ⟨_, 0, rfl, hne, fun j x hx => by rw [Nat.zero_add]; exact h.cellv j _ (by rw [List.getElem?_map, hx]; rfl)⟩⟩

set_option maxRecDepth 100000 in
set_option maxHeartbeats 4000000 in
theorem end_gen (k : List UInt8) (A : Array Value) (b : Nat) (T : List UInt8) (w : World) (hA : Keep (A = (k.map bv).toArray)) (h64 : k.length = 64) (hh : HashOf w b T) (hk : Kc w) :
    Calls Tryd.prog 32 #[.agg A, .pointer (some ⟨b, 0, none⟩)] w fun e w' => e = .returned (.string ⟨(Sha.sha (Mac.kx 92 k ++ Sha.sha T)).toArray⟩) ∧ w.grownBy w' none := by
  have HK : Keep (Kc w) := ⟨hk⟩
  have HH : Keep (HashOf w b T) := ⟨hh⟩
  have HSL : Keep ((Sha.sha T).length = 32 ∧ ∀ S : List UInt8, (Sha.sha S).length = 32) := ⟨Mac.sha_len _, Mac.sha_len⟩
  have HB : Keep (Has (w.alloc (.cells A 61)) w.heap.size (k.map bv) 61 ∧ (Tryd.prog.info? 61).map (·.size) = some (k.map bv).length) := ⟨by rw [hA.out]; exact ⟨Has.new _ _ _, by rw [List.length_map, h64]; exact size41⟩⟩
  clear hk hh
  generalize hsv : Sha.sha T = S at HSL
  have HSV : Keep (Sha.sha T = S) := ⟨hsv⟩
  clear hsv
  go_enter Tryd.func32, Tryd.ntmps32
  go_wp2_with (first
    | (go_at_call 40; refine (sum_gen _ T _ (HH.out.kept (World.grownBy_alloc _ _ none) (by simp)) (HK.out.kept (World.grownBy_alloc _ _ none) (by simp))).mono ?_; rintro e w1 ⟨rfl, g1⟩
       have H1 : Keep (w.grownBy w1 none ∧ Has w1 w.heap.size (k.map bv) 61) := ⟨(World.grownBy_alloc _ _ _).trans g1, HB.out.1.kept g1 (by simp)⟩
       rw [HSV.out]
       clear g1)
    | (refine wpList_store_mid rfl 76 _ _ rfl _ _ _ rfl rfl ((Has.newA w1 _ 76).there 0 _ (by rw [List.size_toArray, List.length_map, HSL.out.1]; decide)) (info36 S HSL.out.1) (bytes_one _) ?_
       generalize hw2 : World.setCells _ _ _ _ = w2
       obtain ⟨h2, g2⟩ := sumVar w1 _ rfl S HSL.out.1 w2 hw2
       have H2 : Keep (Has w2 w1.heap.size (S.map bv) 76 ∧ w.grownBy w2 none ∧ Has w2 w.heap.size (k.map bv) 61 ∧ Kc w2) := ⟨h2, H1.out.1.trans g2, H1.out.2.kept g2 (by simp), HK.out.kept (H1.out.1.trans g2) (by simp)⟩
       clear h2 g2 hw2)
    | (refine wpList_load_mid rfl 61 _ rfl _ _ rfl _ _ H2.out.2.2.1.range under41 rfl HB.out.2 ?_))
  refine (begin_any k _ 92 w2 ⟨rfl⟩ h64 H2.out.2.2.2).mono ?_
  rintro e w3 ⟨bo, rfl, h3, g3, hbo⟩
  have H3 : Keep (HashOf w3 bo (Mac.kx 92 k) ∧ Bytes bo w3 (some ⟨w1.heap.size, 0, none⟩) 32 32 S ∧ w.grownBy w3 none ∧ Kc w3 ∧ 0 ≠ bo ∧ w.heap.size ≤ bo) := ⟨h3, (H2.out.1.kept g3 (by simp)).by32 HSL.out.1 (by have := H2.out.1.lt; omega), H2.out.2.1.trans g3, H2.out.2.2.2.kept g3 (by simp), by have := H2.out.2.2.2.lt; omega, by have := H2.out.2.1.size; omega⟩
  have HL : Keep ((Mac.kx 92 k).length + S.length ≤ 4611686018427387904) := ⟨by rw [Mac.kx_len, h64, HSL.out.1]; decide⟩
  generalize hsv2 : Mac.kx 92 k = K2 at H3 HL
  have HS2 : Keep (Mac.kx 92 k = K2) := ⟨hsv2⟩
  clear h3 g3 hbo hsv2
  go_wp2_with (first
    | (go_at_call 30; refine (write_any bo _ 32 32 K2 S w3 H3.out.1 H3.out.2.2.2.1 H3.out.2.2.2.2.1 H3.out.2.1 HL.out).mono ?_; rintro e w4 ⟨rfl, h4, g4⟩
       have H4 : Keep (HashOf w4 bo (K2 ++ S) ∧ w.grownBy w4 none ∧ Kc w4) := ⟨h4, gr_new H3.out.2.2.1 g4 H3.out.2.2.2.2.2, H3.out.2.2.2.1.kept g4 (by simpa using H3.out.2.2.2.2.1)⟩
       clear h4 g4)
    | (go_at_call 40; refine (sum_any bo (K2 ++ S) w4 H4.out.1 H4.out.2.2 (by have := HL.out; rw [List.length_append]; omega)).mono ?_; rintro e w5 ⟨rfl, g5⟩
       have H5 : Keep (w.grownBy w5 none) := ⟨H4.out.2.1.trans g5⟩
       have HS3 : Keep ((Sha.sha (K2 ++ S)).length = 32) := ⟨HSL.out.2 _⟩
       generalize hs4 : Sha.sha (K2 ++ S) = S4 at HS3 ⊢
       have HS4 : Keep (Sha.sha (K2 ++ S) = S4) := ⟨hs4⟩
       clear g5 hs4)
    | (refine wpList_store_mid rfl 76 _ _ rfl _ _ _ rfl rfl ((Has.newA w5 _ 76).there 0 _ (by rw [List.size_toArray, List.length_map, HS3.out]; decide)) (info36 S4 HS3.out) (bytes_one _) ?_
       generalize hw6 : World.setCells _ _ _ _ = w6
       obtain ⟨h6, g6⟩ := sumVar w5 _ rfl S4 HS3.out w6 hw6
       have hcv := str_back w6 w5.heap.size S4 HS3.out h6
       have H6 : Keep (w.grownBy w6 none) := ⟨H5.out.trans g6⟩
       clear h6 g6 hw6))
  go_ret
  exact ⟨by rw [HS2.out, HS4.out]; rfl, H6.out⟩
theorem end_any (k : List UInt8) (A : Array Value) (b : Nat) (T : List UInt8) (w : World) (hA : Keep (A = (k.map bv).toArray)) (h64 : k.length = 64) (hh : HashOf w b T) (hk : Kc w) (_hT : T.length < 18446744073709551616) :
    Calls Tryd.prog 32 #[.agg A, .pointer (some ⟨b, 0, none⟩)] w fun e w' => e = .returned (.string ⟨(Sha.sha (Mac.kx 92 k ++ Sha.sha T)).toArray⟩) ∧ w.grownBy w' none := end_gen k A b T w hA h64 hh hk
end Go.Proofs.YtbmnlhmelbhjeaaDoor
