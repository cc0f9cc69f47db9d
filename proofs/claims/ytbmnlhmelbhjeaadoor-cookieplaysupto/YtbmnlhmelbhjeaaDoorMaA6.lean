import Derived.Test.YtbmnlhmelbhjeaaDoorMaA5
namespace Go.Proofs.YtbmnlhmelbhjeaaDoor
open Go Go.RowKit

/-- the state of a hash in the middle of a walk -/
structure HS (w0 w : World) (b : Nat) (ws : List UInt32) (blk : List UInt8) (len : Nat) : Prop where
  h8 : ws.length = 8
  h64 : blk.length = 64
  has : Has w b (hcs ws blk len) 82
  gr : w0.grownBy w (some b)
  kc : Kc w

theorem HS.setByte {w0 w : World} {b : Nat} {ws : List UInt32} {blk : List UInt8} {len : Nat} (h : HS w0 w b ws blk len) (hb0 : 0 ≠ b) (r : Nat) (hr : r < 64) (x : UInt8) (w' : World) (hw : w.setCell ⟨b, 8 + r, none⟩ (bv x) = w') :
    HS w0 w' b ws (blk.take r ++ [x] ++ blk.drop (r + 1)) len := by
  subst hw
  refine ⟨h.h8, ?_, ?_, h.gr.trans (gr_set _ _ _ _), h.kc.kept (gr_set _ _ _ _) (by simpa using hb0)⟩
  · have := h.h64; simp; omega
  · have := h.has.setCells [bv x] (8 + r)
    rw [show [bv x] = [x].map bv from rfl, hcs_over _ _ [x] _ r h.h8 h.h64 (by simp <;> omega)] at this
    exact this
theorem HS.sets {w0 w : World} {b : Nat} {ws : List UInt32} {blk : List UInt8} {len : Nat} (h : HS w0 w b ws blk len) (hb0 : 0 ≠ b) (o : Nat) (q : List UInt8) (ho : o + q.length ≤ 64) (w' : World) (hw : w.setCells b (8 + o) (q.map bv) = w') :
    HS w0 w' b ws (blk.take o ++ q ++ blk.drop (o + q.length)) len := by
  subst hw
  refine ⟨h.h8, ?_, ?_, h.gr.trans (gr_sets _ _ _ _), h.kc.kept (gr_sets _ _ _ _) (by simpa using hb0)⟩
  · have := h.h64; simp; omega
  · have := h.has.setCells (q.map bv) (8 + o)
    rw [hcs_over _ _ q _ o h.h8 h.h64 ho] at this
    exact this
theorem HS.mixed {w0 w w' : World} {b : Nat} {ws : List UInt32} {blk : List UInt8} {len : Nat} (h : HS w0 w b ws blk len) (hb0 : 0 ≠ b) (h1 : Has w' b (hcs (Sha.mixW ws blk) blk len) 82) (h2 : w.grownBy w' (some b)) : HS w0 w' b (Sha.mixW ws blk) blk len :=
  ⟨by rw [Sha.mixW_len]; exact h.h8, h.h64, h1, h.gr.trans h2, h.kc.kept h2 (by simpa using hb0)⟩
theorem HS.len {w0 w : World} {b : Nat} {ws : List UInt32} {blk : List UInt8} {len : Nat} (h : HS w0 w b ws blk len) : w.cell? ⟨b, 72, none⟩ = some (.int .u64 len) := h.has.cellv _ _ (hcs_len _ _ _ h.h8 h.h64)
theorem HS.there {w0 w : World} {b : Nat} {ws : List UInt32} {blk : List UInt8} {len : Nat} (h : HS w0 w b ws blk len) (j : Nat) (hj : j < 73) : ∃ v, w.cell? ⟨b, j, none⟩ = some v := ⟨_, by rw [h.has.cell, List.getElem?_eq_getElem (by rw [hcs_length _ _ _ h.h8 h.h64]; exact hj)]⟩

theorem u64w (x : Int) : IntKind.u64.wrap x = x % 18446744073709551616 := by
  simp [IntKind.wrap, IntKind.bits, IntKind.signed]
theorem size_hi (len : Nat) : IntKind.u64.wrap ((len : Int) * 8) / 4294967296 % 4294967296 = ((UInt32.ofNat (len * 8 % 2 ^ 64 / 2 ^ 32)).toNat : Int) := by
  rw [u64w, UInt32.toNat_ofNat']
  omega
theorem size_lo (len : Nat) : IntKind.u64.wrap ((len : Int) * 8) % 4294967296 = ((UInt32.ofNat (len * 8)).toNat : Int) := by
  rw [u64w, UInt32.toNat_ofNat']
  omega
/-- the block with its length laid, and the two words of it -/
theorem HS.sized {w0 w : World} {b : Nat} {ws : List UInt32} {blk : List UInt8} {len : Nat} (h : HS w0 w b ws blk len) (hb0 : 0 ≠ b) (hi lo : UInt32) (hhi : UInt32.ofNat (len * 8 % 2 ^ 64 / 2 ^ 32) = hi) (hlo : UInt32.ofNat (len * 8) = lo) (w' : World)
    (hw : (w.setCells b 64 ((Sha.w4 hi).map bv)).setCells b 68 ((Sha.w4 lo).map bv) = w') : HS w0 w' b ws (blk.take 56 ++ Sha.len8 len) len := by
  have h1 := h.sets hb0 56 (Sha.w4 hi) (by rw [Sha.w4_len]; decide) _ rfl
  have h2 := h1.sets hb0 60 (Sha.w4 lo) (by rw [Sha.w4_len]; decide) _ rfl
  have e : (blk.take 56 ++ Sha.w4 hi ++ blk.drop (56 + (Sha.w4 hi).length)).take 60 ++ Sha.w4 lo ++ (blk.take 56 ++ Sha.w4 hi ++ blk.drop (56 + (Sha.w4 hi).length)).drop (60 + (Sha.w4 lo).length) = blk.take 56 ++ Sha.len8 len := by
    have l : (blk.take 56 ++ Sha.w4 hi).length = 60 := by simp [Sha.w4_len, h.h64]
    have l2 : (blk.take 56 ++ Sha.w4 hi ++ blk.drop (56 + (Sha.w4 hi).length)).length = 64 := by simp [Sha.w4_len, h.h64]
    rw [List.take_append_of_le_length (by omega), List.take_of_length_le (by omega), List.drop_of_length_le (by rw [l2, Sha.w4_len]; omega), List.append_nil, Sha.len8, hhi, hlo, List.append_assoc]
  rw [e] at h2
  rw [← hw]
  exact h2

/-- behind the byte 128 and the zeros -/
theorem HS.cleared {w0 w : World} {b : Nat} {ws : List UInt32} {blk : List UInt8} {len : Nat} (h : HS w0 w b ws blk len) (hb0 : 0 ≠ b) (r : Nat) (hr : r < 64) (w' : World)
    (hw : (w.setCell ⟨b, 8 + r, none⟩ (.int .u8 128)).setCells b (8 + (r + 1)) (List.replicate (63 - r) (.int .u8 0)) = w') :
    HS w0 w' b ws (blk.take r ++ 128 :: List.replicate (63 - r) 0) len := by
  have h1 := h.setByte hb0 r hr 128 _ rfl
  have h2 := h1.sets hb0 (r + 1) (List.replicate (64 - (r + 1)) 0) (by simp <;> omega) _ rfl
  rw [pad_blk blk r h.h64 hr] at h2
  rw [← hw]
  rw [List.map_replicate, show 64 - (r + 1) = 63 - r by omega] at h2
  exact h2
theorem HS.clr1 {w0 w : World} {b : Nat} {ws : List UInt32} {blk : List UInt8} {len : Nat} (h : HS w0 w b ws blk len) (hb0 : 0 ≠ b) (r : Nat) (hr : r < 64) : Has (w.setCell ⟨b, 8 + r, none⟩ (.int .u8 128)) b (hcs ws (blk.take r ++ [128] ++ blk.drop (r + 1)) len) 82 ∧ (hcs ws (blk.take r ++ [128] ++ blk.drop (r + 1)) len).length = 73 := by
  have h1 := h.setByte hb0 r hr 128 _ rfl
  exact ⟨h1.has, hcs_length _ _ _ h1.h8 h1.h64⟩

theorem HS.zeroed {w0 w : World} {b : Nat} {ws : List UInt32} {blk : List UInt8} {len : Nat} (h : HS w0 w b ws blk len) (hb0 : 0 ≠ b) (w' : World) (hw : w.setCells b 8 (List.replicate 64 (.int .u8 0)) = w') :
    HS w0 w' b ws (List.replicate 64 0) len := by
  have h2 := h.sets hb0 0 (List.replicate 64 0) (by simp) _ rfl
  rw [List.take_zero, List.nil_append, List.drop_of_length_le (by rw [h.h64, List.length_replicate]; omega), List.append_nil, List.map_replicate] at h2
  rw [← hw]
  exact h2
set_option maxRecDepth 100000 in
set_option maxHeartbeats 8000000 in
theorem pad_lo (ws : List UInt32) (blk : List UInt8) (len b r : Nat) (w : World) (hS : HS w w b ws blk len) (hb0 : 0 ≠ b) (hlen : len < 2 ^ 64) (hr : len % 64 = r) (hr56 : r < 56) :
    Calls Tryd.prog 45 #[.pointer (some ⟨b, 0, none⟩)] w fun e w' => e = .returned (.tuple #[]) ∧ ∃ blk', HS w w' b (Sha.padW ws (blk.take (len % 64)) len) blk' len := by
  have hr' : (len : Int) % 64 = (r : Int) := by omega
  have hlc := hS.len
  obtain ⟨v1, hc1⟩ := hS.there (8 + r) (by omega)
  have hf1 := hS.has.frozen (8 + r)
  obtain ⟨A, hs1, hcl1⟩ := slice41e .u64 b (r + 1) (by omega)
  rw [show ((r + 1 : Nat) : Int) = (r : Int) + 1 by omega] at hs1
  rw [show 64 - (r + 1) = 63 - r by omega] at hs1 hcl1
  have H0 : Keep (HS w w b ws blk len) := ⟨hS⟩
  have HC1 : Keep (∀ (W : World) (cs : List Value) (ty : TypeId), Has W b cs 82 → cs.length = 73 → (Builtin.clear_ #[67] ty #[.slice (some A) (63 - r) (63 - r)]).run Tryd.prog W = .ok (.tuple #[]) (W.setCells b (8 + (r + 1)) (List.replicate (63 - r) (.int .u8 0)))) := ⟨hcl1⟩
  have HR : Keep (len % 64 = r) := ⟨hr⟩
  have HLN : Keep (len < 2 ^ 64) := ⟨hlen⟩
  obtain ⟨hi, hhi⟩ : ∃ x, UInt32.ofNat (len * 8 % 2 ^ 64 / 2 ^ 32) = x := ⟨_, rfl⟩
  obtain ⟨lo, hlo⟩ : ∃ x, UInt32.ofNat (len * 8) = x := ⟨_, rfl⟩
  have hz1 := size_hi len
  have hz2 := size_lo len
  rw [hhi] at hz1
  rw [hlo] at hz2
  have HHI : Keep (UInt32.ofNat (len * 8 % 2 ^ 64 / 2 ^ 32) = hi) := ⟨hhi⟩
  have HLO : Keep (UInt32.ofNat (len * 8) = lo) := ⟨hlo⟩
  clear hS hcl1 hr hlen hhi hlo
  go_enter Tryd.func45, Tryd.ntmps45
  go_wp2_with (
    (refine wpList_clear_run _ rfl _ 67 rfl _ rfl (HC1.out _ _ _ (H0.out.clr1 hb0 r (by omega)).1 (H0.out.clr1 hb0 r (by omega)).2) ?_
     generalize hw2 : World.setCells _ _ _ _ = w2
     have H2 : Keep (HS w w2 b ws (blk.take r ++ 128 :: List.replicate (63 - r) 0) len) := ⟨H0.out.cleared hb0 r (by omega) w2 hw2⟩
     have hlc2 := H2.out.len
     clear hw2))
  have hp1 : Keep (Has w2 b (hcs ws (blk.take r ++ 128 :: List.replicate (63 - r) 0) len) 82 ∧ (hcs ws (blk.take r ++ 128 :: List.replicate (63 - r) 0) len).length = 73) := ⟨H2.out.has, hcs_length _ _ _ H2.out.h8 H2.out.h64⟩
  refine (putWord_any hi b 64 8 8 _ 82 _ (by omega) (by rw [hp1.out.2]; omega) hp1.out.1).mono ?_
  rintro e w3 ⟨rfl, rfl⟩
  have hp2 : Keep (HS w (w2.setCells b 64 ((Sha.w4 hi).map bv)) b ws ((blk.take r ++ 128 :: List.replicate (63 - r) 0).take 56 ++ Sha.w4 hi ++ (blk.take r ++ 128 :: List.replicate (63 - r) 0).drop (56 + (Sha.w4 hi).length)) len) := ⟨H2.out.sets hb0 56 (Sha.w4 hi) (by rw [Sha.w4_len]; decide) _ rfl⟩
  go_wp2_with fail
  refine (putWord_any lo b 68 4 4 _ 82 _ (by omega) (by rw [hcs_length _ _ _ hp2.out.h8 hp2.out.h64]; omega) hp2.out.has).mono ?_
  rintro e w3 ⟨rfl, rfl⟩
  generalize hw4 : World.setCells _ b 68 _ = w4
  have H4 : Keep (HS w w4 b ws ((blk.take r ++ 128 :: List.replicate (63 - r) 0).take 56 ++ Sha.len8 len) len) := ⟨H2.out.sized hb0 hi lo HHI.out HLO.out w4 hw4⟩
  clear hw4 hp1 hp2
  go_wp2_with fail
  refine (mix_any _ _ len b _ H4.out.h8 H4.out.h64 H4.out.has H4.out.kc).mono ?_
  rintro e w5 ⟨rfl, h5, g5⟩
  have H5 := H4.out.mixed hb0 h5 g5
  have HF : Keep (∃ blk', HS w w5 b (Sha.padW ws (blk.take (len % 64)) len) blk' len) := ⟨_, by
    have e : Sha.padW ws (blk.take (len % 64)) len = Sha.mixW ws ((blk.take r ++ 128 :: List.replicate (63 - r) 0).take 56 ++ Sha.len8 len) := by
      have h64 := H0.out.h64
      have l : (blk.take r).length = r := by rw [List.length_take]; omega
      have t : (blk.take r ++ 128 :: List.replicate (63 - r) 0).take 56 = blk.take r ++ 128 :: List.replicate (55 - r) (0 : UInt8) := by
        rw [List.take_append, l, List.take_of_length_le (by omega), show 56 - r = (55 - r) + 1 by omega, List.take_succ_cons, List.take_replicate]
        congr 3; omega
      rw [HR.out, Sha.padW, l, if_pos (by omega), t]
    rw [e]; exact H5⟩
  clear H5 h5 g5
  go_wp2
  go_end0
  exact ⟨rfl, HF.out⟩
set_option maxRecDepth 100000 in
set_option maxHeartbeats 8000000 in
theorem pad_hi (ws : List UInt32) (blk : List UInt8) (len b r : Nat) (w : World) (hS : HS w w b ws blk len) (hb0 : 0 ≠ b) (hlen : len < 2 ^ 64) (hr : len % 64 = r) (hr56 : 56 ≤ r) :
    Calls Tryd.prog 45 #[.pointer (some ⟨b, 0, none⟩)] w fun e w' => e = .returned (.tuple #[]) ∧ ∃ blk', HS w w' b (Sha.padW ws (blk.take (len % 64)) len) blk' len := by
  have hr64 : r < 64 := by omega
  have hr56' : (56 : Int) ≤ (r : Int) := by omega
  have hr' : (len : Int) % 64 = (r : Int) := by omega
  have hlc := hS.len
  obtain ⟨v1, hc1⟩ := hS.there (8 + r) (by omega)
  have hf1 := hS.has.frozen (8 + r)
  obtain ⟨A, hs1, hcl1⟩ := slice41e .u64 b (r + 1) (by omega)
  rw [show ((r + 1 : Nat) : Int) = (r : Int) + 1 by omega] at hs1
  rw [show 64 - (r + 1) = 63 - r by omega] at hs1 hcl1
  have H0 : Keep (HS w w b ws blk len) := ⟨hS⟩
  have HC1 : Keep (∀ (W : World) (cs : List Value) (ty : TypeId), Has W b cs 82 → cs.length = 73 → (Builtin.clear_ #[67] ty #[.slice (some A) (63 - r) (63 - r)]).run Tryd.prog W = .ok (.tuple #[]) (W.setCells b (8 + (r + 1)) (List.replicate (63 - r) (.int .u8 0)))) := ⟨hcl1⟩
  have HR : Keep (len % 64 = r) := ⟨hr⟩
  have HLN : Keep (len < 2 ^ 64) := ⟨hlen⟩
  obtain ⟨hi, hhi⟩ : ∃ x, UInt32.ofNat (len * 8 % 2 ^ 64 / 2 ^ 32) = x := ⟨_, rfl⟩
  obtain ⟨lo, hlo⟩ : ∃ x, UInt32.ofNat (len * 8) = x := ⟨_, rfl⟩
  have hz1 := size_hi len
  have hz2 := size_lo len
  rw [hhi] at hz1
  rw [hlo] at hz2
  have HHI : Keep (UInt32.ofNat (len * 8 % 2 ^ 64 / 2 ^ 32) = hi) := ⟨hhi⟩
  have HLO : Keep (UInt32.ofNat (len * 8) = lo) := ⟨hlo⟩
  clear hS hcl1 hr hlen hhi hlo
  go_enter Tryd.func45, Tryd.ntmps45
  go_wp2_with (first
    | (refine wpList_clear_run _ rfl _ 67 rfl _ rfl (HC1.out _ _ _ (H0.out.clr1 hb0 r (by omega)).1 (H0.out.clr1 hb0 r (by omega)).2) ?_
       generalize hw2 : World.setCells _ _ _ _ = w2
       have H2 : Keep (HS w w2 b ws (blk.take r ++ 128 :: List.replicate (63 - r) 0) len) := ⟨H0.out.cleared hb0 r (by omega) w2 hw2⟩
       clear hw2)
    | (go_at_call 41
       refine (mix_any _ _ len b _ H2.out.h8 H2.out.h64 H2.out.has H2.out.kc).mono ?_
       rintro e w3 ⟨rfl, h3, g3⟩
       have H3 : Keep (HS w w3 b (Sha.mixW ws (blk.take r ++ 128 :: List.replicate (63 - r) 0)) (blk.take r ++ 128 :: List.replicate (63 - r) 0) len) := ⟨H2.out.mixed hb0 h3 g3⟩
       clear h3 g3)
    | (refine wpList_clear_run _ rfl _ 67 rfl _ rfl (clear28 _ b 8 64 _ 82 _ H3.out.has (by rw [hcs_length _ _ _ H3.out.h8 H3.out.h64]; omega)) ?_
       generalize hw6 : World.setCells _ b 8 _ = w6
       have H6 : Keep (HS w w6 b (Sha.mixW ws (blk.take r ++ 128 :: List.replicate (63 - r) 0)) (List.replicate 64 0) len) := ⟨H3.out.zeroed hb0 w6 hw6⟩
       have hlc6 := H6.out.len
       clear hw6))
  have hp1 : Keep (Has w6 b (hcs (Sha.mixW ws (blk.take r ++ 128 :: List.replicate (63 - r) 0)) (List.replicate 64 (0 : UInt8)) len) 82 ∧ (hcs (Sha.mixW ws (blk.take r ++ 128 :: List.replicate (63 - r) 0)) (List.replicate 64 (0 : UInt8)) len).length = 73) := ⟨H6.out.has, hcs_length _ _ _ H6.out.h8 H6.out.h64⟩
  refine (putWord_any hi b 64 8 8 _ 82 _ (by omega) (by rw [hp1.out.2]; omega) hp1.out.1).mono ?_
  rintro e w3 ⟨rfl, rfl⟩
  have hp2 : Keep (HS w (w6.setCells b 64 ((Sha.w4 hi).map bv)) b (Sha.mixW ws (blk.take r ++ 128 :: List.replicate (63 - r) 0)) ((List.replicate 64 (0 : UInt8)).take 56 ++ Sha.w4 hi ++ (List.replicate 64 (0 : UInt8)).drop (56 + (Sha.w4 hi).length)) len) := ⟨H6.out.sets hb0 56 (Sha.w4 hi) (by rw [Sha.w4_len]; decide) _ rfl⟩
  go_wp2_with fail
  refine (putWord_any lo b 68 4 4 _ 82 _ (by omega) (by rw [hcs_length _ _ _ hp2.out.h8 hp2.out.h64]; omega) hp2.out.has).mono ?_
  rintro e w3 ⟨rfl, rfl⟩
  generalize hw4 : World.setCells _ b 68 _ = w4
  have H4 : Keep (HS w w4 b (Sha.mixW ws (blk.take r ++ 128 :: List.replicate (63 - r) 0)) ((List.replicate 64 (0 : UInt8)).take 56 ++ Sha.len8 len) len) := ⟨H6.out.sized hb0 hi lo HHI.out HLO.out w4 hw4⟩
  clear hw4 hp1 hp2
  go_wp2_with fail
  refine (mix_any _ _ len b _ H4.out.h8 H4.out.h64 H4.out.has H4.out.kc).mono ?_
  rintro e w5 ⟨rfl, h5, g5⟩
  have H5 := H4.out.mixed hb0 h5 g5
  have HF : Keep (∃ blk', HS w w5 b (Sha.padW ws (blk.take (len % 64)) len) blk' len) := ⟨_, by
    have e : Sha.padW ws (blk.take (len % 64)) len = Sha.mixW (Sha.mixW ws (blk.take r ++ 128 :: List.replicate (63 - r) 0)) ((List.replicate 64 (0 : UInt8)).take 56 ++ Sha.len8 len) := by
      have h64 := H0.out.h64
      have l : (blk.take r).length = r := by rw [List.length_take]; omega
      rw [HR.out, Sha.padW, l, if_neg (by omega), List.take_replicate, show min 56 64 = 56 from rfl]
    rw [e]; exact H5⟩
  clear H5 h5 g5
  go_wp2
  go_end0
  exact ⟨rfl, HF.out⟩

theorem pad_any (ws : List UInt32) (blk : List UInt8) (len b : Nat) (w : World) (hS : HS w w b ws blk len) (hb0 : 0 ≠ b) (hlen : len < 2 ^ 64) :
    Calls Tryd.prog 45 #[.pointer (some ⟨b, 0, none⟩)] w fun e w' => e = .returned (.tuple #[]) ∧ ∃ blk', HS w w' b (Sha.padW ws (blk.take (len % 64)) len) blk' len := by
  by_cases h : len % 64 < 56
  · exact pad_lo ws blk len b _ w hS hb0 hlen rfl h
  · exact pad_hi ws blk len b _ w hS hb0 hlen rfl (by omega)
end Go.Proofs.YtbmnlhmelbhjeaaDoor
