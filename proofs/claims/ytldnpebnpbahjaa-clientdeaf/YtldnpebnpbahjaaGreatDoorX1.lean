import Derived.Test.YtldnpebnpbahjaaGreatDoorX0
namespace Go.Proofs.YtldnpebnpbahjaaGreatDoor
open Go Go.RowKit

/-- clear of a slice whose run is known, at the list of a plain region's operations -/
theorem wpList_clear_run {P : Program} (w : World) {ops : Array Oper} {rest : List Oper} {o : Oper} {a : Act} {Q : Exit → Act → World → Prop} (hgd : o.guard = none) (d : Operand) (t : TypeId)
    (ho : o.op = .call { callee := .builtin .clear, args := #[d], argTypes := #[t] }) (v : Value) (hd : a.eval d = v) {v' : Value} {w' : World}
    (hr : (Builtin.clear_ #[t] o.type #[v]).run P w = .ok v' w') (h : wpList P ops Q rest (a.put o.dst v') w') : wpList P ops Q (o :: rest) a w :=
  wpList_plain hgd fun _ hK => by
    unfold Oper.wp execOp
    simp only [ho, resolve, invoke, builtin, Sem.run_bind, Sem.run_pure, Result.andThen_ok, List.map_toArray, List.map_cons, List.map_nil, hd, hr]
    exact hK _ _ h

set_option maxRecDepth 100000 in
theorem under28 : Tryz.prog.underlying 60 = some (.slice 5) := by kernel_rfl
set_option maxRecDepth 100000 in
theorem clear28 (W : World) (b o n : Nat) (cs : List Value) (t ty : TypeId) (hb : Has W b cs t) (ho : o + n ≤ cs.length) :
    (Builtin.clear_ #[60] ty #[.slice (some ⟨b, o, none⟩) n n]).run Tryz.prog W = .ok (.tuple #[]) (W.setCells b o (List.replicate n (.int .u8 0))) := by
  by_cases hn : n = 0
  · subst hn
    simp [Builtin.clear_, run_underlying under28, World.setCells]
  · exact Lib.run_clear_slice W 60 5 ty (.int .u8 0) under28 (fun _ => by kernel_rfl) rfl rfl b o n n (by omega) (fun j hj => (hb.there o n ho j hj).1) (fun j hj => (hb.there o n ho j hj).2)
set_option maxRecDepth 100000 in
theorem slice41e (k : IntKind) (b : Nat) (n : Nat) (hn : n ≤ 64) : ∃ A : Addr, (∀ W : World, (Instr.sliceAt 111 (.pointer (some ⟨b, 8, none⟩)) (some (.int k (n : Int))) none none).run Tryz.prog W = .ok (.slice (some A) (64 - n) (64 - n)) W) ∧
    ∀ (W : World) (cs : List Value) (ty : TypeId), Has W b cs 182 → cs.length = 73 → (Builtin.clear_ #[60] ty #[.slice (some A) (64 - n) (64 - n)]).run Tryz.prog W = .ok (.tuple #[]) (W.setCells b (8 + n) (List.replicate (64 - n) (.int .u8 0))) := by
  by_cases h : n < 64
  · exact ⟨⟨b, 8 + n, none⟩, slice41 k b 8 n n rfl h, fun W cs ty hb hl => clear28 W b (8 + n) (64 - n) cs 182 ty hb (by omega)⟩
  · have : n = 64 := by omega
    subst this
    refine ⟨⟨b, 8, none⟩, fun W => ?_, fun W cs ty hb hl => ?_⟩
    · have z : (sizeOf (Tryz.prog.elem 111)).run Tryz.prog W = .ok 1 W := by kernel_rfl
      have l : Tryz.prog.arrayLen 111 = 64 := by kernel_rfl
      rw [run_sliceAt_array_l W 111 _ (by kernel_rfl) k (64 : Nat) (by omega) (by rw [l]; omega), z, l]
      simp only [Result.andThen, slicedAt]
      rfl
    · simp [Builtin.clear_, run_underlying under28, World.setCells]

set_option maxRecDepth 100000 in
theorem hcs_over (ws : List UInt32) (blk q : List UInt8) (len o : Nat) (h8 : ws.length = 8) (h64 : blk.length = 64) (ho : o + q.length ≤ 64) :
    over (hcs ws blk len) (8 + o) (q.map bv) = hcs ws (blk.take o ++ q ++ blk.drop (o + q.length)) len := by
  rw [over_eq _ _ _ (by rw [hcs_length _ _ _ h8 h64, List.length_map]; omega)]
  unfold hcs
  have e1 : (ws.map wv ++ blk.map bv ++ [Value.int .u64 len]).take (8 + o) = ws.map wv ++ (blk.take o).map bv := by
    rw [List.append_assoc, List.take_append, List.take_of_length_le (by simp <;> omega), List.take_append_of_le_length (by simp [h8]; omega)]
    simp [h8]
  have e2 : (ws.map wv ++ blk.map bv ++ [Value.int .u64 len]).drop (8 + o + (q.map bv).length) = (blk.drop (o + q.length)).map bv ++ [Value.int .u64 len] := by
    rw [List.append_assoc, List.drop_append, List.drop_of_length_le (by simp <;> omega), List.drop_append_of_le_length (by simp [h8]; omega)]
    simp [h8]
    congr 1
    omega
  rw [e1, e2]
  simp
set_option maxRecDepth 100000 in
theorem set_take (blk : List UInt8) (r : Nat) (x : UInt8) (h64 : blk.length = 64) (hr : r < 64) : blk.set r x = blk.take r ++ [x] ++ blk.drop (r + 1) := by
  rw [List.set_eq_take_append_cons_drop, if_pos (by omega)]; simp
/-- the block behind the byte 128 and the zeros -/
theorem pad_blk (blk : List UInt8) (r : Nat) (h64 : blk.length = 64) (hr : r < 64) :
    (blk.take r ++ [128] ++ blk.drop (r + 1)).take (r + 1) ++ List.replicate (64 - (r + 1)) 0 ++ (blk.take r ++ [128] ++ blk.drop (r + 1)).drop (r + 1 + (List.replicate (64 - (r + 1)) (0 : UInt8)).length) = blk.take r ++ 128 :: List.replicate (63 - r) 0 := by
  have l : (blk.take r ++ [(128 : UInt8)]).length = r + 1 := by simp; omega
  have l2 : (blk.take r ++ [128] ++ blk.drop (r + 1)).length = 64 := by simp; omega
  rw [List.take_append_of_le_length (by omega), List.take_of_length_le (by omega), List.drop_of_length_le (by rw [l2, List.length_replicate]; omega), List.append_nil, show 64 - (r + 1) = 63 - r by omega]
  simp
end Go.Proofs.YtldnpebnpbahjaaGreatDoor

namespace Go.Proofs.YtldnpebnpbahjaaGreatDoor
open Go Go.RowKit

/-- the state of a hash in the middle of a walk -/
structure HS (w0 w : World) (b : Nat) (ws : List UInt32) (blk : List UInt8) (len : Nat) : Prop where
  h8 : ws.length = 8
  h64 : blk.length = 64
  has : Has w b (hcs ws blk len) 182
  gr : w0.grownBy w (some b)
  kc : Kc w

set_option maxRecDepth 100000 in
theorem HS.setByte {w0 w : World} {b : Nat} {ws : List UInt32} {blk : List UInt8} {len : Nat} (h : HS w0 w b ws blk len) (hb0 : 1 ≠ b) (r : Nat) (hr : r < 64) (x : UInt8) (w' : World) (hw : w.setCell ⟨b, 8 + r, none⟩ (bv x) = w') :
    HS w0 w' b ws (blk.take r ++ [x] ++ blk.drop (r + 1)) len := by
  subst hw
  refine ⟨h.h8, ?_, ?_, h.gr.trans (gr_set _ _ _ _), h.kc.kept (gr_set _ _ _ _) (by simpa using hb0)⟩
  · have := h.h64; simp; omega
  · have := h.has.setCells [bv x] (8 + r)
    rw [show [bv x] = [x].map bv from rfl, hcs_over _ _ [x] _ r h.h8 h.h64 (by simp <;> omega)] at this
    exact this
set_option maxRecDepth 100000 in
theorem HS.sets {w0 w : World} {b : Nat} {ws : List UInt32} {blk : List UInt8} {len : Nat} (h : HS w0 w b ws blk len) (hb0 : 1 ≠ b) (o : Nat) (q : List UInt8) (ho : o + q.length ≤ 64) (w' : World) (hw : w.setCells b (8 + o) (q.map bv) = w') :
    HS w0 w' b ws (blk.take o ++ q ++ blk.drop (o + q.length)) len := by
  subst hw
  refine ⟨h.h8, ?_, ?_, h.gr.trans (gr_sets _ _ _ _), h.kc.kept (gr_sets _ _ _ _) (by simpa using hb0)⟩
  · have := h.h64; simp; omega
  · have := h.has.setCells (q.map bv) (8 + o)
    rw [hcs_over _ _ q _ o h.h8 h.h64 ho] at this
    exact this
set_option maxRecDepth 100000 in
theorem HS.mixed {w0 w w' : World} {b : Nat} {ws : List UInt32} {blk : List UInt8} {len : Nat} (h : HS w0 w b ws blk len) (hb0 : 1 ≠ b) (h1 : Has w' b (hcs (Sha.mixW ws blk) blk len) 182) (h2 : w.grownBy w' (some b)) : HS w0 w' b (Sha.mixW ws blk) blk len :=
  ⟨by rw [Sha.mixW_len]; exact h.h8, h.h64, h1, h.gr.trans h2, h.kc.kept h2 (by simpa using hb0)⟩
set_option maxRecDepth 100000 in
theorem HS.len {w0 w : World} {b : Nat} {ws : List UInt32} {blk : List UInt8} {len : Nat} (h : HS w0 w b ws blk len) : w.cell? ⟨b, 72, none⟩ = some (.int .u64 len) := h.has.cellv _ _ (hcs_len _ _ _ h.h8 h.h64)
set_option maxRecDepth 100000 in
theorem HS.there {w0 w : World} {b : Nat} {ws : List UInt32} {blk : List UInt8} {len : Nat} (h : HS w0 w b ws blk len) (j : Nat) (hj : j < 73) : ∃ v, w.cell? ⟨b, j, none⟩ = some v := ⟨_, by rw [h.has.cell, List.getElem?_eq_getElem (by rw [hcs_length _ _ _ h.h8 h.h64]; exact hj)]⟩

set_option maxRecDepth 100000 in
theorem u64w (x : Int) : IntKind.u64.wrap x = x % 18446744073709551616 := by
  simp [IntKind.wrap, IntKind.bits, IntKind.signed]
set_option maxRecDepth 100000 in
theorem size_hi (len : Nat) : IntKind.u64.wrap ((len : Int) * 8) / 4294967296 % 4294967296 = ((UInt32.ofNat (len * 8 % 2 ^ 64 / 2 ^ 32)).toNat : Int) := by
  rw [u64w, UInt32.toNat_ofNat']
  omega
set_option maxRecDepth 100000 in
theorem size_lo (len : Nat) : IntKind.u64.wrap ((len : Int) * 8) % 4294967296 = ((UInt32.ofNat (len * 8)).toNat : Int) := by
  rw [u64w, UInt32.toNat_ofNat']
  omega
/-- the block with its length laid, and the two words of it -/
theorem HS.sized {w0 w : World} {b : Nat} {ws : List UInt32} {blk : List UInt8} {len : Nat} (h : HS w0 w b ws blk len) (hb0 : 1 ≠ b) (hi lo : UInt32) (hhi : UInt32.ofNat (len * 8 % 2 ^ 64 / 2 ^ 32) = hi) (hlo : UInt32.ofNat (len * 8) = lo) (w' : World)
    (hw : (w.setCells b 64 ((Sha.w4 hi).map bv)).setCells b 68 ((Sha.w4 lo).map bv) = w') : HS w0 w' b ws (blk.take 56 ++ Sha.len8 len) len := by
  have h1 := h.sets hb0 56 (Sha.w4 hi) (by rw [Sha.w4_len]; decide) _ rfl
  have h2 := h1.sets hb0 60 (Sha.w4 lo) (by rw [Sha.w4_len]; decide) _ rfl
  have e : (blk.take 56 ++ Sha.w4 hi ++ blk.drop (56 + (Sha.w4 hi).length)).take 60 ++ Sha.w4 lo ++ (blk.take 56 ++ Sha.w4 hi ++ blk.drop (56 + (Sha.w4 hi).length)).drop (60 + (Sha.w4 lo).length) = blk.take 56 ++ Sha.len8 len := by
    have l : (blk.take 56 ++ Sha.w4 hi).length = 60 := by simp [Sha.w4_len, h.h64]
    have l2 : (blk.take 56 ++ Sha.w4 hi ++ blk.drop (56 + (Sha.w4 hi).length)).length = 64 := by simp [Sha.w4_len, h.h64]
    rw [List.take_append_of_le_length (by omega), List.take_of_length_le (by omega), List.drop_of_length_le (by rw [l2, Sha.w4_len]; omega), List.append_nil, Sha.len8, hhi, hlo, List.append_assoc]
  rw [e] at h2
  rw [← hw]
  exact h2

/-- behind the byte 128 and the zeros -/
theorem HS.cleared {w0 w : World} {b : Nat} {ws : List UInt32} {blk : List UInt8} {len : Nat} (h : HS w0 w b ws blk len) (hb0 : 1 ≠ b) (r : Nat) (hr : r < 64) (w' : World)
    (hw : (w.setCell ⟨b, 8 + r, none⟩ (.int .u8 128)).setCells b (8 + (r + 1)) (List.replicate (63 - r) (.int .u8 0)) = w') :
    HS w0 w' b ws (blk.take r ++ 128 :: List.replicate (63 - r) 0) len := by
  have h1 := h.setByte hb0 r hr 128 _ rfl
  have h2 := h1.sets hb0 (r + 1) (List.replicate (64 - (r + 1)) 0) (by simp <;> omega) _ rfl
  rw [pad_blk blk r h.h64 hr] at h2
  rw [← hw]
  rw [List.map_replicate, show 64 - (r + 1) = 63 - r by omega] at h2
  exact h2
set_option maxRecDepth 100000 in
theorem HS.clr1 {w0 w : World} {b : Nat} {ws : List UInt32} {blk : List UInt8} {len : Nat} (h : HS w0 w b ws blk len) (hb0 : 1 ≠ b) (r : Nat) (hr : r < 64) : Has (w.setCell ⟨b, 8 + r, none⟩ (.int .u8 128)) b (hcs ws (blk.take r ++ [128] ++ blk.drop (r + 1)) len) 182 ∧ (hcs ws (blk.take r ++ [128] ++ blk.drop (r + 1)) len).length = 73 := by
  have h1 := h.setByte hb0 r hr 128 _ rfl
  exact ⟨h1.has, hcs_length _ _ _ h1.h8 h1.h64⟩

set_option maxRecDepth 100000 in
theorem HS.zeroed {w0 w : World} {b : Nat} {ws : List UInt32} {blk : List UInt8} {len : Nat} (h : HS w0 w b ws blk len) (hb0 : 1 ≠ b) (w' : World) (hw : w.setCells b 8 (List.replicate 64 (.int .u8 0)) = w') :
    HS w0 w' b ws (List.replicate 64 0) len := by
  have h2 := h.sets hb0 0 (List.replicate 64 0) (by simp) _ rfl
  rw [List.take_zero, List.nil_append, List.drop_of_length_le (by rw [h.h64, List.length_replicate]; omega), List.append_nil, List.map_replicate] at h2
  rw [← hw]
  exact h2
set_option maxRecDepth 100000 in
set_option maxHeartbeats 8000000 in
theorem pad_lo (ws : List UInt32) (blk : List UInt8) (len b r : Nat) (w : World) (hS : HS w w b ws blk len) (hb0 : 1 ≠ b) (hlen : len < 2 ^ 64) (hr : len % 64 = r) (hr56 : r < 56) :
    Calls Tryz.prog 175 #[.pointer (some ⟨b, 0, none⟩)] w fun e w' => e = .returned (.tuple #[]) ∧ ∃ blk', HS w w' b (Sha.padW ws (blk.take (len % 64)) len) blk' len := by
  have hr' : (len : Int) % 64 = (r : Int) := by omega
  have hlc := hS.len
  obtain ⟨v1, hc1⟩ := hS.there (8 + r) (by omega)
  have hf1 := hS.has.frozen (8 + r)
  obtain ⟨A, hs1, hcl1⟩ := slice41e .u64 b (r + 1) (by omega)
  rw [show ((r + 1 : Nat) : Int) = (r : Int) + 1 by omega] at hs1
  rw [show 64 - (r + 1) = 63 - r by omega] at hs1 hcl1
  have H0 : Keep (HS w w b ws blk len) := ⟨hS⟩
  have HC1 : Keep (∀ (W : World) (cs : List Value) (ty : TypeId), Has W b cs 182 → cs.length = 73 → (Builtin.clear_ #[60] ty #[.slice (some A) (63 - r) (63 - r)]).run Tryz.prog W = .ok (.tuple #[]) (W.setCells b (8 + (r + 1)) (List.replicate (63 - r) (.int .u8 0)))) := ⟨hcl1⟩
  have HR : Keep (len % 64 = r) := ⟨hr⟩
  have HLN : Keep (len < 2 ^ 64) := ⟨hlen⟩
  obtain ⟨hi, hhi⟩ : ∃ x, UInt32.ofNat (len * 8 % 2 ^ 64 / 2 ^ 32) = x := ⟨_, rfl⟩
  obtain ⟨lo, hlo⟩ : ∃ x, UInt32.ofNat (len * 8) = x := ⟨_, rfl⟩
  have hz1 := size_hi len
  have hz2 := size_lo len
  rw [hhi] at hz1
  rw [hlo] at hz2
  have HHI : Keep (UInt32.ofNat (len * 8 % 2 ^ 64 / 2 ^ 32) = hi) := ⟨hhi⟩
  have HLO : Keep (UInt32.ofNat (len * 8) = lo) := ⟨hlo⟩
  clear hS hcl1 hr hlen hhi hlo
  go_enter Tryz.func175, Tryz.ntmps175
  go_wp2_with (
    (refine wpList_clear_run _ rfl _ 60 rfl _ rfl (HC1.out _ _ _ (H0.out.clr1 hb0 r (by omega)).1 (H0.out.clr1 hb0 r (by omega)).2) ?_
     generalize hw2 : World.setCells _ _ _ _ = w2
     have H2 : Keep (HS w w2 b ws (blk.take r ++ 128 :: List.replicate (63 - r) 0) len) := ⟨H0.out.cleared hb0 r (by omega) w2 hw2⟩
     have hlc2 := H2.out.len
     clear hw2))
  have hp1 : Keep (Has w2 b (hcs ws (blk.take r ++ 128 :: List.replicate (63 - r) 0) len) 182 ∧ (hcs ws (blk.take r ++ 128 :: List.replicate (63 - r) 0) len).length = 73) := ⟨H2.out.has, hcs_length _ _ _ H2.out.h8 H2.out.h64⟩
  refine (putWord_any hi b 64 8 8 _ 182 _ (by omega) (by rw [hp1.out.2]; omega) hp1.out.1).mono ?_
  rintro e w3 ⟨rfl, rfl⟩
  have hp2 : Keep (HS w (w2.setCells b 64 ((Sha.w4 hi).map bv)) b ws ((blk.take r ++ 128 :: List.replicate (63 - r) 0).take 56 ++ Sha.w4 hi ++ (blk.take r ++ 128 :: List.replicate (63 - r) 0).drop (56 + (Sha.w4 hi).length)) len) := ⟨H2.out.sets hb0 56 (Sha.w4 hi) (by rw [Sha.w4_len]; decide) _ rfl⟩
  go_wp2_with fail
  refine (putWord_any lo b 68 4 4 _ 182 _ (by omega) (by rw [hcs_length _ _ _ hp2.out.h8 hp2.out.h64]; omega) hp2.out.has).mono ?_
  rintro e w3 ⟨rfl, rfl⟩
  generalize hw4 : World.setCells _ b 68 _ = w4
  have H4 : Keep (HS w w4 b ws ((blk.take r ++ 128 :: List.replicate (63 - r) 0).take 56 ++ Sha.len8 len) len) := ⟨H2.out.sized hb0 hi lo HHI.out HLO.out w4 hw4⟩
  clear hw4 hp1 hp2
  go_wp2_with fail
  refine (mix_any _ _ len b _ H4.out.h8 H4.out.h64 H4.out.has H4.out.kc).mono ?_
  rintro e w5 ⟨rfl, h5, g5⟩
  have H5 := H4.out.mixed hb0 h5 g5
  have HF : Keep (∃ blk', HS w w5 b (Sha.padW ws (blk.take (len % 64)) len) blk' len) := ⟨_, by
    have e : Sha.padW ws (blk.take (len % 64)) len = Sha.mixW ws ((blk.take r ++ 128 :: List.replicate (63 - r) 0).take 56 ++ Sha.len8 len) := by
      have h64 := H0.out.h64
      have l : (blk.take r).length = r := by rw [List.length_take]; omega
      have t : (blk.take r ++ 128 :: List.replicate (63 - r) 0).take 56 = blk.take r ++ 128 :: List.replicate (55 - r) (0 : UInt8) := by
        rw [List.take_append, l, List.take_of_length_le (by omega), show 56 - r = (55 - r) + 1 by omega, List.take_succ_cons, List.take_replicate]
        congr 3; omega
      rw [HR.out, Sha.padW, l, if_pos (by omega), t]
    rw [e]; exact H5⟩
  clear H5 h5 g5
  go_wp2
  go_end0
  exact ⟨rfl, HF.out⟩
set_option maxRecDepth 100000 in
set_option maxHeartbeats 8000000 in
theorem pad_hi (ws : List UInt32) (blk : List UInt8) (len b r : Nat) (w : World) (hS : HS w w b ws blk len) (hb0 : 1 ≠ b) (hlen : len < 2 ^ 64) (hr : len % 64 = r) (hr56 : 56 ≤ r) :
    Calls Tryz.prog 175 #[.pointer (some ⟨b, 0, none⟩)] w fun e w' => e = .returned (.tuple #[]) ∧ ∃ blk', HS w w' b (Sha.padW ws (blk.take (len % 64)) len) blk' len := by
  have hr64 : r < 64 := by omega
  have hr56' : (56 : Int) ≤ (r : Int) := by omega
  have hr' : (len : Int) % 64 = (r : Int) := by omega
  have hlc := hS.len
  obtain ⟨v1, hc1⟩ := hS.there (8 + r) (by omega)
  have hf1 := hS.has.frozen (8 + r)
  obtain ⟨A, hs1, hcl1⟩ := slice41e .u64 b (r + 1) (by omega)
  rw [show ((r + 1 : Nat) : Int) = (r : Int) + 1 by omega] at hs1
  rw [show 64 - (r + 1) = 63 - r by omega] at hs1 hcl1
  have H0 : Keep (HS w w b ws blk len) := ⟨hS⟩
  have HC1 : Keep (∀ (W : World) (cs : List Value) (ty : TypeId), Has W b cs 182 → cs.length = 73 → (Builtin.clear_ #[60] ty #[.slice (some A) (63 - r) (63 - r)]).run Tryz.prog W = .ok (.tuple #[]) (W.setCells b (8 + (r + 1)) (List.replicate (63 - r) (.int .u8 0)))) := ⟨hcl1⟩
  have HR : Keep (len % 64 = r) := ⟨hr⟩
  have HLN : Keep (len < 2 ^ 64) := ⟨hlen⟩
  obtain ⟨hi, hhi⟩ : ∃ x, UInt32.ofNat (len * 8 % 2 ^ 64 / 2 ^ 32) = x := ⟨_, rfl⟩
  obtain ⟨lo, hlo⟩ : ∃ x, UInt32.ofNat (len * 8) = x := ⟨_, rfl⟩
  have hz1 := size_hi len
  have hz2 := size_lo len
  rw [hhi] at hz1
  rw [hlo] at hz2
  have HHI : Keep (UInt32.ofNat (len * 8 % 2 ^ 64 / 2 ^ 32) = hi) := ⟨hhi⟩
  have HLO : Keep (UInt32.ofNat (len * 8) = lo) := ⟨hlo⟩
  clear hS hcl1 hr hlen hhi hlo
  go_enter Tryz.func175, Tryz.ntmps175
  go_wp2_with (first
    | (refine wpList_clear_run _ rfl _ 60 rfl _ rfl (HC1.out _ _ _ (H0.out.clr1 hb0 r (by omega)).1 (H0.out.clr1 hb0 r (by omega)).2) ?_
       generalize hw2 : World.setCells _ _ _ _ = w2
       have H2 : Keep (HS w w2 b ws (blk.take r ++ 128 :: List.replicate (63 - r) 0) len) := ⟨H0.out.cleared hb0 r (by omega) w2 hw2⟩
       clear hw2)
    | (go_at_call 129
       refine (mix_any _ _ len b _ H2.out.h8 H2.out.h64 H2.out.has H2.out.kc).mono ?_
       rintro e w3 ⟨rfl, h3, g3⟩
       have H3 : Keep (HS w w3 b (Sha.mixW ws (blk.take r ++ 128 :: List.replicate (63 - r) 0)) (blk.take r ++ 128 :: List.replicate (63 - r) 0) len) := ⟨H2.out.mixed hb0 h3 g3⟩
       clear h3 g3)
    | (refine wpList_clear_run _ rfl _ 60 rfl _ rfl (clear28 _ b 8 64 _ 182 _ H3.out.has (by rw [hcs_length _ _ _ H3.out.h8 H3.out.h64]; omega)) ?_
       generalize hw6 : World.setCells _ b 8 _ = w6
       have H6 : Keep (HS w w6 b (Sha.mixW ws (blk.take r ++ 128 :: List.replicate (63 - r) 0)) (List.replicate 64 0) len) := ⟨H3.out.zeroed hb0 w6 hw6⟩
       have hlc6 := H6.out.len
       clear hw6))
  have hp1 : Keep (Has w6 b (hcs (Sha.mixW ws (blk.take r ++ 128 :: List.replicate (63 - r) 0)) (List.replicate 64 (0 : UInt8)) len) 182 ∧ (hcs (Sha.mixW ws (blk.take r ++ 128 :: List.replicate (63 - r) 0)) (List.replicate 64 (0 : UInt8)) len).length = 73) := ⟨H6.out.has, hcs_length _ _ _ H6.out.h8 H6.out.h64⟩
  refine (putWord_any hi b 64 8 8 _ 182 _ (by omega) (by rw [hp1.out.2]; omega) hp1.out.1).mono ?_
  rintro e w3 ⟨rfl, rfl⟩
  have hp2 : Keep (HS w (w6.setCells b 64 ((Sha.w4 hi).map bv)) b (Sha.mixW ws (blk.take r ++ 128 :: List.replicate (63 - r) 0)) ((List.replicate 64 (0 : UInt8)).take 56 ++ Sha.w4 hi ++ (List.replicate 64 (0 : UInt8)).drop (56 + (Sha.w4 hi).length)) len) := ⟨H6.out.sets hb0 56 (Sha.w4 hi) (by rw [Sha.w4_len]; decide) _ rfl⟩
  go_wp2_with fail
  refine (putWord_any lo b 68 4 4 _ 182 _ (by omega) (by rw [hcs_length _ _ _ hp2.out.h8 hp2.out.h64]; omega) hp2.out.has).mono ?_
  rintro e w3 ⟨rfl, rfl⟩
  generalize hw4 : World.setCells _ b 68 _ = w4
  have H4 : Keep (HS w w4 b (Sha.mixW ws (blk.take r ++ 128 :: List.replicate (63 - r) 0)) ((List.replicate 64 (0 : UInt8)).take 56 ++ Sha.len8 len) len) := ⟨H6.out.sized hb0 hi lo HHI.out HLO.out w4 hw4⟩
  clear hw4 hp1 hp2
  go_wp2_with fail
  refine (mix_any _ _ len b _ H4.out.h8 H4.out.h64 H4.out.has H4.out.kc).mono ?_
  rintro e w5 ⟨rfl, h5, g5⟩
  have H5 := H4.out.mixed hb0 h5 g5
  have HF : Keep (∃ blk', HS w w5 b (Sha.padW ws (blk.take (len % 64)) len) blk' len) := ⟨_, by
    have e : Sha.padW ws (blk.take (len % 64)) len = Sha.mixW (Sha.mixW ws (blk.take r ++ 128 :: List.replicate (63 - r) 0)) ((List.replicate 64 (0 : UInt8)).take 56 ++ Sha.len8 len) := by
      have h64 := H0.out.h64
      have l : (blk.take r).length = r := by rw [List.length_take]; omega
      rw [HR.out, Sha.padW, l, if_neg (by omega), List.take_replicate, show min 56 64 = 56 from rfl]
    rw [e]; exact H5⟩
  clear H5 h5 g5
  go_wp2
  go_end0
  exact ⟨rfl, HF.out⟩

set_option maxRecDepth 100000 in
theorem pad_any (ws : List UInt32) (blk : List UInt8) (len b : Nat) (w : World) (hS : HS w w b ws blk len) (hb0 : 1 ≠ b) (hlen : len < 2 ^ 64) :
    Calls Tryz.prog 175 #[.pointer (some ⟨b, 0, none⟩)] w fun e w' => e = .returned (.tuple #[]) ∧ ∃ blk', HS w w' b (Sha.padW ws (blk.take (len % 64)) len) blk' len := by
  by_cases h : len % 64 < 56
  · exact pad_lo ws blk len b _ w hS hb0 hlen rfl h
  · exact pad_hi ws blk len b _ w hS hb0 hlen rfl (by omega)
end Go.Proofs.YtldnpebnpbahjaaGreatDoor

namespace Go.Proofs.YtldnpebnpbahjaaGreatDoor
open Go Go.RowKit

set_option maxRecDepth 100000 in
theorem under25 : Tryz.prog.underlying 176 = some (.array 32 5) := by kernel_rfl
set_option maxRecDepth 100000 in
theorem size25 : (Tryz.prog.info? 176).map (·.size) = some 32 := by kernel_rfl
set_option maxRecDepth 100000 in
theorem under40 : Tryz.prog.underlying 180 = some (.array 8 179) := by kernel_rfl
set_option maxRecDepth 100000 in
theorem size40 : (Tryz.prog.info? 180).map (·.size) = some 8 := by kernel_rfl
set_option maxRecDepth 100000 in
theorem size44 : (Tryz.prog.info? 182).map (·.size) = some 73 := by kernel_rfl
set_option maxRecDepth 100000 in
theorem under44 : ∃ d, Tryz.prog.underlying 182 = some d ∧ d.isRow = true := by
  exact ⟨_, Tryz.underlying182, rfl⟩
def zero73 : Array Value := (hcs (List.replicate 8 0) (List.replicate 64 0) 0).toArray
set_option maxRecDepth 100000 in
theorem zero44 : (∀ W : World, (zeroValue 182).run Tryz.prog W = .ok (.agg zero73) W) :=
  (zero_of_info (P := Tryz.prog) (t := 182) (v := .agg zero73) (n := 73) (by kernel_rfl)).1
set_option maxRecDepth 100000 in
theorem zero73_size : zero73.size = 73 := by kernel_rfl

/-- a text's length, as the Hash keeps it -/
def L64 (T : List UInt8) : Nat := T.length % 18446744073709551616
set_option maxRecDepth 100000 in
theorem L64_mod (T : List UInt8) : L64 T % 64 = T.length % 64 := by unfold L64; omega
set_option maxRecDepth 100000 in
theorem L64_lt (T : List UInt8) : L64 T < 2 ^ 64 := by
  have : (2 : Nat) ^ 64 = 18446744073709551616 := by decide
  rw [this]; unfold L64; omega
set_option maxRecDepth 100000 in
theorem len8_64 (n : Nat) : Sha.len8 (n % 18446744073709551616) = Sha.len8 n := by
  unfold Sha.len8
  have e1 : n % 18446744073709551616 * 8 % 2 ^ 64 = n * 8 % 2 ^ 64 := by omega
  have e2 : UInt32.ofNat (n % 18446744073709551616 * 8) = UInt32.ofNat (n * 8) := by
    apply UInt32.toNat_inj.1
    simp only [UInt32.toNat_ofNat']
    omega
  rw [e1, e2]
set_option maxRecDepth 100000 in
theorem pad64 {T : List UInt8} {ws : List UInt32} {blk : List UInt8} (h : Sha.HP T ws blk) : Sha.padW ws (blk.take (L64 T % 64)) (L64 T) = Sha.fold Sha.iv (T ++ Sha.padOf T.length) := by
  rw [← h.pad, L64_mod]
  unfold Sha.padW L64
  rw [len8_64]

/-- the hash at b has been written the text T -/
def HashOf (w : World) (b : Nat) (T : List UInt8) : Prop := ∃ ws blk, Sha.HP T ws blk ∧ Has w b (hcs ws blk (L64 T)) 182
set_option maxRecDepth 100000 in
theorem HashOf.kept {w w' : World} {b : Nat} {T : List UInt8} {row : Option Nat} (h : HashOf w b T) (hg : w.grownBy w' row) (hne : some b ≠ row) : HashOf w' b T := by
  obtain ⟨ws, blk, h1, h2⟩ := h
  exact ⟨ws, blk, h1, h2.kept hg hne⟩
set_option maxRecDepth 100000 in
theorem HashOf.lt {w : World} {b : Nat} {T : List UInt8} (h : HashOf w b T) : b < w.heap.size := by
  obtain ⟨ws, blk, h1, h2⟩ := h
  exact h2.lt
set_option maxRecDepth 100000 in
theorem HP8 {T : List UInt8} {ws : List UInt32} {blk : List UInt8} (h : Sha.HP T ws blk) : ws.length = 8 := by rw [h.1, Sha.fold_len]; rfl

set_option maxRecDepth 100000 in
theorem index40L (l : List UInt32) (h8 : l.length = 8) (i : Nat) (hi : i < 8) (W : World) : (Instr.index 180 (.agg (l.map wv).toArray) (.int .i64 (i : Int))).run Tryz.prog W = .ok (.int .u32 (l.getD i 0).toNat) W := by
  match l, h8 with
  | [a, b, c, d, e, f, g, h], _ => exact index40 ⟨a, b, c, d, e, f, g, h⟩ W i hi
set_option maxRecDepth 100000 in
theorem slice25 (k : IntKind) (b o : Nat) (l : Int) (n : Nat) (hl : l = n) (hn : n < 32) (W : World) :
    (Instr.sliceAt 176 (.pointer (some ⟨b, o, none⟩)) (some (.int k l)) none none).run Tryz.prog W = .ok (.slice (some ⟨b, o + n, none⟩) (32 - n) (32 - n)) W := by
  subst hl
  have e : (⟨b, o, none⟩ : Addr).add n = ⟨b, o + n, none⟩ := Addr.add_mid b o n
  have z : (sizeOf (Tryz.prog.elem 176)).run Tryz.prog W = .ok 1 W := by kernel_rfl
  have l : Tryz.prog.arrayLen 176 = 32 := by kernel_rfl
  rw [run_sliceAt_array_l W 176 _ (by kernel_rfl) k n (by omega) (by rw [l]; omega), z, l]
  simp only [Result.andThen, slicedAt, Int.toNat_natCast, Nat.mul_one, e]
  rw [if_neg (by omega)]

/-- the first i words laid out as bytes, zeros behind -/
def outTo (ws : List UInt32) (i : Nat) : List UInt8 := Sha.out (ws.take i) ++ List.replicate (32 - 4 * i) 0
set_option maxRecDepth 100000 in
theorem out_len (ws : List UInt32) : (Sha.out ws).length = 4 * ws.length := by
  induction ws with
  | nil => rfl
  | cons x r ih => simp only [Sha.out, List.flatMap_cons, List.length_append, Sha.w4_len, List.length_cons] at *; omega
set_option maxRecDepth 100000 in
theorem outTo_len (ws : List UInt32) (i : Nat) (h8 : ws.length = 8) (hi : i ≤ 8) : (outTo ws i).length = 32 := by
  rw [outTo, List.length_append, out_len, List.length_take, List.length_replicate]; omega
set_option maxRecDepth 100000 in
theorem outTo_step (ws : List UInt32) (i : Nat) (h8 : ws.length = 8) (hi : i < 8) : over ((outTo ws i).map bv) (4 * i) ((Sha.w4 (ws.getD i 0)).map bv) = (outTo ws (i + 1)).map bv := by
  have hl := outTo_len ws i h8 (by omega)
  have lo : (Sha.out (ws.take i)).length = 4 * i := by rw [out_len, List.length_take]; omega
  rw [over_eq _ _ _ (by rw [List.length_map, List.length_map, hl, Sha.w4_len]; omega), ← List.map_take, ← List.map_drop, ← List.map_append, ← List.map_append]
  congr 1
  have e : ws.take (i + 1) = ws.take i ++ [ws.getD i 0] := by
    rw [List.take_succ_eq_append_getElem (by omega)]
    simp [List.getD, show i < ws.length by omega]
  rw [List.length_map, Sha.w4_len, outTo, outTo, List.take_append_of_le_length (by omega), List.take_of_length_le (by omega), e, List.drop_append, List.drop_of_length_le (by omega), lo, List.drop_replicate, Sha.out, Sha.out, List.flatMap_append]
  simp only [List.flatMap_cons, List.flatMap_nil, List.append_nil, List.nil_append]
  congr 2
  omega

structure SumRel (w w' : World) (N M : Nat) (ws : List UInt32) (i : Nat) : Prop where
  r : Has w' N ((List.replicate 32 (0 : UInt8)).map bv) 176
  o : Has w' M ((outTo ws i).map bv) 176
  g : w.grownBy w' none
set_option maxRecDepth 100000 in
theorem SumRel.step {w w' : World} {N M : Nat} {ws : List UInt32} {i : Nat} (h : SumRel w w' N M ws i) (h8 : ws.length = 8) (hi : i < 8) (hne : M ≠ N) (hM : w.heap.size ≤ M) (w2 : World) (h2 : w'.setCells M (4 * i) ((Sha.w4 (ws.getD i 0)).map bv) = w2) : SumRel w w2 N M ws (i + 1) := by
  subst h2
  refine ⟨h.r.kept (gr_sets _ _ _ _) (by simp <;> omega), ?_, gr_new h.g (gr_sets _ _ _ _) hM⟩
  rw [← outTo_step ws i h8 hi]
  exact h.o.setCells _ _

set_option maxRecDepth 100000 in
theorem new2 (w : World) (C : Array Value) : Has ((w.alloc (.cells C 176)).alloc (.cells zero73 182)) (w.heap.size + 1) zero73.toList 182 := by
  have := Has.newA (w.alloc (.cells C 176)) zero73 182
  rwa [heap1] at this
set_option maxRecDepth 100000 in
theorem hcs_one (ws : List UInt32) (blk : List UInt8) (len : Nat) : ∀ v ∈ hcs ws blk len, v.oneCell' = true := by
  intro v hv
  simp only [hcs, List.mem_append, List.mem_map, List.mem_singleton] at hv
  rcases hv with (⟨x, _, rfl⟩ | ⟨x, _, rfl⟩) | rfl <;> rfl
set_option maxRecDepth 100000 in
theorem HS.self {w0 w : World} {b : Nat} {ws : List UInt32} {blk : List UInt8} {len : Nat} (h : HS w0 w b ws blk len) : HS w w b ws blk len := ⟨h.h8, h.h64, h.has, World.grownBy.refl _ _, h.kc⟩
set_option maxRecDepth 100000 in
theorem bytes_one (l : List UInt8) : (l.map bv).toArray.all (·.oneCell') = true := all_oneCell_toArray (by simp [Value.oneCell'])

set_option maxRecDepth 100000 in
set_option maxHeartbeats 8000000 in
theorem sum_gen (b : Nat) (T : List UInt8) (w : World) (hh : HashOf w b T) (hk : Kc w) :
    Calls Tryz.prog 128 #[.pointer (some ⟨b, 0, none⟩)] w fun e w' => e = .returned (.agg ((Sha.sha T).map bv).toArray) ∧ w.grownBy w' none := by
  obtain ⟨ws, blk, hP, hb⟩ := hh
  obtain ⟨d, hd1, hd2⟩ := under44
  have HP0 : Keep (Sha.HP T ws blk) := ⟨hP⟩
  have HB : Keep (Has w b (hcs ws blk (L64 T)) 182) := ⟨hb⟩
  have HK : Keep (Kc w) := ⟨hk⟩
  have HT : Keep (L64 T < 2 ^ 64) := ⟨L64_lt T⟩
  have HD : Keep (Tryz.prog.underlying 182 = some d ∧ d.isRow = true) := ⟨hd1, hd2⟩
  have hz := zero44
  clear hP hb hk hd1 hd2
  have HZ : Keep (∀ (C : Array Value), C.size = 32 → HS (w.alloc (.cells C 176)) (((w.alloc (.cells C 176)).alloc (.cells zero73 182)).setCells (w.heap.size + 1) 0 (hcs ws blk (L64 T))) (w.heap.size + 1) ws blk (L64 T)) := ⟨fun C hC => by
    have h1 : Has ((w.alloc (.cells C 176)).alloc (.cells zero73 182)) (w.heap.size + 1) zero73.toList 182 := by
      have := Has.newA (w.alloc (.cells C 176)) zero73 182
      rwa [heap1] at this
    have hl := hcs_length ws blk (L64 T) (HP8 HP0.out) HP0.out.2.1
    refine ⟨HP8 HP0.out, HP0.out.2.1, h1.setAll _ (by rw [hl]; exact zero73_size.symm), ?_, ?_⟩
    · exact (World.grownBy_alloc _ _ _).trans (gr_sets _ _ _ _)
    · exact ((HK.out.kept (World.grownBy_alloc _ _ none) (by simp)).kept (World.grownBy_alloc _ _ none) (by simp)).kept (gr_sets _ _ _ _) (fun e => by have := HK.out.lt; injection e with e; omega)⟩
  go_enter Tryz.func128, Tryz.ntmps128
  go_wp2_with (first
    | (refine wpList_load_mid rfl 182 _ rfl _ _ rfl _ _ ((HB.out.alloc _).range) HD.out.1 HD.out.2 (by rw [hcs_length _ _ _ (HP8 HP0.out) HP0.out.2.1]; exact size44) ?_)
    | (refine wpList_store_mid rfl 182 _ _ rfl _ _ _ rfl rfl ((new2 w _).there 0 _ (by rw [List.size_toArray, hcs_length _ _ _ (HP8 HP0.out) HP0.out.2.1]; exact Nat.le_of_eq zero73_size.symm)) (by rw [List.size_toArray, hcs_length _ _ _ (HP8 HP0.out) HP0.out.2.1]; exact size44) (all_oneCell_toArray (hcs_one _ _ _)) ?_
       generalize hw1 : World.setCells _ _ _ _ = w1
       generalize hw0 : World.alloc w _ = w0 at hw1
       have H1 : Keep (HS w0 w1 (w.heap.size + 1) ws blk (L64 T) ∧ Has w0 w.heap.size ((List.replicate 32 (0 : UInt8)).map bv) 176 ∧ w.grownBy w0 none) := ⟨by
          subst hw0; rw [← hw1]; exact ⟨HZ.out _ rfl, Has.new _ _ _, World.grownBy_alloc _ _ _⟩⟩
       clear hw0 hw1))
  have hb0 : (1 : Nat) ≠ w.heap.size + 1 := by have := HK.out.lt; omega
  refine (pad_any ws blk (L64 T) _ _ H1.out.1.self hb0 HT.out).mono ?_
  rintro e w2 ⟨rfl, blk', h2⟩
  rw [pad64 HP0.out] at h2
  obtain ⟨ws', hws⟩ : ∃ x, Sha.fold Sha.iv (T ++ Sha.padOf T.length) = x := ⟨_, rfl⟩
  rw [hws] at h2
  have HWS : Keep (Sha.sha T = Sha.out ws') := ⟨by rw [Sha.sha, hws]⟩
  have H2 : Keep (HS w1 w2 (w.heap.size + 1) ws' blk' (L64 T) ∧ Has w2 w.heap.size ((List.replicate 32 (0 : UInt8)).map bv) 176 ∧ w.grownBy w2 none ∧ ws'.length = 8) := ⟨h2, by
    refine ⟨(H1.out.2.1.kept H1.out.1.gr (by simp)).kept h2.gr (by simp), ?_, h2.h8⟩
    exact gr_new (gr_new H1.out.2.2 H1.out.1.gr (by omega)) h2.gr (by omega)⟩
  clear h2 hws
  go_wp2_with (first
    | (refine wpList_load_mid rfl 180 _ rfl _ _ rfl _ _ ((H2.out.1.has.alloc _).rangeMid 0 [] (ws'.map wv) (blk'.map bv ++ [.int .u64 (L64 T)]) (by simp [hcs]) rfl) under40 rfl (by rw [List.length_map, H2.out.2.2.2]; exact size40) ?_))
  have hMN : w2.heap.size ≠ w.heap.size := by have := H2.out.2.1.lt; omega
  have hM : w.heap.size ≤ w2.heap.size := H2.out.2.2.1.size
  go_loopw [13] (fun t w' => ∃ i : Nat, i ≤ 8 ∧ t = .int .i64 i ∧ Keep (SumRel w w' w.heap.size w2.heap.size ws' i)) (fun t _ => 8 - (intOf t).toNat)
  case atStart => exact ⟨0, by omega, rfl, ⟨H2.out.2.1.alloc _, Has.new _ _ _, H2.out.2.2.1.trans (World.grownBy_alloc _ _ _)⟩⟩
  case round =>
    obtain ⟨i, hi, rfl, hrel⟩ := hrel
    by_cases hli : i < 8
    · have hx := index40L ws' H2.out.2.2.2 i hli
      obtain ⟨y, hy⟩ : ∃ y, ws'.getD i 0 = y := ⟨_, rfl⟩
      have HY : Keep (ws'.getD i 0 = y) := ⟨hy⟩
      have hs := slice25 .i64 w2.heap.size 0 (4 * (i : Int)) (4 * i) (by omega) (by omega)
      rw [hy] at hx
      clear hy
      go_wp2_with (go_at_call 176; refine (putWord_any y _ _ _ _ _ 176 _ (by omega) (by rw [List.length_map, outTo_len ws' i H2.out.2.2.2 hi]; omega) hrel.out.o).mono ?_; rintro e w3 ⟨rfl, hw3⟩; have HR3 : Keep (SumRel w w3 w.heap.size w2.heap.size ws' (i + 1)) := ⟨hrel.out.step H2.out.2.2.2 hli hMN hM w3 (by rw [HY.out]; exact hw3.symm)⟩; clear hw3)
      refine ⟨⟨i + 1, by omega, by go_num, HR3⟩, ?_⟩
      simp [intOf]; omega
    · have hi8 : i = 8 := by omega
      have HE : Keep (Has wr w2.heap.size ((Sha.out ws').map bv) 176 ∧ Has wr w.heap.size ((List.replicate 32 (0 : UInt8)).map bv) 176 ∧ w.grownBy wr none ∧ (Sha.out ws').length = 32) := ⟨by
        have h := hrel.out
        rw [hi8] at h
        have ho := h.o
        have h8 := H2.out.2.2.2
        rw [outTo, List.take_of_length_le (by omega), show 32 - 4 * 8 = 0 by rfl, List.replicate_zero, List.append_nil] at ho
        exact ⟨ho, h.r, h.g, by rw [out_len, h8]⟩⟩
      have HI : Keep ((Tryz.prog.info? 176).map (·.size) = some ((Sha.out ws').map bv).length) := ⟨by rw [List.length_map, HE.out.2.2.2]; exact size25⟩
      clear hrel
      go_wp2_with (first
        | (refine wpList_load_mid rfl 176 _ rfl _ _ rfl _ _ HE.out.1.range under25 rfl HI.out ?_)
        | (refine wpList_store_mid rfl 176 _ _ rfl _ _ _ rfl rfl (HE.out.2.1.there 0 _ (by simp [HE.out.2.2.2])) HI.out (bytes_one _) ?_))
      refine ret_cell (b := w.heap.size) (cs := (Sha.out ws').map bv) (t := 176) rfl rfl ?_ under25 rfl HI.out rfl ⟨by rw [HWS.out], ?_⟩
      · exact HE.out.2.1.setAll _ (by simp [HE.out.2.2.2])
      · exact gr_new HE.out.2.2.1 (gr_sets _ _ _ _) (Nat.le_refl _)
set_option maxRecDepth 100000 in
theorem sum_any (b : Nat) (T : List UInt8) (w : World) (hh : HashOf w b T) (hk : Kc w) (_hT : T.length < 2 ^ 64) :
    Calls Tryz.prog 128 #[.pointer (some ⟨b, 0, none⟩)] w fun e w' => e = .returned (.agg ((Sha.sha T).map bv).toArray) ∧ w.grownBy w' none := sum_gen b T w hh hk
end Go.Proofs.YtldnpebnpbahjaaGreatDoor

namespace Go.Proofs.YtldnpebnpbahjaaGreatDoor
open Go Go.RowKit

set_option maxRecDepth 100000 in
theorem new_cells : (((((((((zero73.setIfInBounds 0 (Value.int IntKind.u32 1779033703)).setIfInBounds 1 (Value.int IntKind.u32 3144134277)).setIfInBounds 2 (Value.int IntKind.u32 1013904242)).setIfInBounds 3 (Value.int IntKind.u32 2773480762)).setIfInBounds 4 (Value.int IntKind.u32 1359893119)).setIfInBounds 5 (Value.int IntKind.u32 2600822924)).setIfInBounds 6 (Value.int IntKind.u32 528734635)).setIfInBounds 7 (Value.int IntKind.u32 1541459225))).toList = hcs Sha.iv (List.replicate 64 0) 0 := by kernel_rfl

set_option maxRecDepth 100000 in
set_option maxHeartbeats 1000000 in
theorem new_any (w : World) :
    Calls Tryz.prog 127 #[] w fun e w' => e = .returned (.pointer (some ⟨w.heap.size, 0, none⟩)) ∧ HashOf w' w.heap.size [] ∧ w.grownBy w' none := by
  have hz := zero44
  go_enter Tryz.func127, Tryz.ntmps127
  go_wp2
  go_ret
  refine ⟨rfl, ⟨_, _, Sha.HP.start, ?_⟩, World.grownBy_alloc _ _ _⟩
  have h2 : ∀ X : Array Value, X.toList = hcs Sha.iv (List.replicate 64 0) 0 → Has (w.alloc (.cells X 182)) w.heap.size (hcs Sha.iv (List.replicate 64 0) 0) 182 := fun X hX => by
    rw [← hX]; exact Has.newA w X 182
  exact h2 _ new_cells

/-- the bytes of a slice, in another block than b -/
structure Bytes (b : Nat) (w : World) (a : Option Addr) (n c : Nat) (q : List UInt8) : Prop where
  len : q.length = n
  cap : n ≤ c
  at_ : 0 < n → ∃ B o, a = some ⟨B, o, none⟩ ∧ B ≠ b ∧ ∀ j x, q[j]? = some x → w.cell? ⟨B, o + j, none⟩ = some (bv x)
def sliceLen : Value → Nat
  | .slice _ n _ => n
  | _ => 0
set_option maxRecDepth 100000 in
theorem Bytes.kept {b : Nat} {w w' : World} {a : Option Addr} {n c : Nat} {q : List UInt8} (h : Bytes b w a n c q) (hg : w.grownBy w' (some b)) : Bytes b w' a n c q := by
  refine ⟨h.len, h.cap, fun hn => ?_⟩
  obtain ⟨B, o, h1, h2, h3⟩ := h.at_ hn
  exact ⟨B, o, h1, h2, fun j x hx => hg.cell (h3 j x hx) (by simpa using h2)⟩
set_option maxRecDepth 100000 in
theorem Bytes.drop {b : Nat} {w : World} {B o : Nat} {n c : Nat} {q : List UInt8} (h : Bytes b w (some ⟨B, o, none⟩) n c q) (m : Nat) (hm : m ≤ n) (a : Option Addr) (ha : m < n → a = some ⟨B, o + m, none⟩) : Bytes b w a (n - m) (c - m) (q.drop m) := by
  refine ⟨by rw [List.length_drop, h.len], by have := h.cap; omega, fun hn => ?_⟩
  obtain ⟨B', o', h1, h2, h3⟩ := h.at_ (by omega)
  have e : B = B' ∧ o = o' := by simpa using h1
  obtain ⟨rfl, rfl⟩ := e
  refine ⟨B, o + m, ha (by omega), h2, fun j x hx => ?_⟩
  rw [List.getElem?_drop] at hx
  rw [Nat.add_assoc]
  exact h3 _ _ hx

set_option maxRecDepth 100000 in
theorem HS.setLen {w0 w : World} {b : Nat} {ws : List UInt32} {blk : List UInt8} {len : Nat} (h : HS w0 w b ws blk len) (hb0 : 1 ≠ b) (n : Nat) (v : Value) (hv : v = .int .u64 n) (w' : World) (hw : w.setCell ⟨b, 72, none⟩ v = w') : HS w0 w' b ws blk n := by
  subst hw hv
  refine ⟨h.h8, h.h64, ?_, h.gr.trans (gr_set _ _ _ _), h.kc.kept (gr_set _ _ _ _) (by simpa using hb0)⟩
  have := h.has.setCell 72 (.int .u64 n)
  rwa [hcs_setl _ _ _ _ h.h8 h.h64] at this
set_option maxRecDepth 100000 in
theorem HS.drewN {w0 w : World} {b : Nat} {ws : List UInt32} {blk : List UInt8} {len : Nat} (h : HS w0 w b ws blk len) (n : Nat) : HS w0 (w.drewN n) b ws blk len :=
  ⟨h.h8, h.h64, h.has, h.gr.trans (gr_drewN _ _ _), h.kc⟩

/-- copy into the block: its run, whatever was drawn -/
theorem copy28 {w0 w : World} {b : Nat} {ws : List UInt32} {blk : List UInt8} {len : Nat} (h : HS w0 w b ws blk len) (hb0 : 1 ≠ b) (r n c m B o : Nat) (q : List UInt8) (hq : Bytes b w (some ⟨B, o, none⟩) n c q) (hr : r < 64) (hm : m = Nat.min n (64 - r)) :
    ∃ w2, (∀ ty, (Builtin.copy_ #[60, 60] ty #[.slice (some ⟨b, 8 + r, none⟩) (64 - r) (64 - r), .slice (some ⟨B, o, none⟩) n c]).run Tryz.prog w.drew = .ok (.int .i64 m) w2) ∧
      HS w0 w2 b ws (blk.take r ++ q.take m ++ blk.drop (r + (q.take m).length)) len ∧ w.grownBy w2 (some b) := by
  have hmn : m ≤ n := by rw [hm]; exact Nat.min_le_left _ _
  have hmr : m ≤ 64 - r := by rw [hm]; exact Nat.min_le_right _ _
  have hl : (q.take m).length = m := by rw [List.length_take, hq.len]; omega
  have hd : HS w0 w.drew b ws blk len := h.drewN 1
  refine ⟨w.drew.setCells b (8 + r) ((q.take m).map bv), fun ty => ?_, ?_, ?_⟩
  · have := run_copy_cells (P := Tryz.prog) w.drew 60 60 ty 5 b (8 + r) (64 - r) (64 - r) ⟨B, o, none⟩ n c ((q.take m).map bv) under28 (by kernel_rfl) (by rw [List.length_map, hl, hm]) (fun j v hv => by
        rw [List.getElem?_map, List.getElem?_take] at hv
        split at hv
        · have hn : 0 < n := by omega
          obtain ⟨B', o', h1, h2, h3⟩ := hq.at_ hn
          have e : B = B' ∧ o = o' := by simpa using h1
          obtain ⟨rfl, rfl⟩ := e
          rw [Addr.add_mid]
          cases hx : q[j]? with
          | none => rw [hx] at hv; cases hv
          | some x =>
            rw [hx] at hv
            obtain rfl := Option.some.inj hv
            exact h3 j x hx
        · cases hv)
      (fun j hj => (hd.has.there (8 + r) m (by rw [hcs_length _ _ _ h.h8 h.h64]; omega) j (by rw [List.length_map, hl] at hj; exact hj)).1)
      (fun j hj => (hd.has.there (8 + r) m (by rw [hcs_length _ _ _ h.h8 h.h64]; omega) j (by rw [List.length_map, hl] at hj; exact hj)).2)
      (fun v hv => by obtain ⟨x, _, rfl⟩ := List.mem_map.1 hv; rfl)
    rw [this, List.length_map, hl]
    rfl
  · exact hd.sets hb0 r (q.take m) (by rw [hl]; omega) _ rfl
  · exact (gr_drewN w 1 _).trans (gr_sets _ _ _ _)

/-- where a Write stands -/
structure WR (w w' : World) (b : Nat) (all : List UInt8) (a : Option Addr) (n c : Nat) (T rest : List UInt8) : Prop where
  all_ : T ++ rest = all
  hs : ∃ ws blk, Sha.HP T ws blk ∧ HS w w' b ws blk (L64 T)
  by_ : Bytes b w' a n c rest

set_option maxRecDepth 100000 in
theorem WR.next {w wr w3 : World} {b : Nat} {all : List UInt8} {B o n c : Nat} {T rest : List UInt8} (h : WR w wr b all (some ⟨B, o, none⟩) n c T rest) (m len len2 : Nat) (hm : m ≤ n) (hlen : L64 T = len) (hl2 : (len + m) % 18446744073709551616 = len2) (ws3 : List UInt32) (blk3 : List UInt8)
    (hP : Sha.HP (T ++ rest.take m) ws3 blk3) (hS : HS w w3 b ws3 blk3 len2) (g : wr.grownBy w3 (some b)) (a' : Option Addr) (c' : Nat) (hc : c' = c - m) (ha : m < n → a' = some ⟨B, o + m, none⟩) : ∃ T' rest', WR w w3 b all a' (n - m) c' T' rest' := by
  subst hc
  have hl : (rest.take m).length = m := by rw [List.length_take, h.by_.len]; omega
  refine ⟨T ++ rest.take m, rest.drop m, ?_, ⟨ws3, blk3, hP, ?_⟩, (h.by_.kept g).drop m hm a' ha⟩
  · rw [List.append_assoc, List.take_append_drop]; exact h.all_
  · have e : L64 (T ++ rest.take m) = len2 := by
      unfold L64 at hlen ⊢
      rw [List.length_append, hl]
      omega
    rw [e]; exact hS

set_option maxRecDepth 100000 in
set_option maxHeartbeats 8000000 in
theorem write_gen (b : Nat) (a : Option Addr) (n c : Nat) (T q : List UInt8) (w : World) (hh : HashOf w b T) (hk : Kc w) (hb0 : 1 ≠ b) (hq : Bytes b w a n c q) (hn0 : n ≤ 4611686018427387904) :
    Calls Tryz.prog 69 #[.pointer (some ⟨b, 0, none⟩), .slice a n c] w fun e w' => e = .returned (.tuple #[]) ∧ HashOf w' b (T ++ q) ∧ w.grownBy w' (some b) := by
  have H0 : Keep (WR w w b (T ++ q) a n c T q) := ⟨rfl, by
    obtain ⟨ws, blk, h1, h2⟩ := hh
    exact ⟨ws, blk, h1, HP8 h1, h1.2.1, h2, World.grownBy.refl _ _, hk⟩, hq⟩
  generalize T ++ q = all at *
  clear hh hk hq
  go_enter Tryz.func69, Tryz.ntmps69
  go_wp2
  go_loopw [1] (fun v w' => ∃ (a : Option Addr) (n c : Nat), n ≤ 4611686018427387904 ∧ v = .slice a n c ∧ Keep (∃ T rest, WR w w' b all a n c T rest)) (fun v _ => sliceLen v)
  case atStart => exact ⟨a, n, c, hn0, rfl, ⟨_, _, H0.out⟩⟩
  case round =>
    obtain ⟨a, n, c, hlen, rfl, hrel⟩ := hrel
    by_cases hn : 0 < n
    · obtain ⟨T, rest, hW⟩ := hrel.out
      obtain ⟨ws, blk, hP, hS⟩ := hW.hs
      obtain ⟨B, o, rfl, hB, hcell⟩ := hW.by_.at_ hn
      obtain ⟨r, hr⟩ : ∃ r, T.length % 64 = r := ⟨_, rfl⟩
      obtain ⟨m, hm⟩ : ∃ m, m = Nat.min n (64 - r) := ⟨_, rfl⟩
      obtain ⟨w2, hcp, h2, g2⟩ := copy28 hS hb0 r n c m B o rest hW.by_ (by omega) hm
      have hLm := L64_mod T
      have hr' : ((L64 T : Nat) : Int) % 64 = (r : Int) := by omega
      have hs := slice41 .u64 b 8 (r : Int) r rfl (by omega)
      have hlc := hS.len
      have hlc2 := h2.len
      have hf2 := h2.has.frozen 72
      have hmn : m ≤ n := by rw [hm]; exact Nat.min_le_left _ _
      have hmr : r + m ≤ 64 := by have : m ≤ 64 - r := by { rw [hm]; exact Nat.min_le_right _ _ }; omega
      have hm0 : 0 < m := by rw [hm]; simp only [Nat.min_def]; split <;> omega
      have hcap := hW.by_.cap
      have HR : Keep (T.length % 64 = r) := ⟨hr⟩
      have HW : Keep (WR w wr b all (some ⟨B, o, none⟩) n c T rest) := ⟨hW⟩
      have HPP : Keep (Sha.HP T ws blk) := ⟨hP⟩
      have H2 : Keep (HS w w2 b ws (blk.take r ++ rest.take m ++ blk.drop (r + (rest.take m).length)) (L64 T) ∧ wr.grownBy w2 (some b)) := ⟨h2, g2⟩
      have hLl := L64_lt T
      obtain ⟨len, hlen'⟩ : ∃ x, L64 T = x := ⟨_, rfl⟩
      rw [hlen'] at hr' hlc hlc2 hLl
      have HLEN : Keep (L64 T = len) := ⟨hlen'⟩
      have hll : len < 18446744073709551616 := hLl
      obtain ⟨len2, hl2⟩ : ∃ x, (len + m) % 18446744073709551616 = x := ⟨_, rfl⟩
      have HL2 : Keep ((len + m) % 18446744073709551616 = len2) := ⟨hl2⟩
      have el2 : ((len : Int) + (m : Int)) % 18446744073709551616 = (len2 : Int) := by omega
      have ew2 : IntKind.u64.wrap ((len : Int) + (m : Int)) = (len2 : Int) := by rw [← el2]; simp [IntKind.wrap, IntKind.bits, IntKind.signed]
      have em2 : (len2 : Int) % 64 = ((r : Int) + (m : Int)) % 64 := by omega
      have hl2l : len2 < 18446744073709551616 := by omega
      have EM : Keep ((len2 : Int) % 64 = ((r : Int) + (m : Int)) % 64) := ⟨em2⟩
      rw [hlen'] at H2
      clear hrel hW hS hP hcell hm hr h2 g2 hlen' hl2 hLm hLl em2
      go_wp2
      go_region
      have H3 : Keep (HS w (w2.setCell ⟨b, 72, none⟩ (.int .u64 (len2 : Int))) b ws (blk.take r ++ rest.take m ++ blk.drop (r + (rest.take m).length)) len2 ∧ wr.grownBy (w2.setCell ⟨b, 72, none⟩ (.int .u64 (len2 : Int))) (some b)) :=
        ⟨H2.out.1.setLen hb0 len2 _ rfl _ rfl, H2.out.2.trans (gr_set _ _ _ _)⟩
      have hm64 : (m : Int) ≤ (n : Int) := by omega
      have HM : Keep ((rest.take m).length = m) := ⟨by rw [List.length_take, HW.out.by_.len]; omega⟩
      by_cases hfull : r + m = 64
      · have ht : ((len2 : Int) % 64 == 0) = true := by rw [beq_iff_eq, EM.out]; omega
        have HPN : Keep (Sha.HP (T ++ rest.take m) (Sha.mixW ws (blk.take r ++ rest.take m ++ blk.drop (r + (rest.take m).length))) (blk.take r ++ rest.take m ++ blk.drop (r + (rest.take m).length))) := ⟨by
          have := HPP.out.full (rest.take m) (by rw [HR.out, HM.out]; exact hfull)
          rwa [HR.out] at this⟩
        clear hfull
        by_cases hmc : m = c
        · have hnm : n = m := by omega
          subst hmc
          subst hnm
          have HX : Keep (n < n → some (⟨B, o, none⟩ : Addr) = some ⟨B, o + n, none⟩) := ⟨fun h => by omega⟩
          have HY : Keep (0 = n - n) := ⟨by omega⟩
          go_wp2_with (go_at_call 129; refine (mix_any _ _ len2 b _ H3.out.1.h8 H3.out.1.h64 H3.out.1.has H3.out.1.kc).mono ?_; rintro e w5 ⟨rfl, h5, g5⟩; have H5 : Keep (HS w w5 b (Sha.mixW ws (blk.take r ++ rest.take n ++ blk.drop (r + (rest.take n).length))) (blk.take r ++ rest.take n ++ blk.drop (r + (rest.take n).length)) len2 ∧ wr.grownBy w5 (some b)) := ⟨H3.out.1.mixed hb0 h5 g5, H3.out.2.trans g5⟩; clear h5 g5)
          all_goals (refine ⟨⟨_, 0, 0, by omega, rfl, ⟨by have := HW.out.next n len len2 (Nat.le_refl _) HLEN.out HL2.out _ _ HPN.out H5.out.1 H5.out.2 _ _ HY.out HX.out; rw [Nat.sub_self] at this; exact this⟩⟩, ?_⟩; simp only [sliceLen]; omega)
        · go_wp2_with (go_at_call 129; refine (mix_any _ _ len2 b _ H3.out.1.h8 H3.out.1.h64 H3.out.1.has H3.out.1.kc).mono ?_; rintro e w5 ⟨rfl, h5, g5⟩; have H5 : Keep (HS w w5 b (Sha.mixW ws (blk.take r ++ rest.take m ++ blk.drop (r + (rest.take m).length))) (blk.take r ++ rest.take m ++ blk.drop (r + (rest.take m).length)) len2 ∧ wr.grownBy w5 (some b)) := ⟨H3.out.1.mixed hb0 h5 g5, H3.out.2.trans g5⟩; clear h5 g5)
          all_goals (refine ⟨⟨_, n - m, _, by omega, rfl, ⟨HW.out.next m len len2 hmn HLEN.out HL2.out _ _ HPN.out H5.out.1 H5.out.2 _ _ rfl (fun _ => rfl)⟩⟩, ?_⟩; simp only [sliceLen]; omega)
      · have ht : ((len2 : Int) % 64 == 0) = false := by rw [beq_eq_false_iff_ne, EM.out]; omega
        have HPN : Keep (Sha.HP (T ++ rest.take m) ws (blk.take r ++ rest.take m ++ blk.drop (r + (rest.take m).length))) := ⟨by
          have := HPP.out.part (rest.take m) (by rw [HR.out, HM.out]; omega)
          rwa [HR.out] at this⟩
        clear hfull
        by_cases hmc : m = c
        · have hnm : n = m := by omega
          subst hmc
          subst hnm
          have HX : Keep (n < n → some (⟨B, o, none⟩ : Addr) = some ⟨B, o + n, none⟩) := ⟨fun h => by omega⟩
          have HY : Keep (0 = n - n) := ⟨by omega⟩
          go_wp2
          all_goals (refine ⟨⟨_, 0, 0, by omega, rfl, ⟨by have := HW.out.next n len len2 (Nat.le_refl _) HLEN.out HL2.out _ _ HPN.out H3.out.1 H3.out.2 _ _ HY.out HX.out; rw [Nat.sub_self] at this; exact this⟩⟩, ?_⟩; simp only [sliceLen]; omega)
        · go_wp2
          all_goals (refine ⟨⟨_, n - m, _, by omega, rfl, ⟨HW.out.next m len len2 hmn HLEN.out HL2.out _ _ HPN.out H3.out.1 H3.out.2 _ _ rfl (fun _ => rfl)⟩⟩, ?_⟩; simp only [sliceLen]; omega)
    · have HE : Keep (HashOf wr b all ∧ w.grownBy wr (some b)) := ⟨by
        obtain ⟨T, rest, hW⟩ := hrel.out
        obtain ⟨ws, blk, hP, hS⟩ := hW.hs
        have hr : rest = [] := List.length_eq_zero_iff.1 (by rw [hW.by_.len]; omega)
        have ha := hW.all_
        rw [hr, List.append_nil] at ha
        rw [← ha]
        exact ⟨⟨ws, blk, hP, hS.has⟩, hS.gr⟩⟩
      clear hrel
      go_wp2
      go_end0
      exact ⟨rfl, HE.out⟩
set_option maxRecDepth 100000 in
theorem write_any (b : Nat) (a : Option Addr) (n c : Nat) (T q : List UInt8) (w : World) (hh : HashOf w b T) (hk : Kc w) (hb0 : 1 ≠ b) (hq : Bytes b w a n c q) (hT : T.length + q.length ≤ 4611686018427387904) :
    Calls Tryz.prog 69 #[.pointer (some ⟨b, 0, none⟩), .slice a n c] w fun e w' => e = .returned (.tuple #[]) ∧ HashOf w' b (T ++ q) ∧ w.grownBy w' (some b) :=
  write_gen b a n c T q w hh hk hb0 hq (by have := hq.len; omega)
end Go.Proofs.YtldnpebnpbahjaaGreatDoor

namespace Go.Proofs.YtldnpebnpbahjaaGreatDoor
open Go Go.RowKit

/-- the bytes of a slice -/
structure BytesOf (w : World) (a : Option Addr) (n c : Nat) (q : List UInt8) : Prop where
  len : q.length = n
  cap : n ≤ c
  at_ : 0 < n → ∃ B o, a = some ⟨B, o, none⟩ ∧ ∀ j x, q[j]? = some x → w.cell? ⟨B, o + j, none⟩ = some (bv x)
set_option maxRecDepth 100000 in
theorem BytesOf.kept {w w' : World} {a : Option Addr} {n c : Nat} {q : List UInt8} (h : BytesOf w a n c q) (hg : w.grownBy w' none) : BytesOf w' a n c q := by
  refine ⟨h.len, h.cap, fun hn => ?_⟩
  obtain ⟨B, o, h1, h3⟩ := h.at_ hn
  exact ⟨B, o, h1, fun j x hx => hg.cell (h3 j x hx) (by simp)⟩
set_option maxRecDepth 100000 in
theorem BytesOf.apart {w w' : World} {a : Option Addr} {n c b : Nat} {q : List UInt8} (h : BytesOf w a n c q) (hg : w.grownBy w' none) (hb : w.heap.size ≤ b) : Bytes b w' a n c q := by
  refine ⟨h.len, h.cap, fun hn => ?_⟩
  obtain ⟨B, o, h1, h3⟩ := h.at_ hn
  refine ⟨B, o, h1, ?_, fun j x hx => hg.cell (h3 j x hx) (by simp)⟩
  have hl : 0 < q.length := by rw [h.len]; exact hn
  have := World.block_lt_of_cell? w _ (h3 0 q[0] (by rw [List.getElem?_eq_getElem hl]))
  simp at this
  omega
/-- a list of slices -/
structure Parts (w : World) (a : Option Addr) (n : Nat) (ps : List (List UInt8)) : Prop where
  len : ps.length = n
  at_ : 0 < n → ∃ B o, a = some ⟨B, o, none⟩ ∧ ∀ j q, ps[j]? = some q → ∃ a' n' c', w.cell? ⟨B, o + j, none⟩ = some (.slice a' n' c') ∧ BytesOf w a' n' c' q

set_option maxRecDepth 100000 in
theorem take_flat (ps : List (List UInt8)) (i : Nat) (hi : i < ps.length) : (ps.take (i + 1)).flatten = (ps.take i).flatten ++ ps[i] := by
  rw [List.take_succ_eq_append_getElem hi, List.flatten_append]; simp
set_option maxRecDepth 100000 in
theorem flat_le (ps : List (List UInt8)) (i : Nat) : (ps.take i).flatten.length ≤ ps.flatten.length := by
  have e : ps.flatten = (ps.take i).flatten ++ (ps.drop i).flatten := by rw [← List.flatten_append, List.take_append_drop]
  rw [e, List.length_append]; omega

structure OfRel (w w' : World) (ps : List (List UInt8)) (i : Nat) : Prop where
  r : Has w' w.heap.size ((List.replicate 32 (0 : UInt8)).map bv) 176
  h : HashOf w' (w.heap.size + 1) (ps.take i).flatten
  g : w.grownBy w' none
set_option maxRecDepth 100000 in
theorem OfRel.start (w w1 : World) (C : Array Value) (ps : List (List UInt8)) (hC : C = ((List.replicate 32 (0 : UInt8)).map bv).toArray) (h1 : HashOf w1 (w.alloc (.cells C 176)).heap.size []) (g1 : (w.alloc (.cells C 176)).grownBy w1 none) : OfRel w w1 ps 0 := by
  subst hC
  rw [heap1] at h1
  exact ⟨(Has.new _ _ _).kept g1 (by simp), h1, (World.grownBy_alloc _ _ _).trans g1⟩

end Go.Proofs.YtldnpebnpbahjaaGreatDoor

namespace Go.Proofs.YtldnpebnpbahjaaGreatDoor
open Go Go.RowKit

/-- a string's bytes -/
def sl (s : ByteArray) : List UInt8 := s.data.toList
set_option maxRecDepth 100000 in
theorem sl_len (s : ByteArray) : (sl s).length = s.size := Array.length_toList
set_option maxRecDepth 100000 in
theorem sl_mk (l : List UInt8) : sl ⟨l.toArray⟩ = l := by simp [sl]
set_option maxRecDepth 100000 in
theorem sl_app (a b : ByteArray) : sl (a ++ b) = sl a ++ sl b := by simp [sl]
set_option maxRecDepth 100000 in
theorem sl_inj {a b : ByteArray} (h : sl a = sl b) : a = b := by
  apply ByteArray.ext
  exact Array.toList_inj.1 h
set_option maxRecDepth 100000 in
theorem sl_extract (s : ByteArray) (m : Nat) : sl (s.extract m s.size) = (sl s).drop m := by
  simp only [sl, ByteArray.data_extract, Array.toList_extract, List.extract]
  apply List.take_of_length_le
  rw [List.length_drop, Array.length_toList]; exact Nat.le_refl _
def strSize : Value → Nat
  | .string s => s.size
  | _ => 0

set_option maxRecDepth 100000 in
theorem c_or (x y : UInt8) : bits .or .u8 (x.toNat : Int) (y.toNat : Int) = ((x ||| y).toNat : Int) := by
  rw [u8_or_nat _ _ (by exact x.toNat_lt) (by exact y.toNat_lt), UInt8.toNat_or]
set_option maxRecDepth 100000 in
theorem c_xor (x y : UInt8) : bits .xor .u8 (x.toNat : Int) (y.toNat : Int) = ((x ^^^ y).toNat : Int) := by
  rw [u8_xor_nat _ _ (by exact x.toNat_lt) (by exact y.toNat_lt), UInt8.toNat_xor]
set_option maxRecDepth 100000 in
theorem sl_at (s : ByteArray) (i : Nat) (h : i < s.size) : (sl s)[i]? = some s[i] := by
  unfold sl
  rw [Array.getElem?_toList]
  exact Array.getElem?_eq_getElem h
set_option maxRecDepth 100000 in
theorem idx9 (s : ByteArray) (i : Nat) (y : UInt8) (h : i < s.size) (hy : (sl s)[i]? = some y) (W : World) : (Instr.index 9 (.string s) (.int .i64 (i : Int))).run Tryz.prog W = .ok (.int .u8 y.toNat) W := by
  rw [run_index_string W 9 s .i64 i (by kernel_rfl), dif_pos ⟨by omega, by omega⟩]
  rw [sl_at s i h] at hy
  simp only [Int.toNat_natCast, Option.some.inj hy]
set_option maxRecDepth 100000 in
theorem or_zero8 (x y : UInt8) : x ||| y = 0 ↔ x = 0 ∧ y = 0 := by
  constructor
  · intro h
    have h1 := congrArg UInt8.toNat h
    rw [UInt8.toNat_or] at h1
    have h2 : x.toNat = 0 ∧ y.toNat = 0 := by simpa using h1
    exact ⟨UInt8.toNat_inj.1 (by simpa using h2.1), UInt8.toNat_inj.1 (by simpa using h2.2)⟩
  · rintro ⟨rfl, rfl⟩; rfl
set_option maxRecDepth 100000 in
theorem xor_zero8 (x y : UInt8) : x ^^^ y = 0 ↔ x = y := by
  constructor
  · intro h
    have h2 : x ^^^ y ^^^ y = 0 ^^^ y := by rw [h]
    rw [UInt8.xor_assoc, UInt8.xor_self, UInt8.xor_zero, UInt8.zero_xor] at h2
    exact h2
  · rintro rfl; exact UInt8.xor_self
set_option maxRecDepth 100000 in
theorem take_eq (p q : List UInt8) (i : Nat) (x y z : UInt8) (hx : p[i]? = some y) (hy : q[i]? = some z) (h : x = 0 ↔ p.take i = q.take i) : x ||| (y ^^^ z) = 0 ↔ p.take (i + 1) = q.take (i + 1) := by
  obtain ⟨h1, e1⟩ := List.getElem?_eq_some_iff.1 hx
  obtain ⟨h2, e2⟩ := List.getElem?_eq_some_iff.1 hy
  rw [or_zero8, xor_zero8, h, List.take_succ_eq_append_getElem h1, List.take_succ_eq_append_getElem h2, e1, e2]
  constructor
  · rintro ⟨a, b⟩; rw [a, b]
  · intro e
    have := List.append_inj e (by simp <;> omega)
    exact ⟨this.1, by simpa using this.2⟩

set_option maxRecDepth 100000 in
set_option maxHeartbeats 4000000 in
theorem same_any (a b : ByteArray) (w : World) (ha : a.size ≤ 4611686018427387904) (_hb : b.size ≤ 4611686018427387904) :
    Calls Tryz.prog 41 #[.string a, .string b] w fun e w' => e = .returned (.bool (decide (sl a = sl b))) ∧ w.grownBy w' none := by
  go_enter Tryz.func41, Tryz.ntmps41
  by_cases hl : a.size = b.size
  · go_wp2
    go_loopw [5, 14] (fun d t w' => ∃ (i : Nat) (x : UInt8), i ≤ b.size ∧ t = .int .i64 i ∧ d = .int .u8 x.toNat ∧ Keep ((x = 0 ↔ (sl a).take i = (sl b).take i) ∧ w.grownBy w' none)) (fun _ t _ => b.size - (intOf t).toNat)
    case atStart => exact ⟨0, 0, by omega, rfl, rfl, ⟨by simp, World.grownBy.refl _ _⟩⟩
    case round =>
      obtain ⟨i, x, hi, rfl, rfl, hrel⟩ := hrel
      by_cases hli : i < b.size
      · have hia : i < a.size := by omega
        obtain ⟨y, hy⟩ : ∃ y, (sl a)[i]? = some y := ⟨_, sl_at a i hia⟩
        obtain ⟨z, hz⟩ : ∃ z, (sl b)[i]? = some z := ⟨_, sl_at b i hli⟩
        obtain ⟨v, hv⟩ : ∃ v, y ^^^ z = v := ⟨_, rfl⟩
        obtain ⟨u, hu⟩ : ∃ u, x ||| v = u := ⟨_, rfl⟩
        have HX : Keep (u = 0 ↔ (sl a).take (i + 1) = (sl b).take (i + 1)) := ⟨by rw [← hu, ← hv]; exact take_eq _ _ i x y z hy hz hrel.out.1⟩
        have ix := idx9 a i y hia hy
        have iy := idx9 b i z hli hz
        have c1 := c_xor y z
        have c2 := c_or x v
        rw [hv] at c1
        rw [hu] at c2
        clear hy hz hu hv
        go_wp2
        go_region
        go_wp2
        refine ⟨⟨i + 1, u, by omega, by go_num, rfl, ⟨HX.out, hrel.out.2.trans (gr_drewN _ _ _)⟩⟩, ?_⟩
        simp [intOf]; omega
      · have HE : Keep (Value.bool ((x.toNat : Int) == 0) = .bool (decide (sl a = sl b)) ∧ w.grownBy wr none) := ⟨by
          have e1 : (sl a).take i = sl a := List.take_of_length_le (by rw [sl_len]; omega)
          have e2 : (sl b).take i = sl b := List.take_of_length_le (by rw [sl_len]; omega)
          have h := hrel.out.1
          rw [e1, e2] at h
          congr 1
          rw [Bool.eq_iff_iff, beq_iff_eq, decide_eq_true_iff, ← h, ← UInt8.toNat_inj]
          simp, hrel.out.2⟩
        clear hrel
        go_wp2
        go_ret
        exact ⟨by rw [← HE.out.1]; rfl, HE.out.2⟩
  · have HN : Keep (decide (sl a = sl b) = false) := ⟨by
      rw [decide_eq_false_iff_not]
      intro e
      exact hl (by rw [← sl_len, ← sl_len, e])⟩
    go_wp2
    go_ret
    exact ⟨by rw [HN.out]; rfl, World.grownBy.refl _ _⟩
end Go.Proofs.YtldnpebnpbahjaaGreatDoor

