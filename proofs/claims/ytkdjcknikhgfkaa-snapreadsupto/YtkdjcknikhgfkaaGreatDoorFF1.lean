import Derived.Test.YtkdjcknikhgfkaaGreatDoorFC3
import Derived.Test.YtkdjcknikhgfkaaGreatDoorFD3
import Derived.Test.YtkdjcknikhgfkaaGreatDoorFE3
/- frame.Seal -/
namespace Go.Proofs.YtkdjcknikhgfkaaGreatDoor.Pk
open Go Go.RowKit

def zero32 : ByteArray := ba (List.replicate 32 0)
def Dg.bare (d : Dg) : Dg := { d with tag := zero32 }
def sealD (d : Dg) (key : ByteArray) : ByteArray × Int :=
  if 3 ≤ d.kind ∧ d.kind ≤ 7 then
    if (enc d.bare).2 = 0 then (bodyB (ba (enc d.bare).1) ++ hmacB key (bodyB (ba (enc d.bare).1)), 0) else (nob, (enc d.bare).2)
  else (nob, 71)
set_option maxRecDepth 100000 in
theorem Dg.bare_fine {d : Dg} (h : d.fine) : d.bare.fine := ⟨h.k, h.e, h.s, h.p, h.q, h.h, h.t⟩
set_option maxRecDepth 100000 in
theorem Dg.bare_small {d : Dg} (h : d.small) : d.bare.small := ⟨h.n, h.c, h.m, h.s, h.dt, by show (ba (List.replicate 32 0)).size ≤ _; decide⟩
set_option maxRecDepth 100000 in
theorem finish_le (s : LS) : (finish s).1.length ≤ 1200 := by
  obtain ⟨st, r⟩ := s
  cases st with
  | none => simp [finish]
  | some L =>
    simp only [finish]
    by_cases h : r = true
    · simp [h]
    · by_cases h2 : 1200 < L.length
      · simp [h, h2]
      · simp [h, h2]; omega
set_option maxRecDepth 100000 in
theorem enc_le (d : Dg) : (enc d).1.length ≤ 1200 := by
  unfold enc
  split
  · simp
  · exact finish_le _
set_option maxRecDepth 100000 in
theorem hmacB_size (k t : ByteArray) : (hmacB k t).size = 32 := by
  rw [← sl_len]; show (Go.Proofs.YtkdjcknikhgfkaaGreatDoor.sl (hmacB k t)).length = _; rw [hmacB_sl]; exact Mac.sha_len _
set_option maxHeartbeats 8000000 in
set_option maxRecDepth 100000 in
theorem seal_c (d : Dg) (key : ByteArray) (hf : d.fine) (hs : d.small) (w : World) (hk : Kc w) (hkey : key.size ≤ 2305843009213693952) :
    Calls Tryz.prog 27 #[dv d, .string key] w fun e w' => e = .returned (.tuple #[.string (sealD d key).1, .int .i64 (sealD d key).2]) ∧ w.grownBy w' none := by
  obtain ⟨du, hdu, hdr⟩ := under26
  obtain ⟨kd, hkd⟩ : ∃ x, d.kind = x := ⟨_, rfl⟩
  obtain ⟨w0, hw0⟩ : ∃ q, w.alloc (.cells d.cells.toArray 50) = q := ⟨_, rfl⟩
  have h0 : Has w0 w.heap.size d.cells 50 := by rw [← hw0]; exact Has.new w _ 50
  have g0 : w.grownBy w0 none := by rw [← hw0]; exact World.grownBy_alloc _ _ _
  have c0 : w0.cell? ⟨w.heap.size, 0, none⟩ = some (.int .i64 kd) := h0.cellv 0 _ (by rw [← hkd]; rfl)
  have HW : Keep (w.grownBy w0 none ∧ Has w0 w.heap.size d.cells 50 ∧ Kc w ∧ d.bare.fine ∧ d.bare.small ∧ key.size ≤ 2305843009213693952) := ⟨g0, h0, hk, d.bare_fine hf, d.bare_small hs, hkey⟩
  have HT := Keep.mk (tagged_c kd w0)
  have hw1 : w.alloc (.cells #[.int .i64 kd, .string d.nonce, .int .u64 d.epoch, .string d.cookie, .string d.name, .int .u64 d.session, .int .i64 d.player, .string d.salt, .int .u64 d.seq, .int .i64 d.thr, .int .i64 d.turn, .bool d.fire, .bool d.boost, .string d.data, .string d.tag] 50) = w0 := by rw [← hkd]; exact hw0
  clear h0 g0 hw0 hf hs hk hkey
  by_cases ht : 3 ≤ kd ∧ kd ≤ 7
  · rw [decide_eq_true ht] at HT
    have hsl : sealD d key = if (enc d.bare).2 = 0 then (bodyB (ba (enc d.bare).1) ++ hmacB key (bodyB (ba (enc d.bare).1)), 0) else (nob, (enc d.bare).2) := by rw [sealD, if_pos (by rw [hkd]; exact ht)]
    have HSL := Keep.mk hsl
    clear ht hsl
    unfold dv
    rw [hkd]
    clear hkd
    go_enter Tryz.func27, Tryz.ntmps27
    go_wp2_with fail
    refine HT.out.mono ?_
    rintro e wq ⟨rfl, hwq⟩
    rw [hwq]
    clear hwq wq
    go_wp2_with fail
    refine (rep_c 32 w0 (by decide)).mono ?_
    rintro e w2 ⟨rfl, g2⟩
    have h2 := HW.out.2.1.kept g2 (by simp)
    have c2 : w2.cell? ⟨w.heap.size, 14, none⟩ = some (.string d.tag) := h2.cellv 14 _ rfl
    have z2 : w2.frozen? ⟨w.heap.size, 14, none⟩ = false := h2.frozen 14
    obtain ⟨Z, hZ⟩ : ∃ Z, ba (List.replicate 32 0) = Z := ⟨_, rfl⟩
    rw [hZ]
    obtain ⟨w3, hw3⟩ : ∃ q, w2.setCell ⟨w.heap.size, 14, none⟩ (.string Z) = q := ⟨_, rfl⟩
    have h3 : Has w3 w.heap.size d.bare.cells 50 := by rw [← hw3]; have := h2.setCell 14 (.string Z); rw [← hZ] at this ⊢; exact this
    have HW3 : Keep (Has w3 w.heap.size d.bare.cells 50 ∧ w.grownBy w3 none) := ⟨h3, by rw [← hw3]; exact gr_new (HW.out.1.trans g2) (gr_set _ _ _ _) (Nat.le_refl _)⟩
    clear h2 h3 g2 hZ
    go_wp2_with (refine wpList_load_mid rfl 50 _ rfl _ _ rfl d.bare.cells _ HW3.out.1.range hdu hdr info26 ?_)
    refine (encode_c d.bare HW.out.2.2.2.1 HW.out.2.2.2.2.1 w3).mono ?_
    rintro e w4 ⟨rfl, g4⟩
    have HG4 : Keep (w.grownBy w4 none) := ⟨HW3.out.2.trans g4⟩
    have hle := enc_le d.bare
    obtain ⟨en, hen⟩ : ∃ x, (enc d.bare).2 = x := ⟨_, rfl⟩
    obtain ⟨L, hL⟩ : ∃ x, ba (enc d.bare).1 = x := ⟨_, rfl⟩
    have hLs : L.size ≤ 1200 := by rw [← hL, ba_size]; exact hle
    rw [hen, hL]
    rw [hen, hL] at HSL
    have HL := Keep.mk hLs
    clear g4 hle hen hL hLs
    by_cases h0 : en = 0
    · subst h0
      rw [if_pos rfl] at HSL
      go_wp2_with fail
      refine (body_c L w4 (by have := HL.out; omega)).mono ?_
      rintro e w5 ⟨rfl, g5⟩
      have hbs := bodyB_size L
      obtain ⟨B, hB⟩ : ∃ B, bodyB L = B := ⟨_, rfl⟩
      rw [hB] at HSL hbs ⊢
      have HG5 : Keep (w.grownBy w5 none ∧ B.size ≤ 1200) := ⟨HG4.out.trans g5, by have := HL.out; omega⟩
      clear g5 hbs hB
      go_wp2_with fail
      refine (tag_any key B w5 (HW.out.2.2.1.kept HG5.out.1 (by simp)) HW.out.2.2.2.2.2 (by have := HG5.out.2; omega)).mono ?_
      rintro e w6 ⟨rfl, g6⟩
      have hadd := addS B (hmacB key B) (by rw [hmacB_size]; have := HG5.out.2; omega)
      have HG6 : Keep (w.grownBy w6 none) := ⟨HG5.out.1.trans g6⟩
      obtain ⟨Y, hY⟩ : ∃ Y, B ++ hmacB key B = Y := ⟨_, rfl⟩
      rw [hY] at hadd HSL
      clear g6 hY
      go_wp2_with fail
      go_ret2
      exact ⟨by rw [HSL.out]; rfl, HG6.out⟩
    · rw [if_neg h0] at HSL
      go_wp2_with fail
      go_ret2
      exact ⟨by rw [HSL.out]; rfl, HG4.out⟩
  · rw [decide_eq_false ht] at HT
    have hsl : sealD d key = (nob, 71) := by rw [sealD, if_neg (by rw [hkd]; exact ht)]
    rw [hsl]
    clear ht hsl
    unfold dv
    rw [hkd]
    clear hkd
    go_enter Tryz.func27, Tryz.ntmps27
    go_wp2_with fail
    refine HT.out.mono ?_
    rintro e wq ⟨rfl, hwq⟩
    rw [hwq]
    clear hwq wq
    go_wp2_with fail
    go_ret2
    exact ⟨rfl, HW.out.1⟩
end Go.Proofs.YtkdjcknikhgfkaaGreatDoor.Pk
