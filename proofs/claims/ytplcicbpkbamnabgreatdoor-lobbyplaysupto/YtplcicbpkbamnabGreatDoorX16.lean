import Derived.Test.YtplcicbpkbamnabGreatDoorX15
import Derived.Lib.ConvBytes
import Derived.Test.YtplcicbpkbamnabGreatDoorX14
import Derived.Laws.MakeOwn
/- strings and their bytes -/
namespace Go.Proofs.YtplcicbpkbamnabGreatDoor
open Go Go.RowKit

set_option maxRecDepth 100000 in
theorem under5 : Tryz.prog.underlying 5 = some (.int .u8) := by kernel_rfl
set_option maxRecDepth 100000 in
theorem under9 : Tryz.prog.underlying 9 = some .string := by kernel_rfl
set_option maxRecDepth 100000 in
theorem beqL (a b : ByteArray) : (a.toList == b.toList) = decide (sl a = sl b) := by
  rw [ByteArray.toList_eq, ByteArray.toList_eq]
  by_cases h : sl a = sl b
  · rw [decide_eq_true h]; unfold sl at h; rw [h]; simp
  · rw [decide_eq_false h]; unfold sl at h; simpa using h
set_option maxRecDepth 100000 in
theorem addS (a b : ByteArray) (h : a.size + b.size ≤ 9223372036854775807) (W : World) : (Op.stringOp .add a b).run Tryz.prog W = .ok (.string (a ++ b)) W := by
  simp only [Op.stringOp]
  rw [if_neg (by have : IntKind.i64.max = 9223372036854775807 := by decide
                 omega)]
  rfl
/-- '[]byte(s)' -/
theorem cvt (s : ByteArray) (W : World) : (convert 9 120 (.string s)).run Tryz.prog W = .ok (.slice (some ⟨W.heap.size, 0, none⟩) s.size (grownCap W s.size 0 5)) (Lib.bytesWorld W 5 s) :=
  Lib.run_convert_string_bytes (P := Tryz.prog) W 9 120 5 s (u := .string) under9 under28 under5
set_option maxRecDepth 100000 in
theorem gr_bytes (W : World) (s : ByteArray) : W.grownBy (Lib.bytesWorld W 5 s) none :=
  ⟨rfl, rfl, rfl, by rw [Lib.bytesWorld_size]; omega, fun k hk _ => Lib.bytesWorld_at_old _ _ _ _ hk⟩
set_option maxRecDepth 100000 in
theorem bytes_cells (W : World) (s : ByteArray) (j : Nat) (x : UInt8) (hx : (sl s)[j]? = some x) : (Lib.bytesWorld W 5 s).cell? ⟨W.heap.size, j, none⟩ = some (bv x) := by
  have hj : j < s.size := by rw [← sl_len]; exact (List.getElem?_eq_some_iff.1 hx).1
  rw [Lib.bytesWorld_cell _ _ _ j hj]
  unfold sl at hx
  simp [List.getD, hx]
set_option maxRecDepth 100000 in
theorem bytes_of (W : World) (s : ByteArray) (c : Nat) (hc : s.size ≤ c) : BytesOf (Lib.bytesWorld W 5 s) (some ⟨W.heap.size, 0, none⟩) s.size c (sl s) :=
  ⟨sl_len s, hc, fun _ => ⟨_, 0, rfl, fun j x hx => by rw [Nat.zero_add]; exact bytes_cells W s j x hx⟩⟩
/-- 'string(b)' -/
theorem cvt_back (w : World) (a : Option Addr) (n c : Nat) (q : List UInt8) (h : BytesOf w a n c q) (ha : a ≠ none) : (convert 120 9 (.slice a n c)).run Tryz.prog w = .ok (.string ⟨q.toArray⟩) w := by
  have key : ∀ ad : Addr, (∀ j x, q[j]? = some x → w.cell? (ad.add j) = some (bv x)) → (convert 120 9 (.slice (some ad) n c)).run Tryz.prog w = .ok (.string ⟨q.toArray⟩) w := fun ad hc => by
    have := run_convert_bytes_back (P := Tryz.prog) w 120 9 5 ad c q under28 under5 under9 (fun j hj => hc j _ (List.getElem?_eq_getElem hj))
    rw [h.len] at this
    exact this
  cases a with
  | none => exact absurd rfl ha
  | some ad =>
    refine key ad fun j x hx => ?_
    have hn : 0 < n := by rw [← h.len]; have := (List.getElem?_eq_some_iff.1 hx).1; omega
    obtain ⟨B, o, e, h3⟩ := h.at_ hn
    obtain rfl := Option.some.inj e
    rw [Addr.add_mid]; exact h3 j x hx
set_option maxRecDepth 100000 in
theorem sl_back (s : ByteArray) : (⟨(sl s).toArray⟩ : ByteArray) = s := by
  apply ByteArray.ext; simp [sl]
set_option maxRecDepth 100000 in
theorem cvt_cvt (s : ByteArray) (W : World) (c : Nat) (hc : s.size ≤ c) : (convert 120 9 (.slice (some ⟨W.heap.size, 0, none⟩) s.size c)).run Tryz.prog (Lib.bytesWorld W 5 s) = .ok (.string s) (Lib.bytesWorld W 5 s) := by
  have := cvt_back _ _ _ _ _ (bytes_of W s c hc) (by simp)
  rwa [sl_back] at this
end Go.Proofs.YtplcicbpkbamnabGreatDoor

namespace Go.Proofs.YtplcicbpkbamnabGreatDoor
open Go Go.RowKit

set_option maxRecDepth 100000 in
set_option maxHeartbeats 1000000 in
theorem turn_any (x : UInt32) (k : Nat) (w : World) (hk : k = 2 ∨ k = 6 ∨ k = 7 ∨ k = 11 ∨ k = 13 ∨ k = 17 ∨ k = 18 ∨ k = 19 ∨ k = 22 ∨ k = 25) :
    Calls Tryz.prog 147 #[.int .u32 x.toNat, .int .i64 k] w fun e w' => e = .returned (.int .u32 (Sha.rotr (UInt32.ofNat k) x).toNat) ∧ ∃ n, w' = w.drewN n := by
  obtain ⟨x0, x1⟩ := u_lt x
  rcases hk with rfl | rfl | rfl | rfl | rfl | rfl | rfl | rfl | rfl | rfl
  all_goals
    go_enter Tryz.func147, Tryz.ntmps147
    go_wp2
    go_quiet (fail)
    go_wp2
    go_ret
    exact ⟨ret_int (turn_gen x _ (32 - _) _ _ (by rfl) (by rfl) (by decide) rfl (by decide)), _, rfl⟩
/-- the reference's plan, as far as it has come -/
structure PRel (blk : List UInt8) (w w' : World) (k : Nat) : Prop where
  z : Has w' w.heap.size ((List.replicate 64 (0 : UInt32)).map wv) 170
  l : Has w' (w.heap.size + 1) ((Sha.schedTo blk k).map wv) 170
  g : w.grownBy w' none
set_option maxRecDepth 100000 in
theorem PRel.start (blk : List UInt8) (w : World) (B C : Array Value) (hB : B = ((List.replicate 64 (0 : UInt32)).map wv).toArray) (hC : C = ((List.replicate 64 (0 : UInt32)).map wv).toArray) :
    PRel blk w ((w.alloc (.cells B 170)).alloc (.cells C 170)) 0 := by
  subst hB hC
  refine ⟨(Has.new w _ 170).alloc _, Has.new1 _ _ _ _ (heap1 _ _), ?_⟩
  exact (World.grownBy_alloc _ _ _).trans (World.grownBy_alloc _ _ _)
set_option maxRecDepth 100000 in
theorem PRel.lcell {blk : List UInt8} {w w' : World} {k : Nat} (h : PRel blk w w' k) (j : Nat) (hj : j < 64) : w'.cell? ⟨w.heap.size + 1, j, none⟩ = some (.int .u32 ((Sha.schedTo blk k).getD j 0).toNat) :=
  h.l.cellv _ _ (get_map wv _ 0 j (by rw [Sha.schedTo_len]; omega))
set_option maxRecDepth 100000 in
theorem PRel.drewN {blk : List UInt8} {w w' : World} {k : Nat} (h : PRel blk w w' k) (n : Nat) : PRel blk w (w'.drewN n) k :=
  ⟨h.z, h.l, h.g.trans (gr_drewN _ _ _)⟩
set_option maxRecDepth 100000 in
theorem PRel.step {blk : List UInt8} {w w' : World} {k : Nat} (h : PRel blk w w' k) (v : Value) (hv : v = wv (Sha.wval blk (Sha.schedTo blk k) k)) : PRel blk w (w'.setCell ⟨w.heap.size + 1, k, none⟩ v) (k + 1) := by
  subst hv
  refine ⟨h.z.other _ _ (by simp), ?_, gr_new h.g (gr_set _ _ _ _) (by omega)⟩
  have := h.l.setCell k (wv (Sha.wval blk (Sha.schedTo blk k) k))
  rw [Sha.schedTo, List.map_set]
  exact this

set_option maxRecDepth 100000 in
theorem pl_eq (y2 y7 y15 y16 : UInt32) : ((((y16.toNat : Int) + bits .xor .u32 (bits .xor .u32 ((Sha.rotr 7 y15).toNat : Int) ((Sha.rotr 18 y15).toNat : Int)) ((y15.toNat : Int) / (8 : Int))) % (4294967296 : Int) + (y7.toNat : Int)) % (4294967296 : Int) + bits .xor .u32 (bits .xor .u32 ((Sha.rotr 17 y2).toNat : Int) ((Sha.rotr 19 y2).toNat : Int)) ((y2.toNat : Int) / (1024 : Int))) % (4294967296 : Int) = ((Sha.ss1 y2 + y7 + Sha.ss0 y15 + y16).toNat : Int) := by
  rw [shr_gen y15 3 8 (by decide) (by decide), shr_gen y2 10 1024 (by decide) (by decide), b_xor, b_xor, b_xor, b_xor, b_add, b_add, b_add]
  have : y16 + Sha.ss0 y15 + y7 + Sha.ss1 y2 = Sha.ss1 y2 + y7 + Sha.ss0 y15 + y16 := by ac_rfl
  rw [← this]; rfl
set_option maxRecDepth 100000 in
theorem turnc (x : UInt32) (k : Nat) (kk : Int) (hkk : kk = (k : Int)) (hk : k = 2 ∨ k = 6 ∨ k = 7 ∨ k = 11 ∨ k = 13 ∨ k = 17 ∨ k = 18 ∨ k = 19 ∨ k = 22 ∨ k = 25) (w : World) :
    Calls Tryz.prog 147 #[.int .u32 x.toNat, .int .i64 kk] w fun e w' => e = .returned (.int .u32 (Sha.rotr (UInt32.ofNat k) x).toNat) ∧ ∃ n, w' = w.drewN n := by
  subst hkk; exact turn_any x k w hk

set_option maxRecDepth 100000 in
set_option maxHeartbeats 8000000 in
theorem plan_any (B o n c at_ : Nat) (l : List UInt8) (w : World) (hl : BytesOf w (some ⟨B, o, none⟩) n c l) (hat : at_ + 64 ≤ n) (hn : n ≤ 4611686018427387904) :
    Calls Tryz.prog 146 #[.slice (some ⟨B, o, none⟩) n c, .int .i64 (at_ : Int)] w fun e w' => e = .returned (.agg ((Sha.sched ((l.drop at_).take 64)).map wv).toArray) ∧ w.grownBy w' none := by
  have HL : Keep (BytesOf w (some ⟨B, o, none⟩) n c l) := ⟨hl⟩
  have hBw : B < w.heap.size := by
    obtain ⟨B', o', h1, h2⟩ := hl.at_ (by omega)
    have e : B = B' ∧ o = o' := by simpa using h1
    obtain ⟨rfl, rfl⟩ := e
    have h0 : 0 < l.length := by rw [hl.len]; omega
    exact World.block_lt_of_cell? w _ (h2 0 l[0] (List.getElem?_eq_getElem h0))
  have HCELL : Keep (∀ w' : World, w.grownBy w' none → ∀ j, j < n → w'.cell? ⟨B, o + j, none⟩ = some (.int .u8 (l.getD j 0).toNat)) := ⟨fun w' hg j hj => by
    obtain ⟨B', o', h1, h2⟩ := hl.at_ (by omega)
    have e : B = B' ∧ o = o' := by simpa using h1
    obtain ⟨rfl, rfl⟩ := e
    have h0 : j < l.length := by rw [hl.len]; omega
    have := hg.cell (h2 j l[j] (List.getElem?_eq_getElem h0)) (by simp)
    rw [this]
    simp [List.getD, h0]⟩
  obtain ⟨blk, hblk⟩ : ∃ b, (l.drop at_).take 64 = b := ⟨_, rfl⟩
  have HBK : Keep ((l.drop at_).take 64 = blk ∧ ∀ j, j < 64 → blk.getD j 0 = l.getD (at_ + j) 0) := ⟨hblk, fun j hj => by
    rw [← hblk]
    simp only [List.getD]
    rw [List.getElem?_take, if_pos hj, List.getElem?_drop]⟩
  clear hl hblk
  go_enter Tryz.func146, Tryz.ntmps146
  go_wp2
  go_loopw [6] (fun i w' => ∃ k : Nat, k ≤ 16 ∧ i = .int .i64 k ∧ Keep (PRel blk w w' k)) (fun i _ => 16 - (intOf i).toNat)
  case atStart => exact ⟨0, by omega, rfl, ⟨PRel.start blk w _ _ rfl rfl⟩⟩
  case round =>
    obtain ⟨k, hk, rfl, hrel⟩ := hrel
    by_cases hlt : k < 16
    · obtain ⟨i, hi⟩ : ∃ i, at_ + 4 * k = i := ⟨_, rfl⟩
      have hi' : (at_ : Int) + 4 * (k : Int) = (i : Int) := by omega
      have c0 := HCELL.out wr hrel.out.g i (by omega)
      have c1 := HCELL.out wr hrel.out.g (i + 1) (by omega)
      have c2 := HCELL.out wr hrel.out.g (i + 2) (by omega)
      have c3 := HCELL.out wr hrel.out.g (i + 3) (by omega)
      have e0 := HBK.out.2 (4 * k) (by omega)
      have e1 := HBK.out.2 (4 * k + 1) (by omega)
      have e2 := HBK.out.2 (4 * k + 2) (by omega)
      have e3 := HBK.out.2 (4 * k + 3) (by omega)
      rw [show at_ + 4 * k = i from hi] at e0
      rw [show at_ + (4 * k + 1) = i + 1 by omega] at e1
      rw [show at_ + (4 * k + 2) = i + 2 by omega] at e2
      rw [show at_ + (4 * k + 3) = i + 3 by omega] at e3
      rw [← e0] at c0
      rw [← e1] at c1
      rw [← e2] at c2
      rw [← e3] at c3
      obtain ⟨b0, h0⟩ : ∃ x, blk.getD (4 * k) 0 = x := ⟨_, rfl⟩
      obtain ⟨b1, h1⟩ : ∃ x, blk.getD (4 * k + 1) 0 = x := ⟨_, rfl⟩
      obtain ⟨b2, h2⟩ : ∃ x, blk.getD (4 * k + 2) 0 = x := ⟨_, rfl⟩
      obtain ⟨b3, h3⟩ : ∃ x, blk.getD (4 * k + 3) 0 = x := ⟨_, rfl⟩
      rw [h0] at c0
      rw [h1] at c1
      rw [h2] at c2
      rw [h3] at c3
      have HV : Keep (Sha.wval blk (Sha.schedTo blk k) k = Sha.word4 b0 b1 b2 b3) := ⟨by
        rw [Sha.wval, if_pos hlt, Sha.wordAt, h0, h1, h2, h3]⟩
      have hc := hrel.out.lcell k (by omega)
      have hf := hrel.out.l.frozen k
      have l0 := b0.toNat_lt
      have l1 := b1.toNat_lt
      have l2 := b2.toNat_lt
      have l3 := b3.toNat_lt
      have hin : (i : Int) + 3 < (n : Int) := by omega
      have hBN : w.heap.size + 1 ≠ B := by omega
      clear e0 e1 e2 e3 h0 h1 h2 h3 hi
      go_wp2
      go_region
      all_goals go_wp2
      refine ⟨⟨k + 1, by omega, by go_num, ⟨(hrel.out.step _ (by rw [HV.out, word_eq])).drewN 1⟩⟩, ?_⟩
      simp [intOf]; omega
    · have hrel0 : Keep (PRel blk w wr 16) := ⟨by
        have hk16 : k = 16 := by omega
        rw [← hk16]; exact hrel.out⟩
      go_wp2_with fail
      clear hrel
      generalize (Value.int .i64 (k : Int)) = K6
      clear hk hlt
      go_loopw [8] (fun i w' => ∃ k : Nat, k ≤ 48 ∧ i = .int .i64 (k + 16) ∧ Keep (PRel blk w w' (k + 16))) (fun i _ => 64 - (intOf i).toNat)
      case atStart => exact ⟨0, by omega, rfl, hrel0⟩
      case round =>
        obtain ⟨k, hk, rfl, hrel2⟩ := hrel
        clear hrel0
        by_cases hlt : k < 48
        · have hc := hrel2.out.lcell (k + 16) (by omega)
          have hf := hrel2.out.l.frozen (k + 16)
          obtain ⟨y2, hy2⟩ : ∃ y, (Sha.schedTo blk (k + 16)).getD (k + 14) 0 = y := ⟨_, rfl⟩
          obtain ⟨y7, hy7⟩ : ∃ y, (Sha.schedTo blk (k + 16)).getD (k + 9) 0 = y := ⟨_, rfl⟩
          obtain ⟨y15, hy15⟩ : ∃ y, (Sha.schedTo blk (k + 16)).getD (k + 1) 0 = y := ⟨_, rfl⟩
          obtain ⟨y16, hy16⟩ : ∃ y, (Sha.schedTo blk (k + 16)).getD k 0 = y := ⟨_, rfl⟩
          have c2 := hrel2.out.lcell (k + 14) (by omega)
          have c7 := hrel2.out.lcell (k + 9) (by omega)
          have c15 := hrel2.out.lcell (k + 1) (by omega)
          have c16 := hrel2.out.lcell k (by omega)
          rw [hy2] at c2
          rw [hy7] at c7
          rw [hy15] at c15
          rw [hy16] at c16
          have HV : Keep (Sha.wval blk (Sha.schedTo blk (k + 16)) (k + 16) = Sha.ss1 y2 + y7 + Sha.ss0 y15 + y16) := ⟨by
            rw [Sha.wval, if_neg (by omega), show k + 16 - 2 = k + 14 by omega, show k + 16 - 7 = k + 9 by omega, show k + 16 - 15 = k + 1 by omega, show k + 16 - 16 = k by omega, hy2, hy7, hy15, hy16]⟩
          clear hy2 hy7 hy15 hy16
          have i0 : (0 : Int) ≤ (k : Int) := by omega
          have i1 : (k : Int) < 48 := by omega
          have x7 : IntKind.i64.wrap ((k : Int) + 16 - 7) = (k : Int) + 9 := by rw [IntWalk.i64_in _ (by omega)]; omega
          have p7 : (0 : Int) ≤ (k : Int) + 9 := by omega
          have q7 : (k : Int) + 9 < 64 := by omega
          have r7 : ((k : Int) + 9).toNat = k + 9 := by omega
          have x16 : IntKind.i64.wrap (k : Int) = (k : Int) := IntWalk.i64_in _ (by omega)
          have q16 : (k : Int) < 64 := by omega
          have p0 : (0 : Int) ≤ (k : Int) + 16 := by omega
          have q0 : (k : Int) + 16 < 64 := by omega
          have r0 : ((k : Int) + 16).toNat = k + 16 := by omega
          go_wp2
          go_quiet (fail)
          go_wp2_with fail
          have H1 : Keep (PRel blk w (wr.drewN nq) (k + 16)) := ⟨hrel2.out.drewN nq⟩
          have C1 : (wr.drewN nq).cell? ⟨w.heap.size + 1, k + 16, none⟩ = some (.int .u32 ((Sha.schedTo blk (k + 16)).getD (k + 16) 0).toNat) ∧ (wr.drewN nq).frozen? ⟨w.heap.size + 1, k + 16, none⟩ = false ∧ (wr.drewN nq).cell? ⟨w.heap.size + 1, k + 9, none⟩ = some (.int .u32 y7.toNat) ∧ (wr.drewN nq).cell? ⟨w.heap.size + 1, k, none⟩ = some (.int .u32 y16.toNat) := ⟨hc, hf, c7, c16⟩
          clear hc hf c7 c16 c2 c15 hrel2
          generalize wr.drewN nq = w1 at H1 C1 ⊢
          obtain ⟨hc, hf, c7, c16⟩ := C1
          go_region_held (fun w' => w'.cell? ⟨w.heap.size + 1, k + 9, none⟩ = some (.int .u32 y7.toNat) ∧ w'.cell? ⟨w.heap.size + 1, k, none⟩ = some (.int .u32 y16.toNat)) (simp [*, World.cell?_setCell_other])
            (first
              | (go_at_call_of 147 (7 : Int); refine (turnc y15 7 7 rfl (by decide) _).mono ?_; rintro e w' ⟨rfl, n1, rfl⟩)
              | (go_at_call_of 147 (18 : Int); refine (turnc y15 18 18 rfl (by decide) _).mono ?_; rintro e w' ⟨rfl, n2, rfl⟩)
              | (go_at_call_of 147 (17 : Int); refine (turnc y2 17 17 rfl (by decide) _).mono ?_; rintro e w' ⟨rfl, n3, rfl⟩)
              | (go_at_call_of 147 (19 : Int); refine (turnc y2 19 19 rfl (by decide) _).mono ?_; rintro e w' ⟨rfl, n4, rfl⟩))
          go_wp2
          refine ⟨⟨k + 1, by omega, by go_num, ⟨by rw [show k + 1 + 16 = k + 16 + 1 by omega]; exact (H1.out.drewN _).step _ (by rw [HV.out, pl_eq])⟩⟩, ?_⟩
          simp [intOf]; omega
        · have hrel3 : Keep (PRel blk w wr 64) := ⟨by
            have hk48 : k + 16 = 64 := by omega
            rw [← hk48]; exact hrel2.out⟩
          clear hrel2
          have hlen := Sha.schedTo_len blk 64
          have hb : Has wr (w.heap.size + 1) ((Sha.sched blk).map wv) 170 := hrel3.out.l
          have hz := hrel3.out.z
          have hg := hrel3.out.g
          clear hrel3
          rw [← Sha.sched] at hlen
          obtain ⟨L, hLq⟩ : ∃ L, Sha.sched blk = L := ⟨_, rfl⟩
          rw [hLq] at hlen hb
          have HQ : Keep (Sha.sched ((l.drop at_).take 64) = L) := ⟨by rw [HBK.out.1]; exact hLq⟩
          clear hLq
          have HB : Keep (Has wr (w.heap.size + 1) (L.map wv) 170) := ⟨hb⟩
          have HZ : Keep (Has wr w.heap.size ((List.replicate 64 (0 : UInt32)).map wv) 170) := ⟨hz⟩
          have HG : Keep (w.grownBy wr none) := ⟨hg⟩
          have HLL : Keep (L.length = 64) := ⟨hlen⟩
          clear hb hz hg hlen
          have HI : Keep ((Tryz.prog.info? 170).map (·.size) = some (L.map wv).length) := ⟨by
            rw [List.length_map, HLL.out]; exact size50⟩
          have HE : Keep (Has (wr.setCells w.heap.size 0 (L.map wv)) w.heap.size (L.map wv) 170 ∧ w.grownBy (wr.setCells w.heap.size 0 (L.map wv)) none) :=
            ⟨HZ.out.setAll _ (by simp [HLL.out]), gr_new HG.out (gr_sets _ _ _ _) (Nat.le_refl _)⟩
          go_wp2_with (first
            | (refine wpList_load_mid rfl 170 _ rfl _ _ rfl _ _ HB.out.range under50 rfl HI.out ?_)
            | (refine wpList_store_mid rfl 170 _ _ rfl _ _ _ rfl rfl (HZ.out.there _ _ (by simp [HLL.out])) HI.out (all_oneCell_toArray (by simp [Value.oneCell'])) ?_))
          refine ret_cell (b := w.heap.size) (cs := L.map wv) (t := 170) rfl rfl ?_ under50 rfl HI.out rfl ⟨by rw [HQ.out], ?_⟩
          · exact HE.out.1
          · exact HE.out.2
end Go.Proofs.YtplcicbpkbamnabGreatDoor

namespace Go.Proofs.YtplcicbpkbamnabGreatDoor
open Go Go.RowKit

set_option maxRecDepth 100000 in
theorem made_eq (n : Nat) : madeCells #[Value.int .u8 0] n = ((List.replicate n (0 : UInt8)).map bv).toArray := by
  apply Array.ext
  · simp [size_madeCells]
  · intro i h1 h2
    simp [madeCells, Nat.mod_one]
set_option maxRecDepth 100000 in
theorem make28 (n : Nat) (hn : n ≤ 281474976710656) (W : World) : (Instr.makeSlice 120 (.int .i64 (n : Int)) (.int .i64 (n : Int))).run Tryz.prog W = .ok (.slice (some ⟨W.heap.size, 0, none⟩) n n) (W.alloc (.cells ((List.replicate n (0 : UInt8)).map bv).toArray 5)) := by
  have hi : ∃ i, Tryz.prog.info? 5 = some i ∧ i.size = 1 ∧ i.bytes = 1 ∧ i.zero = some (.int .u8 0) := by
    have h : (Tryz.prog.info? 5).map (fun i => (i.size, i.bytes, i.zero)) = some (1, 1, some (.int .u8 0)) := by kernel_rfl
    cases hq : Tryz.prog.info? 5 with
    | none => simp [hq] at h
    | some i =>
      simp only [hq, Option.map_some, Option.some.injEq, Prod.mk.injEq] at h
      exact ⟨i, rfl, h.1, h.2.1, h.2.2⟩
  obtain ⟨i, h1, h2, h3, h4⟩ := hi
  have := run_make (P := Tryz.prog) W 120 5 i (.int .u8 0) under28 h1 h4 .i64 .i64 n n (by omega) (by omega) (by rw [h3]; omega) (by omega)
  rw [this, h2, Nat.mul_one, Int.toNat_natCast]
  simp only [Value.cells]
  rw [made_eq]

/-- the text as far as it was copied, zeros behind -/
def cpTo (t : List UInt8) (size i : Nat) : List UInt8 := t.take i ++ List.replicate (size - i) 0
set_option maxRecDepth 100000 in
theorem cpTo_len (t : List UInt8) (size i : Nat) (hi : i ≤ t.length) (hs : i ≤ size) : (cpTo t size i).length = size := by
  rw [cpTo, List.length_append, List.length_take, List.length_replicate]; omega
set_option maxRecDepth 100000 in
theorem cpTo_step (t : List UInt8) (size i : Nat) (hi : i < t.length) (hs : i < size) : (cpTo t size i).set i (t.getD i 0) = cpTo t size (i + 1) := by
  have e : t.take (i + 1) = t.take i ++ [t.getD i 0] := by
    rw [List.take_succ_eq_append_getElem hi]; simp [List.getD, hi]
  have l : (t.take i).length = i := by rw [List.length_take]; omega
  rw [cpTo, cpTo, List.set_append_right _ _ (by omega), l, Nat.sub_self, e, show size - i = (size - (i + 1)) + 1 by omega, List.replicate_succ, List.set_cons_zero]
  simp
/-- the base: the text, 128, zeros; eight bytes more behind it -/
def base8 (t : List UInt8) (size : Nat) : List UInt8 := t ++ 128 :: List.replicate (size - 8 - (t.length + 1)) 0
def endTo (n i : Nat) : List UInt8 := List.replicate (8 - i) 0 ++ (Sha.len8 n).drop (8 - i)
set_option maxRecDepth 100000 in
theorem base8_start (t : List UInt8) (size : Nat) (hs : t.length + 9 ≤ size) : (cpTo t size t.length).set t.length 128 = base8 t size ++ endTo t.length 0 := by
  rw [cpTo, List.take_length, List.set_append_right _ _ (by omega), Nat.sub_self, show size - t.length = (size - 8 - (t.length + 1)) + 8 + 1 by omega, List.replicate_succ, List.set_cons_zero, base8, endTo, ← List.replicate_append_replicate]
  simp [Sha.len8, Sha.w4]
set_option maxRecDepth 100000 in
theorem base8_len (t : List UInt8) (size : Nat) (hs : t.length + 9 ≤ size) : (base8 t size).length = size - 8 := by
  simp only [base8, List.length_append, List.length_cons, List.length_replicate]; omega
set_option maxRecDepth 100000 in
theorem end_step (n : Nat) (v : UInt8) : ∀ i : Nat, i < 8 → (Sha.len8 n).getD (7 - i) 0 = v → (endTo n i).set (7 - i) v = endTo n (i + 1)
  | 0, _, h => by subst h; rfl
  | 1, _, h => by subst h; rfl
  | 2, _, h => by subst h; rfl
  | 3, _, h => by subst h; rfl
  | 4, _, h => by subst h; rfl
  | 5, _, h => by subst h; rfl
  | 6, _, h => by subst h; rfl
  | 7, _, h => by subst h; rfl
  | k + 8, h, _ => by omega
set_option maxRecDepth 100000 in
theorem base8_pad (t : List UInt8) (size : Nat) (hs : size = (t.length + 72) / 64 * 64) : base8 t size ++ endTo t.length 8 = t ++ Sha.padOf t.length := by
  rw [base8, endTo, Sha.padOf]
  have : (if t.length % 64 < 56 then 55 - t.length % 64 else 119 - t.length % 64) = size - 8 - (t.length + 1) := by
    subst hs; split <;> omega
  rw [this]
  simp

set_option maxRecDepth 100000 in
theorem len_byte (n : Nat) (hn : n ≤ 4294967296) : ∀ i : Nat, i < 8 → (n : Int) * 8 / 2 ^ (8 * i) % 256 = (((Sha.len8 n).getD (7 - i) 0).toNat : Int) := by
  intro i hi
  have lo : ((UInt32.ofNat (n * 8)).toNat : Int) = (n * 8 : Nat) % 4294967296 := by rw [UInt32.toNat_ofNat']; omega
  have hi' : ((UInt32.ofNat (n * 8 % 2 ^ 64 / 2 ^ 32)).toNat : Int) = (n * 8 : Nat) / 4294967296 := by rw [UInt32.toNat_ofNat']; omega
  match i, hi with
  | 0, _ => show _ = ((UInt32.ofNat (n * 8)).toUInt8.toNat : Int)
            rw [← byte0, lo]; simp only [Nat.mul_zero, Int.pow_zero]; omega
  | 1, _ => show _ = ((UInt32.ofNat (n * 8) >>> 8).toUInt8.toNat : Int)
            rw [← byte8, lo]; simp only [Nat.reduceMul, Int.reducePow]; omega
  | 2, _ => show _ = ((UInt32.ofNat (n * 8) >>> 16).toUInt8.toNat : Int)
            rw [← byte16, lo]; simp only [Nat.reduceMul, Int.reducePow]; omega
  | 3, _ => show _ = ((UInt32.ofNat (n * 8) >>> 24).toUInt8.toNat : Int)
            rw [← byte24, lo]; simp only [Nat.reduceMul, Int.reducePow]; omega
  | 4, _ => show _ = ((UInt32.ofNat (n * 8 % 2 ^ 64 / 2 ^ 32)).toUInt8.toNat : Int)
            rw [← byte0, hi']; simp only [Nat.reduceMul, Int.reducePow]; omega
  | 5, _ => show _ = ((UInt32.ofNat (n * 8 % 2 ^ 64 / 2 ^ 32) >>> 8).toUInt8.toNat : Int)
            rw [← byte8, hi']; simp only [Nat.reduceMul, Int.reducePow]; omega
  | 6, _ => show _ = ((UInt32.ofNat (n * 8 % 2 ^ 64 / 2 ^ 32) >>> 16).toUInt8.toNat : Int)
            rw [← byte16, hi']; simp only [Nat.reduceMul, Int.reducePow]; omega
  | 7, _ => show _ = ((UInt32.ofNat (n * 8 % 2 ^ 64 / 2 ^ 32) >>> 24).toUInt8.toNat : Int)
            rw [← byte24, hi']; simp only [Nat.reduceMul, Int.reducePow]; omega
  | k + 8, h => omega
set_option maxRecDepth 100000 in
theorem Has.some {w : World} {b : Nat} {cs : List Value} {t : TypeId} (h : Has w b cs t) (j : Nat) (hj : j < cs.length) : ∃ v, w.cell? ⟨b, j, none⟩ = some v := ⟨cs[j], by rw [h.cell, List.getElem?_eq_getElem hj]⟩
structure LRel (w w' : World) (l : List UInt8) : Prop where
  a : Has w' w.heap.size (l.map bv) 5
  g : w.grownBy w' none
set_option maxRecDepth 100000 in
theorem LRel.set {w w' : World} {l : List UInt8} (h : LRel w w' l) (i : Nat) (x : UInt8) (v : Value) (hv : v = bv x) : LRel w (w'.setCell ⟨w.heap.size, i, none⟩ v) (l.set i x) := by
  subst hv
  refine ⟨?_, gr_new h.g (gr_set _ _ _ _) (Nat.le_refl _)⟩
  rw [List.map_set]; exact h.a.setCell i (bv x)

set_option maxRecDepth 100000 in
set_option maxHeartbeats 8000000 in
theorem laid_any (a : Option Addr) (n c : Nat) (t : List UInt8) (w : World) (hl : BytesOf w a n c t) (hn : n ≤ 4294967296) :
    Calls Tryz.prog 145 #[.slice a n c] w fun e w' => ∃ size, size = (t ++ Sha.padOf t.length).length ∧ e = .returned (.slice (some ⟨w.heap.size, 0, none⟩) size size) ∧ Has w' w.heap.size ((t ++ Sha.padOf t.length).map bv) 5 ∧ w.grownBy w' none := by
  have HL : Keep (BytesOf w a n c t) := ⟨hl⟩
  obtain ⟨size, hs⟩ : ∃ s, (n + 72) / 64 * 64 = s := ⟨_, rfl⟩
  have hs1 : n + 9 ≤ size := by omega
  have hs2 : size ≤ 4294967400 := by omega
  have hs' : ((n : Int) + 9 + 63) / 64 * 64 = (size : Int) := by omega
  have hmk := make28 size (by omega)
  have HS : Keep ((n + 72) / 64 * 64 = size) := ⟨hs⟩
  clear hl hs
  go_enter Tryz.func145, Tryz.ntmps145
  go_wp2
  go_loopw [5] (fun i w' => ∃ k : Nat, k ≤ n ∧ i = .int .i64 k ∧ Keep (LRel w w' (cpTo t size k))) (fun i _ => n - (intOf i).toNat)
  case atStart => exact ⟨0, by omega, rfl, ⟨by
    have : cpTo t size 0 = List.replicate size 0 := by simp [cpTo]
    rw [this]; exact ⟨by have := Has.newA w (Array.replicate size (bv 0)) 5; simpa using this, World.grownBy_alloc _ _ _⟩⟩⟩
  case round =>
    obtain ⟨k, hk, rfl, hrel⟩ := hrel
    by_cases hlt : k < n
    · obtain ⟨B, o, rfl, hat⟩ := HL.out.at_ (by omega)
      have htl := HL.out.len
      obtain ⟨x, hx⟩ : ∃ x, t.getD k 0 = x := ⟨_, rfl⟩
      have hc : wr.cell? ⟨B, o + k, none⟩ = some (.int .u8 x.toNat) := by
        rw [← hx]
        refine hrel.out.g.cell (hat k (t.getD k 0) ?_) (by simp)
        simp [List.getD, show k < t.length by omega]
      obtain ⟨v0, hc0⟩ := hrel.out.a.some k (by rw [List.length_map, cpTo_len t size k (by omega) (by omega)]; omega)
      have hf := hrel.out.a.frozen k
      have HX : Keep (t.getD k 0 = x) := ⟨hx⟩
      have hks : (k : Int) < (size : Int) := by omega
      clear hat hx
      go_wp2
      refine ⟨⟨k + 1, by omega, by go_num, ⟨?_⟩⟩, ?_⟩
      · rw [← cpTo_step t size k (by omega) (by omega), HX.out]
        exact hrel.out.set k x _ rfl
      · simp [intOf]; omega
    · have hkn : k = n := by omega
      have H1 : Keep (LRel w (wr.setCell ⟨w.heap.size, n, none⟩ (.int .u8 128)) (base8 t size ++ endTo t.length 0)) := ⟨by
        have h := hrel.out.set n 128 (.int .u8 128) rfl
        have htl := HL.out.len
        rw [hkn, ← htl, base8_start t size (by omega)] at h
        rw [← htl]; exact h⟩
      have htl := HL.out.len
      obtain ⟨v0, hc0⟩ := hrel.out.a.some n (by rw [List.length_map, cpTo_len t size k (by omega) (by omega)]; omega)
      clear htl
      have hf := hrel.out.a.frozen n
      have hns : (n : Int) < (size : Int) := by omega
      clear hrel
      go_wp2
      go_loopw [7] (fun i w' => ∃ k : Nat, k ≤ 8 ∧ i = .int .i64 k ∧ Keep (LRel w w' (base8 t size ++ endTo t.length k))) (fun i _ => 8 - (intOf i).toNat)
      case atStart => exact ⟨0, by omega, rfl, H1⟩
      case round =>
        obtain ⟨i, hi, rfl, hrel⟩ := hrel
        by_cases hli : i < 8
        · have htl := HL.out.len
          obtain ⟨v1, hc1⟩ := hrel.out.a.some (size - 1 - i) (by rw [List.length_map, List.length_append, base8_len t size (by omega), endTo]; simp [Sha.len8_len]; omega)
          have hf1 := hrel.out.a.frozen (size - 1 - i)
          have hidx : ((size : Int) - 1 - (i : Int)).toNat = size - 1 - i := by omega
          clear htl
          go_wp2
          refine ⟨⟨i + 1, by omega, by go_num, ⟨?_⟩⟩, ?_⟩
          · have htl := HL.out.len
            have hb := base8_len t size (by omega)
            have h := hrel.out.set (size - 1 - i) ((Sha.len8 t.length).getD (7 - i) 0) (.int .u8 ((n : Int) * 8 / 2 ^ (8 * i) % 256)) (by rw [htl, len_byte n hn i hli])
            rw [List.set_append_right _ _ (by omega), hb, show size - 1 - i - (size - 8) = 7 - i by omega, end_step _ _ i hli rfl] at h
            exact h
          · simp [intOf]; omega
        · have HE : Keep (Has wr w.heap.size ((t ++ Sha.padOf t.length).map bv) 5 ∧ w.grownBy wr none ∧ size = (t ++ Sha.padOf t.length).length) := ⟨by
            have hi8 : i = 8 := by omega
            have htl := HL.out.len
            have h := hrel.out
            have hsz : size = (t.length + 72) / 64 * 64 := by rw [htl]; exact HS.out.symm
            rw [hi8, base8_pad t size hsz] at h
            refine ⟨h.a, h.g, ?_⟩
            rw [← base8_pad t size hsz, List.length_append, base8_len t size (by omega), endTo]
            simp [Sha.len8_len]; omega⟩
          clear hrel
          go_wp2
          go_ret
          exact ⟨size, HE.out.2.2, rfl, HE.out.1, HE.out.2.1⟩
end Go.Proofs.YtplcicbpkbamnabGreatDoor

