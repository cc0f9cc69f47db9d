import Derived.Test.YtbmnlhmelbhjeaaDoorMaA2
import Derived.Deep.RegionHeld
namespace Go.Proofs.YtbmnlhmelbhjeaaDoor
open Go Go.RowKit

structure SRel (blk : List UInt8) (w w' : World) (k : Nat) : Prop where
  b : Has w' w.heap.size (blk.map bv) 61
  z : Has w' (w.heap.size + 1) ((List.replicate 64 (0 : UInt32)).map wv) 86
  l : Has w' (w.heap.size + 1 + 1) ((Sha.schedTo blk k).map wv) 86
  g : w.grownBy w' none

theorem heap1 (w : World) (o : Obj) : (w.alloc o).heap.size = w.heap.size + 1 := by simp
theorem heap2 (w : World) (o o' : Obj) : ((w.alloc o).alloc o').heap.size = w.heap.size + 1 + 1 := by simp
theorem heap3 (w : World) (o o' o'' : Obj) : (((w.alloc o).alloc o').alloc o'').heap.size = w.heap.size + 1 + 1 + 1 := by simp
theorem Has.new1 (w : World) (cs : List Value) (t : TypeId) (n : Nat) (h : w.heap.size = n) : Has (w.alloc (.cells cs.toArray t)) n cs t := h ▸ Has.new w cs t

theorem SRel.start (blk : List UInt8) (w : World) (A B C : Array Value) (hA : A = (blk.map bv).toArray) (hB : B = ((List.replicate 64 (0 : UInt32)).map wv).toArray) (hC : C = ((List.replicate 64 (0 : UInt32)).map wv).toArray) :
    SRel blk w (((w.alloc (.cells A 61)).alloc (.cells B 86)).alloc (.cells C 86)) 0 := by
  subst hA hB hC
  refine ⟨(((Has.new w _ 61).alloc _).alloc _), ?_, ?_, ?_⟩
  · exact (Has.new1 _ _ _ _ (heap1 _ _)).alloc _
  · exact (Has.new1 _ _ _ _ (heap2 _ _ _))
  · exact (World.grownBy_alloc _ _ _).trans ((World.grownBy_alloc _ _ _).trans (World.grownBy_alloc _ _ _))

theorem get_map {α : Type} (f : α → Value) (l : List α) (d : α) (j : Nat) (h : j < l.length) : (l.map f)[j]? = some (f (l.getD j d)) := by
  simp [List.getD, h]

theorem SRel.bcell {blk : List UInt8} {w w' : World} {k : Nat} (h : SRel blk w w' k) (hl : blk.length = 64) (j : Nat) (hj : j < 64) : w'.cell? ⟨w.heap.size, j, none⟩ = some (.int .u8 (blk.getD j 0).toNat) :=
  h.b.cellv _ _ (get_map bv blk 0 j (by omega))
theorem SRel.lcell {blk : List UInt8} {w w' : World} {k : Nat} (h : SRel blk w w' k) (j : Nat) (hj : j < 64) : w'.cell? ⟨w.heap.size + 1 + 1, j, none⟩ = some (.int .u32 ((Sha.schedTo blk k).getD j 0).toNat) :=
  h.l.cellv _ _ (get_map wv _ 0 j (by rw [Sha.schedTo_len]; omega))
theorem SRel.drewN {blk : List UInt8} {w w' : World} {k : Nat} (h : SRel blk w w' k) (n : Nat) : SRel blk w (w'.drewN n) k :=
  ⟨h.b, h.z, h.l, h.g.trans (gr_drewN _ _ _)⟩
theorem SRel.step {blk : List UInt8} {w w' : World} {k : Nat} (h : SRel blk w w' k) (v : Value) (hv : v = wv (Sha.wval blk (Sha.schedTo blk k) k)) : SRel blk w (w'.setCell ⟨w.heap.size + 1 + 1, k, none⟩ v) (k + 1) := by
  subst hv
  refine ⟨h.b.other _ _ (by simp <;> omega), h.z.other _ _ (by simp), ?_, gr_new h.g (gr_set _ _ _ _) (by omega)⟩
  have := h.l.setCell k (wv (Sha.wval blk (Sha.schedTo blk k) k))
  rw [Sha.schedTo, List.map_set]
  exact this

theorem add_eq (x y : UInt32) : IntKind.u32.wrap ((x.toNat : Int) + (y.toNat : Int)) = ((x + y).toNat : Int) := by
  rw [← b_add]; rfl
set_option maxRecDepth 100000 in
theorem under41 : Tryd.prog.underlying 61 = some (.array 64 5) := by kernel_rfl
set_option maxRecDepth 100000 in
theorem under50 : Tryd.prog.underlying 86 = some (.array 64 79) := by kernel_rfl
set_option maxRecDepth 100000 in
theorem size50 : (Tryd.prog.info? 86).map (·.size) = some 64 := by kernel_rfl
theorem slice41 (k : IntKind) (b o : Nat) (l : Int) (n : Nat) (hl : l = n) (hn : n < 64) (W : World) :
    (Instr.sliceAt 61 (.pointer (some ⟨b, o, none⟩)) (some (.int k l)) none none).run Tryd.prog W = .ok (.slice (some ⟨b, o + n, none⟩) (64 - n) (64 - n)) W := by
  subst hl
  have e : (⟨b, o, none⟩ : Addr).add n = ⟨b, o + n, none⟩ := Addr.add_mid b o n
  have z : (sizeOf (Tryd.prog.elem 61)).run Tryd.prog W = .ok 1 W := by kernel_rfl
  have l : Tryd.prog.arrayLen 61 = 64 := by kernel_rfl
  rw [run_sliceAt_array_l W 61 _ (by kernel_rfl) k n (by omega) (by rw [l]; omega), z, l]
  simp only [Result.andThen, slicedAt, Int.toNat_natCast, Nat.mul_one, e]
  rw [if_neg (by omega)]

set_option maxRecDepth 100000 in
set_option maxHeartbeats 8000000 in
theorem schedule_any (blk : List UInt8) (A : Array Value) (w : World) (hA : Hid (A = (blk.map bv).toArray)) (hl : blk.length = 64) :
    Calls Tryd.prog 47 #[.agg A] w fun e w' => e = .returned (.agg ((Sha.sched blk).map wv).toArray) ∧ w.grownBy w' none := by
  go_enter Tryd.func47, Tryd.ntmps47
  go_wp2
  go_loopw [6] (fun i w' => ∃ k : Nat, k ≤ 16 ∧ i = .int .i64 k ∧ Hid (SRel blk w w' k)) (fun i _ => 16 - (intOf i).toNat)
  case atStart => exact ⟨0, by omega, rfl, SRel.start blk w _ _ _ hA.out rfl rfl⟩
  case round =>
    obtain ⟨k, hk, rfl, hrel⟩ := hrel
    by_cases hlt : k < 16
    · have hs := slice41 .i64 w.heap.size 0 (4 * (k : Int)) (4 * k) (by omega) (by omega)
      have hc := hrel.out.lcell k (by omega)
      have hf := hrel.out.l.frozen k
      go_wp2_with (go_at_call 52; refine (word_any _ _ _ _ _ _ _ _ _ (by omega) (hrel.out.bcell hl _ (by omega)) (hrel.out.bcell hl _ (by omega)) (hrel.out.bcell hl _ (by omega)) (hrel.out.bcell hl _ (by omega))).mono ?_; rintro e w1 ⟨rfl, n1, rfl⟩)
      go_roundw
      case rel => exact ⟨k + 1, by omega, by go_num, (hrel.out.drewN _).step _ (by rw [Sha.wval, if_pos hlt]; rfl)⟩
      case measure => simp [intOf]; omega
    · have hrel0 : Hid (SRel blk w wr 16) := by
        have hk16 : k = 16 := by omega
        rw [← hk16]; exact hrel
      go_wp2_with fail
      clear hrel
      generalize (Value.int .i64 (k : Int)) = K6
      clear hk hlt
      go_loopw [5] (fun i w' => ∃ k : Nat, k ≤ 48 ∧ i = .int .i64 (k + 16) ∧ Hid (SRel blk w w' (k + 16))) (fun i _ => 64 - (intOf i).toNat)
      case atStart => exact ⟨0, by omega, rfl, hrel0⟩
      case round =>
        obtain ⟨k, hk, rfl, hrel2⟩ := hrel
        clear hrel0
        by_cases hlt : k < 48
        · have hc := hrel2.out.lcell (k + 16) (by omega)
          have hf := hrel2.out.l.frozen (k + 16)
          obtain ⟨y2, hy2⟩ : ∃ y, (Sha.schedTo blk (k + 16)).getD (k + 14) 0 = y := ⟨_, rfl⟩
          obtain ⟨y7, hy7⟩ : ∃ y, (Sha.schedTo blk (k + 16)).getD (k + 9) 0 = y := ⟨_, rfl⟩
          obtain ⟨y15, hy15⟩ : ∃ y, (Sha.schedTo blk (k + 16)).getD (k + 1) 0 = y := ⟨_, rfl⟩
          obtain ⟨y16, hy16⟩ : ∃ y, (Sha.schedTo blk (k + 16)).getD k 0 = y := ⟨_, rfl⟩
          have c2 := hrel2.out.lcell (k + 14) (by omega)
          have c7 := hrel2.out.lcell (k + 9) (by omega)
          have c15 := hrel2.out.lcell (k + 1) (by omega)
          have c16 := hrel2.out.lcell k (by omega)
          rw [hy2] at c2
          rw [hy7] at c7
          rw [hy15] at c15
          rw [hy16] at c16
          have HV : Hid (Sha.wval blk (Sha.schedTo blk (k + 16)) (k + 16) = Sha.ss1 y2 + y7 + Sha.ss0 y15 + y16) := by
            show Sha.wval _ _ _ = _
            rw [Sha.wval, if_neg (by omega), show k + 16 - 2 = k + 14 by omega, show k + 16 - 7 = k + 9 by omega, show k + 16 - 15 = k + 1 by omega, show k + 16 - 16 = k by omega, hy2, hy7, hy15, hy16]
          clear hy2 hy7 hy15 hy16
          have i0 : (0 : Int) ≤ (k : Int) := by omega
          have i1 : (k : Int) < 48 := by omega
          have x2 : IntKind.i64.wrap ((k : Int) + 16 - 2) = (k : Int) + 14 := by rw [IntWalk.i64_in _ (by omega)]; omega
          have p2 : (0 : Int) ≤ (k : Int) + 14 := by omega
          have q2 : (k : Int) + 14 < 64 := by omega
          have r2 : ((k : Int) + 14).toNat = k + 14 := by omega
          have x7 : IntKind.i64.wrap ((k : Int) + 16 - 7) = (k : Int) + 9 := by rw [IntWalk.i64_in _ (by omega)]; omega
          have p7 : (0 : Int) ≤ (k : Int) + 9 := by omega
          have q7 : (k : Int) + 9 < 64 := by omega
          have r7 : ((k : Int) + 9).toNat = k + 9 := by omega
          have x15 : IntKind.i64.wrap ((k : Int) + 16 - 15) = (k : Int) + 1 := by rw [IntWalk.i64_in _ (by omega)]; omega
          have p15 : (0 : Int) ≤ (k : Int) + 1 := by omega
          have q15 : (k : Int) + 1 < 64 := by omega
          have r15 : ((k : Int) + 1).toNat = k + 1 := by omega
          have x16 : IntKind.i64.wrap (k : Int) = (k : Int) := IntWalk.i64_in _ (by omega)
          have p16 : (0 : Int) ≤ (k : Int) := by omega
          have q16 : (k : Int) < 64 := by omega
          have p0 : (0 : Int) ≤ (k : Int) + 16 := by omega
          have q0 : (k : Int) + 16 < 64 := by omega
          have r0 : ((k : Int) + 16).toNat = k + 16 := by omega
          go_wp2_with fail
          go_region_held (fun w' => w'.cell? ⟨w.heap.size + 1 + 1, k + 14, none⟩ = some (.int .u32 y2.toNat) ∧ w'.cell? ⟨w.heap.size + 1 + 1, k + 9, none⟩ = some (.int .u32 y7.toNat) ∧ w'.cell? ⟨w.heap.size + 1 + 1, k + 1, none⟩ = some (.int .u32 y15.toNat) ∧ w'.cell? ⟨w.heap.size + 1 + 1, k, none⟩ = some (.int .u32 y16.toNat)) (simp [*, World.cell?_setCell_other])
            (first | (go_at_call 53; refine (ss1_any _ _).mono ?_; rintro e w' ⟨rfl, rfl⟩) | (go_at_call 54; refine (ss0_any _ _).mono ?_; rintro e w' ⟨rfl, rfl⟩))
          go_wp2
          go_roundw
          case rel => exact ⟨k + 1, by omega, by go_num, by rw [show k + 1 + 16 = k + 16 + 1 by omega]; exact (hrel2.out.step _ (by rw [HV.out, b_add, b_add, b_add])).drewN 1⟩
          case measure => simp [intOf]; omega
        · have hrel3 : Hid (SRel blk w wr 64) := by
            have hk48 : k + 16 = 64 := by omega
            rw [← hk48]; exact hrel2
          clear hrel2
          have hlen := Sha.schedTo_len blk 64
          have hb : Has wr (w.heap.size + 1 + 1) ((Sha.sched blk).map wv) 86 := hrel3.out.l
          have hz := hrel3.out.z
          have hg := hrel3.out.g
          clear hrel3
          rw [← Sha.sched] at hlen
          obtain ⟨L, hLq⟩ : ∃ L, Sha.sched blk = L := ⟨_, rfl⟩
          rw [hLq] at hlen hb
          have HQ : Keep (Sha.sched blk = L) := ⟨hLq⟩
          clear hLq
          have HB : Hid (Has wr (w.heap.size + 1 + 1) (L.map wv) 86) := hb
          have HZ : Hid (Has wr (w.heap.size + 1) ((List.replicate 64 (0 : UInt32)).map wv) 86) := hz
          have HG : Hid (w.grownBy wr none) := hg
          have HL : Hid (L.length = 64) := hlen
          clear hb hz hg hlen
          have HI : Hid ((Tryd.prog.info? 86).map (·.size) = some (L.map wv).length) := by
            show (Tryd.prog.info? 86).map (·.size) = some (L.map wv).length
            rw [List.length_map, HL.out]; exact size50
          have HE : Hid (Has (wr.setCells (w.heap.size + 1) 0 (L.map wv)) (w.heap.size + 1) (L.map wv) 86 ∧ w.grownBy (wr.setCells (w.heap.size + 1) 0 (L.map wv)) none) :=
            ⟨HZ.out.setAll _ (by simp [HL.out]), gr_new HG.out (gr_sets _ _ _ _) (by omega)⟩
          go_wp2_with (first
            | (refine wpList_load_mid rfl 86 _ rfl _ _ rfl _ _ HB.out.range under50 rfl HI.out ?_)
            | (refine wpList_store_mid rfl 86 _ _ rfl _ _ _ rfl rfl (HZ.out.there _ _ (by simp [HL.out])) HI.out (all_oneCell_toArray (by simp [Value.oneCell'])) ?_))
          refine ret_cell (b := w.heap.size + 1) (cs := L.map wv) (t := 86) rfl rfl ?_ under50 rfl HI.out rfl ⟨by rw [HQ.out], ?_⟩
          · exact HE.out.1
          · exact HE.out.2
end Go.Proofs.YtbmnlhmelbhjeaaDoor
