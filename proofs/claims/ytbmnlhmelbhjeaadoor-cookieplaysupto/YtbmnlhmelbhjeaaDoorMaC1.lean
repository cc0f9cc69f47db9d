import Derived.Test.YtbmnlhmelbhjeaaDoorMaA9
namespace Go.Proofs.YtbmnlhmelbhjeaaDoor
open Go Go.RowKit

/-- the reference's plan, as far as it has come -/
structure PRel (blk : List UInt8) (w w' : World) (k : Nat) : Prop where
  z : Has w' w.heap.size ((List.replicate 64 (0 : UInt32)).map wv) 86
  l : Has w' (w.heap.size + 1) ((Sha.schedTo blk k).map wv) 86
  g : w.grownBy w' none
theorem PRel.start (blk : List UInt8) (w : World) (B C : Array Value) (hB : B = ((List.replicate 64 (0 : UInt32)).map wv).toArray) (hC : C = ((List.replicate 64 (0 : UInt32)).map wv).toArray) :
    PRel blk w ((w.alloc (.cells B 86)).alloc (.cells C 86)) 0 := by
  subst hB hC
  refine ⟨(Has.new w _ 86).alloc _, Has.new1 _ _ _ _ (heap1 _ _), ?_⟩
  exact (World.grownBy_alloc _ _ _).trans (World.grownBy_alloc _ _ _)
theorem PRel.lcell {blk : List UInt8} {w w' : World} {k : Nat} (h : PRel blk w w' k) (j : Nat) (hj : j < 64) : w'.cell? ⟨w.heap.size + 1, j, none⟩ = some (.int .u32 ((Sha.schedTo blk k).getD j 0).toNat) :=
  h.l.cellv _ _ (get_map wv _ 0 j (by rw [Sha.schedTo_len]; omega))
theorem PRel.drewN {blk : List UInt8} {w w' : World} {k : Nat} (h : PRel blk w w' k) (n : Nat) : PRel blk w (w'.drewN n) k :=
  ⟨h.z, h.l, h.g.trans (gr_drewN _ _ _)⟩
theorem PRel.step {blk : List UInt8} {w w' : World} {k : Nat} (h : PRel blk w w' k) (v : Value) (hv : v = wv (Sha.wval blk (Sha.schedTo blk k) k)) : PRel blk w (w'.setCell ⟨w.heap.size + 1, k, none⟩ v) (k + 1) := by
  subst hv
  refine ⟨h.z.other _ _ (by simp), ?_, gr_new h.g (gr_set _ _ _ _) (by omega)⟩
  have := h.l.setCell k (wv (Sha.wval blk (Sha.schedTo blk k) k))
  rw [Sha.schedTo, List.map_set]
  exact this

theorem pl_eq (y2 y7 y15 y16 : UInt32) : ((((y16.toNat : Int) + bits .xor .u32 (bits .xor .u32 ((Sha.rotr 7 y15).toNat : Int) ((Sha.rotr 18 y15).toNat : Int)) ((y15.toNat : Int) / (8 : Int))) % (4294967296 : Int) + (y7.toNat : Int)) % (4294967296 : Int) + bits .xor .u32 (bits .xor .u32 ((Sha.rotr 17 y2).toNat : Int) ((Sha.rotr 19 y2).toNat : Int)) ((y2.toNat : Int) / (1024 : Int))) % (4294967296 : Int) = ((Sha.ss1 y2 + y7 + Sha.ss0 y15 + y16).toNat : Int) := by
  rw [shr_gen y15 3 8 (by decide) (by decide), shr_gen y2 10 1024 (by decide) (by decide), b_xor, b_xor, b_xor, b_xor, b_add, b_add, b_add]
  have : y16 + Sha.ss0 y15 + y7 + Sha.ss1 y2 = Sha.ss1 y2 + y7 + Sha.ss0 y15 + y16 := by ac_rfl
  rw [← this]; rfl
theorem turnc (x : UInt32) (k : Nat) (kk : Int) (hkk : kk = (k : Int)) (hk : k = 2 ∨ k = 6 ∨ k = 7 ∨ k = 11 ∨ k = 13 ∨ k = 17 ∨ k = 18 ∨ k = 19 ∨ k = 22 ∨ k = 25) (w : World) :
    Calls Tryd.prog 61 #[.int .u32 x.toNat, .int .i64 kk] w fun e w' => e = .returned (.int .u32 (Sha.rotr (UInt32.ofNat k) x).toNat) ∧ ∃ n, w' = w.drewN n := by
  subst hkk; exact turn_any x k w hk

set_option maxRecDepth 100000 in
set_option maxHeartbeats 8000000 in
theorem plan_any (B o n c at_ : Nat) (l : List UInt8) (w : World) (hl : BytesOf w (some ⟨B, o, none⟩) n c l) (hat : at_ + 64 ≤ n) (hn : n ≤ 4611686018427387904) :
    Calls Tryd.prog 60 #[.slice (some ⟨B, o, none⟩) n c, .int .i64 (at_ : Int)] w fun e w' => e = .returned (.agg ((Sha.sched ((l.drop at_).take 64)).map wv).toArray) ∧ w.grownBy w' none := by
  have HL : Keep (BytesOf w (some ⟨B, o, none⟩) n c l) := ⟨hl⟩
  have hBw : B < w.heap.size := by
    obtain ⟨B', o', h1, h2⟩ := hl.at_ (by omega)
    have e : B = B' ∧ o = o' := by simpa using h1
    obtain ⟨rfl, rfl⟩ := e
    have h0 : 0 < l.length := by rw [hl.len]; omega
    exact World.block_lt_of_cell? w _ (h2 0 l[0] (List.getElem?_eq_getElem h0))
  have HCELL : Keep (∀ w' : World, w.grownBy w' none → ∀ j, j < n → w'.cell? ⟨B, o + j, none⟩ = some (.int .u8 (l.getD j 0).toNat)) := ⟨fun w' hg j hj => by
    obtain ⟨B', o', h1, h2⟩ := hl.at_ (by omega)
    have e : B = B' ∧ o = o' := by simpa using h1
    obtain ⟨rfl, rfl⟩ := e
    have h0 : j < l.length := by rw [hl.len]; omega
    have := hg.cell (h2 j l[j] (List.getElem?_eq_getElem h0)) (by simp)
    rw [this]
    simp [List.getD, h0]⟩
  obtain ⟨blk, hblk⟩ : ∃ b, (l.drop at_).take 64 = b := ⟨_, rfl⟩
  have HBK : Keep ((l.drop at_).take 64 = blk ∧ ∀ j, j < 64 → blk.getD j 0 = l.getD (at_ + j) 0) := ⟨hblk, fun j hj => by
    rw [← hblk]
    simp only [List.getD]
    rw [List.getElem?_take, if_pos hj, List.getElem?_drop]⟩
  clear hl hblk
  go_enter Tryd.func60, Tryd.ntmps60
  go_wp2
  go_loopw [6] (fun i w' => ∃ k : Nat, k ≤ 16 ∧ i = .int .i64 k ∧ Keep (PRel blk w w' k)) (fun i _ => 16 - (intOf i).toNat)
  case atStart => exact ⟨0, by omega, rfl, ⟨PRel.start blk w _ _ rfl rfl⟩⟩
  case round =>
    obtain ⟨k, hk, rfl, hrel⟩ := hrel
    by_cases hlt : k < 16
    · obtain ⟨i, hi⟩ : ∃ i, at_ + 4 * k = i := ⟨_, rfl⟩
      have hi' : (at_ : Int) + 4 * (k : Int) = (i : Int) := by omega
      have c0 := HCELL.out wr hrel.out.g i (by omega)
      have c1 := HCELL.out wr hrel.out.g (i + 1) (by omega)
      have c2 := HCELL.out wr hrel.out.g (i + 2) (by omega)
      have c3 := HCELL.out wr hrel.out.g (i + 3) (by omega)
      have e0 := HBK.out.2 (4 * k) (by omega)
      have e1 := HBK.out.2 (4 * k + 1) (by omega)
      have e2 := HBK.out.2 (4 * k + 2) (by omega)
      have e3 := HBK.out.2 (4 * k + 3) (by omega)
      rw [show at_ + 4 * k = i from hi] at e0
      rw [show at_ + (4 * k + 1) = i + 1 by omega] at e1
      rw [show at_ + (4 * k + 2) = i + 2 by omega] at e2
      rw [show at_ + (4 * k + 3) = i + 3 by omega] at e3
      rw [← e0] at c0
      rw [← e1] at c1
      rw [← e2] at c2
      rw [← e3] at c3
      obtain ⟨b0, h0⟩ : ∃ x, blk.getD (4 * k) 0 = x := ⟨_, rfl⟩
      obtain ⟨b1, h1⟩ : ∃ x, blk.getD (4 * k + 1) 0 = x := ⟨_, rfl⟩
      obtain ⟨b2, h2⟩ : ∃ x, blk.getD (4 * k + 2) 0 = x := ⟨_, rfl⟩
      obtain ⟨b3, h3⟩ : ∃ x, blk.getD (4 * k + 3) 0 = x := ⟨_, rfl⟩
      rw [h0] at c0
      rw [h1] at c1
      rw [h2] at c2
      rw [h3] at c3
      have HV : Keep (Sha.wval blk (Sha.schedTo blk k) k = Sha.word4 b0 b1 b2 b3) := ⟨by
        rw [Sha.wval, if_pos hlt, Sha.wordAt, h0, h1, h2, h3]⟩
      have hc := hrel.out.lcell k (by omega)
      have hf := hrel.out.l.frozen k
      have l0 := b0.toNat_lt
      have l1 := b1.toNat_lt
      have l2 := b2.toNat_lt
      have l3 := b3.toNat_lt
      have hin : (i : Int) + 3 < (n : Int) := by omega
      have hBN : w.heap.size + 1 ≠ B := by omega
      clear e0 e1 e2 e3 h0 h1 h2 h3 hi
      go_wp2
      go_region
      all_goals go_wp2
      refine ⟨⟨k + 1, by omega, by go_num, ⟨(hrel.out.step _ (by rw [HV.out, word_eq])).drewN 1⟩⟩, ?_⟩
      simp [intOf]; omega
    · have hrel0 : Keep (PRel blk w wr 16) := ⟨by
        have hk16 : k = 16 := by omega
        rw [← hk16]; exact hrel.out⟩
      go_wp2_with fail
      clear hrel
      generalize (Value.int .i64 (k : Int)) = K6
      clear hk hlt
      go_loopw [8] (fun i w' => ∃ k : Nat, k ≤ 48 ∧ i = .int .i64 (k + 16) ∧ Keep (PRel blk w w' (k + 16))) (fun i _ => 64 - (intOf i).toNat)
      case atStart => exact ⟨0, by omega, rfl, hrel0⟩
      case round =>
        obtain ⟨k, hk, rfl, hrel2⟩ := hrel
        clear hrel0
        by_cases hlt : k < 48
        · have hc := hrel2.out.lcell (k + 16) (by omega)
          have hf := hrel2.out.l.frozen (k + 16)
          obtain ⟨y2, hy2⟩ : ∃ y, (Sha.schedTo blk (k + 16)).getD (k + 14) 0 = y := ⟨_, rfl⟩
          obtain ⟨y7, hy7⟩ : ∃ y, (Sha.schedTo blk (k + 16)).getD (k + 9) 0 = y := ⟨_, rfl⟩
          obtain ⟨y15, hy15⟩ : ∃ y, (Sha.schedTo blk (k + 16)).getD (k + 1) 0 = y := ⟨_, rfl⟩
          obtain ⟨y16, hy16⟩ : ∃ y, (Sha.schedTo blk (k + 16)).getD k 0 = y := ⟨_, rfl⟩
          have c2 := hrel2.out.lcell (k + 14) (by omega)
          have c7 := hrel2.out.lcell (k + 9) (by omega)
          have c15 := hrel2.out.lcell (k + 1) (by omega)
          have c16 := hrel2.out.lcell k (by omega)
          rw [hy2] at c2
          rw [hy7] at c7
          rw [hy15] at c15
          rw [hy16] at c16
          have HV : Keep (Sha.wval blk (Sha.schedTo blk (k + 16)) (k + 16) = Sha.ss1 y2 + y7 + Sha.ss0 y15 + y16) := ⟨by
            rw [Sha.wval, if_neg (by omega), show k + 16 - 2 = k + 14 by omega, show k + 16 - 7 = k + 9 by omega, show k + 16 - 15 = k + 1 by omega, show k + 16 - 16 = k by omega, hy2, hy7, hy15, hy16]⟩
          clear hy2 hy7 hy15 hy16
          have i0 : (0 : Int) ≤ (k : Int) := by omega
          have i1 : (k : Int) < 48 := by omega
          have x7 : IntKind.i64.wrap ((k : Int) + 16 - 7) = (k : Int) + 9 := by rw [IntWalk.i64_in _ (by omega)]; omega
          have p7 : (0 : Int) ≤ (k : Int) + 9 := by omega
          have q7 : (k : Int) + 9 < 64 := by omega
          have r7 : ((k : Int) + 9).toNat = k + 9 := by omega
          have x16 : IntKind.i64.wrap (k : Int) = (k : Int) := IntWalk.i64_in _ (by omega)
          have q16 : (k : Int) < 64 := by omega
          have p0 : (0 : Int) ≤ (k : Int) + 16 := by omega
          have q0 : (k : Int) + 16 < 64 := by omega
          have r0 : ((k : Int) + 16).toNat = k + 16 := by omega
          go_wp2
          go_quiet (fail)
          go_wp2_with fail
          have H1 : Keep (PRel blk w (wr.drewN nq) (k + 16)) := ⟨hrel2.out.drewN nq⟩
          have C1 : (wr.drewN nq).cell? ⟨w.heap.size + 1, k + 16, none⟩ = some (.int .u32 ((Sha.schedTo blk (k + 16)).getD (k + 16) 0).toNat) ∧ (wr.drewN nq).frozen? ⟨w.heap.size + 1, k + 16, none⟩ = false ∧ (wr.drewN nq).cell? ⟨w.heap.size + 1, k + 9, none⟩ = some (.int .u32 y7.toNat) ∧ (wr.drewN nq).cell? ⟨w.heap.size + 1, k, none⟩ = some (.int .u32 y16.toNat) := ⟨hc, hf, c7, c16⟩
          clear hc hf c7 c16 c2 c15 hrel2
          generalize wr.drewN nq = w1 at H1 C1 ⊢
          obtain ⟨hc, hf, c7, c16⟩ := C1
          go_region_held (fun w' => w'.cell? ⟨w.heap.size + 1, k + 9, none⟩ = some (.int .u32 y7.toNat) ∧ w'.cell? ⟨w.heap.size + 1, k, none⟩ = some (.int .u32 y16.toNat)) (simp [*, World.cell?_setCell_other])
            (first
              | (go_at_call_of 61 (7 : Int); refine (turnc y15 7 7 rfl (by decide) _).mono ?_; rintro e w' ⟨rfl, n1, rfl⟩)
              | (go_at_call_of 61 (18 : Int); refine (turnc y15 18 18 rfl (by decide) _).mono ?_; rintro e w' ⟨rfl, n2, rfl⟩)
              | (go_at_call_of 61 (17 : Int); refine (turnc y2 17 17 rfl (by decide) _).mono ?_; rintro e w' ⟨rfl, n3, rfl⟩)
              | (go_at_call_of 61 (19 : Int); refine (turnc y2 19 19 rfl (by decide) _).mono ?_; rintro e w' ⟨rfl, n4, rfl⟩))
          go_wp2
          refine ⟨⟨k + 1, by omega, by go_num, ⟨by rw [show k + 1 + 16 = k + 16 + 1 by omega]; exact (H1.out.drewN _).step _ (by rw [HV.out, pl_eq])⟩⟩, ?_⟩
          simp [intOf]; omega
        · have hrel3 : Keep (PRel blk w wr 64) := ⟨by
            have hk48 : k + 16 = 64 := by omega
            rw [← hk48]; exact hrel2.out⟩
          clear hrel2
          have hlen := Sha.schedTo_len blk 64
          have hb : Has wr (w.heap.size + 1) ((Sha.sched blk).map wv) 86 := hrel3.out.l
          have hz := hrel3.out.z
          have hg := hrel3.out.g
          clear hrel3
          rw [← Sha.sched] at hlen
          obtain ⟨L, hLq⟩ : ∃ L, Sha.sched blk = L := ⟨_, rfl⟩
          rw [hLq] at hlen hb
          have HQ : Keep (Sha.sched ((l.drop at_).take 64) = L) := ⟨by rw [HBK.out.1]; exact hLq⟩
          clear hLq
          have HB : Keep (Has wr (w.heap.size + 1) (L.map wv) 86) := ⟨hb⟩
          have HZ : Keep (Has wr w.heap.size ((List.replicate 64 (0 : UInt32)).map wv) 86) := ⟨hz⟩
          have HG : Keep (w.grownBy wr none) := ⟨hg⟩
          have HLL : Keep (L.length = 64) := ⟨hlen⟩
          clear hb hz hg hlen
          have HI : Keep ((Tryd.prog.info? 86).map (·.size) = some (L.map wv).length) := ⟨by
            rw [List.length_map, HLL.out]; exact size50⟩
          have HE : Keep (Has (wr.setCells w.heap.size 0 (L.map wv)) w.heap.size (L.map wv) 86 ∧ w.grownBy (wr.setCells w.heap.size 0 (L.map wv)) none) :=
            ⟨HZ.out.setAll _ (by simp [HLL.out]), gr_new HG.out (gr_sets _ _ _ _) (Nat.le_refl _)⟩
          go_wp2_with (first
            | (refine wpList_load_mid rfl 86 _ rfl _ _ rfl _ _ HB.out.range under50 rfl HI.out ?_)
            | (refine wpList_store_mid rfl 86 _ _ rfl _ _ _ rfl rfl (HZ.out.there _ _ (by simp [HLL.out])) HI.out (all_oneCell_toArray (by simp [Value.oneCell'])) ?_))
          refine ret_cell (b := w.heap.size) (cs := L.map wv) (t := 86) rfl rfl ?_ under50 rfl HI.out rfl ⟨by rw [HQ.out], ?_⟩
          · exact HE.out.1
          · exact HE.out.2
end Go.Proofs.YtbmnlhmelbhjeaaDoor
