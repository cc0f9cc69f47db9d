import Derived.Test.YtbmnlhmelbhjeaaDoorMaA3
namespace Go.Proofs.YtbmnlhmelbhjeaaDoor
open Go Go.RowKit

def hcs (ws : List UInt32) (blk : List UInt8) (len : Nat) : List Value := ws.map wv ++ blk.map bv ++ [.int .u64 len]
/-- the round constants lie where they lie -/
def Kc (w : World) : Prop := ∀ j, j < 64 → w.cell? ⟨0, j, none⟩ = some (.int .u32 (Sha.ks.getD j 0).toNat)
theorem Kc.lt {w : World} (h : Kc w) : 0 < w.heap.size := World.block_lt_of_cell? w _ (h 0 (by decide))
theorem Kc.kept {w w' : World} {row : Option Nat} (h : Kc w) (hg : w.grownBy w' row) (hne : some 0 ≠ row) : Kc w' := fun j hj => by
  exact hg.cell (h j hj) hne

theorem hcs_word (ws : List UInt32) (blk : List UInt8) (len : Nat) (h8 : ws.length = 8) (j : Nat) (hj : j < 8) : (hcs ws blk len)[j]? = some (wv (ws.getD j 0)) := by
  unfold hcs
  rw [List.append_assoc, List.getElem?_append_left (by simp <;> omega)]
  exact get_map wv ws 0 j (by omega)
theorem hcs_len (ws : List UInt32) (blk : List UInt8) (len : Nat) (h8 : ws.length = 8) (h64 : blk.length = 64) : (hcs ws blk len)[72]? = some (.int .u64 len) := by
  unfold hcs
  rw [List.getElem?_append_right (by simp <;> omega)]
  simp [h8, h64]
theorem hcs_length (ws : List UInt32) (blk : List UInt8) (len : Nat) (h8 : ws.length = 8) (h64 : blk.length = 64) : (hcs ws blk len).length = 73 := by
  simp [hcs, h8, h64]
theorem hcs_setw (ws : List UInt32) (blk : List UInt8) (len : Nat) (h8 : ws.length = 8) (j : Nat) (hj : j < 8) (x : UInt32) : (hcs ws blk len).set j (wv x) = hcs (ws.set j x) blk len := by
  unfold hcs
  rw [List.append_assoc, List.set_append_left _ _ (by simp <;> omega), List.map_set, List.append_assoc]
theorem hcs_setl (ws : List UInt32) (blk : List UInt8) (len n : Nat) (h8 : ws.length = 8) (h64 : blk.length = 64) : (hcs ws blk len).set 72 (.int .u64 n) = hcs ws blk n := by
  unfold hcs
  rw [List.set_append_right _ _ (by simp <;> omega)]
  simp [h8, h64]

set_option maxRecDepth 100000 in
theorem size41 : (Tryd.prog.info? 61).map (·.size) = some 64 := by kernel_rfl

theorem not_eq (e : UInt32) : bits .xor .u32 (if IntKind.u32.signed = true then -1 else IntKind.u32.max) (e.toNat : Int) = ((~~~ e).toNat : Int) := by
  have h : (if IntKind.u32.signed = true then -1 else IntKind.u32.max) = (((4294967295 : UInt32).toNat : Nat) : Int) := by decide
  rw [h, b_xor]
  congr 2
theorem add5 (a b c d e : UInt32) : ((a.toNat : Int) + b.toNat + c.toNat + d.toNat + e.toNat) % (4294967296 : Int) = ((a + b + c + d + e).toNat : Int) := by
  simp only [UInt32.toNat_add]; omega
theorem add2 (a b : UInt32) : ((a.toNat : Int) + b.toNat) % (4294967296 : Int) = ((a + b).toNat : Int) := by
  simp only [UInt32.toNat_add]; omega
theorem x_eq (L : List UInt32) (st : Sha.St) (k : Nat) (kk ll : UInt32) (h1 : Sha.ks.getD k 0 = kk) (h2 : L.getD k 0 = ll) :
    ((st.h.toNat : Int) + (Sha.bs1 st.e).toNat + bits .xor .u32 (bits .and .u32 (st.e.toNat : Int) (st.f.toNat : Int)) (bits .and .u32 (bits .xor .u32 (if IntKind.u32.signed = true then -1 else IntKind.u32.max) (st.e.toNat : Int)) (st.g.toNat : Int)) + kk.toNat + ll.toNat) % (4294967296 : Int) = ((Sha.xval L st k).toNat : Int) := by
  rw [not_eq, b_and, b_and, b_xor, add5, Sha.xval, h1, h2]
theorem y_eq (st : Sha.St) : (((Sha.bs0 st.a).toNat : Int) + bits .xor .u32 (bits .xor .u32 (bits .and .u32 (st.a.toNat : Int) (st.b.toNat : Int)) (bits .and .u32 (st.a.toNat : Int) (st.c.toNat : Int))) (bits .and .u32 (st.b.toNat : Int) (st.c.toNat : Int))) % (4294967296 : Int) = ((Sha.yval st).toNat : Int) := by
  rw [b_and, b_and, b_and, b_xor, b_xor, add2, Sha.yval]
theorem int_eq {k : IntKind} {a b : Int} (h : a = b) : Value.int k a = Value.int k b := by rw [h]

theorem index40 (st : Sha.St) (W : World) : ∀ i : Nat, i < 8 →
    (Instr.index 80 (.agg #[.int .u32 st.a.toNat, .int .u32 st.b.toNat, .int .u32 st.c.toNat, .int .u32 st.d.toNat, .int .u32 st.e.toNat, .int .u32 st.f.toNat, .int .u32 st.g.toNat, .int .u32 st.h.toNat]) (.int .i64 (i : Int))).run Tryd.prog W = .ok (.int .u32 ((Sha.stList st).getD i 0).toNat) W
  | 0, _ => by kernel_rfl
  | 1, _ => by kernel_rfl
  | 2, _ => by kernel_rfl
  | 3, _ => by kernel_rfl
  | 4, _ => by kernel_rfl
  | 5, _ => by kernel_rfl
  | 6, _ => by kernel_rfl
  | 7, _ => by kernel_rfl
  | n + 8, h => by omega

theorem new_row (w w1 : World) (L : List UInt32) (C : Array Value) (hC : C.size = 64) (hL : L.length = 64) (hg : w.grownBy w1 none) (w2 : World) (h2 : (w1.alloc (.cells C 86)).setCells w1.heap.size 0 (L.map wv) = w2) :
    Has w2 w1.heap.size (L.map wv) 86 ∧ w.grownBy w2 none := by
  subst h2
  refine ⟨(Has.newA w1 C 86).setAll _ (by simp [hC, hL]), ?_⟩
  exact gr_new (hg.trans (World.grownBy_alloc _ _ _)) (gr_sets _ _ _ _) hg.size
set_option maxRecDepth 100000 in
set_option maxHeartbeats 8000000 in
theorem mix_any (ws : List UInt32) (blk : List UInt8) (len b : Nat) (w : World) (h8 : ws.length = 8) (h64 : blk.length = 64) (hb : Has w b (hcs ws blk len) 82) (hk : Kc w) :
    Calls Tryd.prog 41 #[.pointer (some ⟨b, 0, none⟩)] w fun e w' => e = .returned (.tuple #[]) ∧ Has w' b (hcs (Sha.mixW ws blk) blk len) 82 ∧ w.grownBy w' (some b) := by
  have HB : Keep (Has w b (hcs ws blk len) 82) := ⟨hb⟩
  have HK : Keep (Kc w) := ⟨hk⟩
  have HL : Keep (blk.length = 64) := ⟨h64⟩
  have HW : Keep (ws.length = 8) := ⟨h8⟩
  clear hb hk h64 h8
  go_enter Tryd.func41, Tryd.ntmps41
  go_wp2_with (first
    | (refine wpList_load_mid rfl 61 _ rfl _ _ rfl _ _ (HB.out.rangeMid 8 (ws.map wv) (blk.map bv) [.int .u64 len] rfl (by simp [HW.out])) under41 rfl (by rw [List.length_map, HL.out]; exact size41) ?_)
    | (go_at_call 47; refine (schedule_any blk _ _ rfl HL.out).mono ?_; rintro e w1 ⟨rfl, hg1⟩; generalize hLq : Sha.sched blk = L; have HQ : Keep (Sha.sched blk = L) := ⟨hLq⟩; clear hLq; have HG1 : Keep (w.grownBy w1 none) := ⟨hg1⟩; clear hg1; have HLL : Keep (L.length = 64) := ⟨by rw [← HQ.out]; exact Sha.schedTo_len blk 64⟩)
    | (refine wpList_store_mid rfl 86 _ _ rfl _ _ _ rfl rfl ((Has.newA w1 _ 86).there 0 _ (by rw [List.size_toArray, List.length_map, HLL.out]; decide)) (by rw [List.size_toArray, List.length_map, HLL.out]; exact size50) (all_oneCell_toArray (by simp [Value.oneCell'])) ?_
       generalize hw2 : World.setCells _ _ _ _ = w2
       have H2 : Keep (Has w2 w1.heap.size (L.map wv) 86 ∧ w.grownBy w2 none) := ⟨new_row w w1 L _ rfl HLL.out HG1.out w2 hw2⟩
       clear hw2))
  have HB2 : Keep (Has w2 b (hcs ws blk len) 82) := ⟨HB.out.kept H2.out.2 (by simp)⟩
  have HK2 : Keep (Kc w2) := ⟨HK.out.kept H2.out.2 (by simp)⟩
  obtain ⟨s, hs⟩ : ∃ s, Sha.stOf ws = s := ⟨_, rfl⟩
  have HS : Keep (Sha.stOf ws = s) := ⟨hs⟩
  have c0 : w2.cell? ⟨b, 0, none⟩ = some (.int .u32 s.a.toNat) := by rw [← hs]; exact HB2.out.cellv _ _ (hcs_word ws blk len HW.out 0 (by decide))
  have c1 : w2.cell? ⟨b, 1, none⟩ = some (.int .u32 s.b.toNat) := by rw [← hs]; exact HB2.out.cellv _ _ (hcs_word ws blk len HW.out 1 (by decide))
  have c2 : w2.cell? ⟨b, 2, none⟩ = some (.int .u32 s.c.toNat) := by rw [← hs]; exact HB2.out.cellv _ _ (hcs_word ws blk len HW.out 2 (by decide))
  have c3 : w2.cell? ⟨b, 3, none⟩ = some (.int .u32 s.d.toNat) := by rw [← hs]; exact HB2.out.cellv _ _ (hcs_word ws blk len HW.out 3 (by decide))
  have c4 : w2.cell? ⟨b, 4, none⟩ = some (.int .u32 s.e.toNat) := by rw [← hs]; exact HB2.out.cellv _ _ (hcs_word ws blk len HW.out 4 (by decide))
  have c5 : w2.cell? ⟨b, 5, none⟩ = some (.int .u32 s.f.toNat) := by rw [← hs]; exact HB2.out.cellv _ _ (hcs_word ws blk len HW.out 5 (by decide))
  have c6 : w2.cell? ⟨b, 6, none⟩ = some (.int .u32 s.g.toNat) := by rw [← hs]; exact HB2.out.cellv _ _ (hcs_word ws blk len HW.out 6 (by decide))
  have c7 : w2.cell? ⟨b, 7, none⟩ = some (.int .u32 s.h.toNat) := by rw [← hs]; exact HB2.out.cellv _ _ (hcs_word ws blk len HW.out 7 (by decide))
  clear hs
  simp only [Act.put]
  go_quiet (fail)
  go_wp2
  go_quiet (fail)
  go_wp2
  go_loopw [3, 4, 5, 6, 7, 8, 9, 10, 61] (fun v3 v4 v5 v6 v7 v8 v9 v10 t w' => ∃ (k : Nat) (st : Sha.St), k ≤ 64 ∧ t = .int .i64 k ∧ Keep (∃ n, w' = w2.drewN n) ∧ Keep (Sha.rndTo L s k = st) ∧ v3 = .int .u32 st.a.toNat ∧ v4 = .int .u32 st.b.toNat ∧ v5 = .int .u32 st.c.toNat ∧ v6 = .int .u32 st.d.toNat ∧ v7 = .int .u32 st.e.toNat ∧ v8 = .int .u32 st.f.toNat ∧ v9 = .int .u32 st.g.toNat ∧ v10 = .int .u32 st.h.toNat) (fun _ _ _ _ _ _ _ _ t _ => 64 - (intOf t).toNat)
  case atStart => exact ⟨0, s, by omega, rfl, ⟨_, World.drewN_drewN _ _ _⟩, ⟨rfl⟩, rfl, rfl, rfl, rfl, rfl, rfl, rfl, rfl⟩
  case round =>
    obtain ⟨k, st, hk, rfl, hwr, hst, rfl, rfl, rfl, rfl, rfl, rfl, rfl, rfl⟩ := hrel
    by_cases hlt : k < 64
    · obtain ⟨kk, hkk⟩ : ∃ x, Sha.ks.getD k 0 = x := ⟨_, rfl⟩
      obtain ⟨ll, hll⟩ : ∃ x, L.getD k 0 = x := ⟨_, rfl⟩
      have d0 : wr.cell? ⟨0, k, none⟩ = some (.int .u32 kk.toNat) := by obtain ⟨n, e⟩ := hwr.out; rw [← hkk, e]; exact HK2.out k hlt
      have d1 : wr.cell? ⟨w1.heap.size, k, none⟩ = some (.int .u32 ll.toNat) := by obtain ⟨n, e⟩ := hwr.out; rw [← hll, e]; exact H2.out.1.cellv _ _ (get_map wv L 0 k (by rw [HLL.out]; omega))
      have HKK : Keep (Sha.ks.getD k 0 = kk) := ⟨hkk⟩
      have HL2 : Keep (L.getD k 0 = ll) := ⟨hll⟩
      clear hkk hll
      go_wp2
      go_quiet ((go_at_call 48; exact Calls.quiet_of_same (bs1_any _ _)))
      go_wp2_with (go_at_call 49; refine (bs0_any _ _).mono ?_; rintro e w' ⟨rfl, rfl⟩)
      have hx := x_eq L st k kk ll HKK.out HL2.out
      have hy := y_eq st
      refine ⟨⟨k + 1, Sha.rnd L st k, by omega, by go_num, ⟨by obtain ⟨n, e⟩ := hwr.out; exact ⟨_, by rw [e, World.drewN_drewN]⟩⟩, ⟨by rw [Sha.rndTo, hst.out]⟩, int_eq ?_, rfl, rfl, rfl, int_eq ?_, rfl, rfl, rfl⟩, ?_⟩
      · rw [hx, hy, add2]; rfl
      · rw [hx, add2]; rfl
      · simp [intOf]; omega
    · have hk64 : k = 64 := by omega
      have HST : Keep (Sha.rndTo L s 64 = st) := ⟨by rw [← hk64]; exact hst.out⟩
      have HR : Keep (Has wr b (hcs ws blk len) 82 ∧ w.grownBy wr (some b)) := ⟨by
        obtain ⟨n, e⟩ := hwr.out
        rw [e]
        exact ⟨HB2.out, (H2.out.2.trans (gr_drewN _ _ _)).but _⟩⟩
      clear hst
      go_wp2
      go_loopw [121] (fun t w' => ∃ i : Nat, i ≤ 8 ∧ t = .int .i64 i ∧ Keep (Has w' b (hcs (Sha.addTo ws (Sha.stList st) i) blk len) 82 ∧ w.grownBy w' (some b))) (fun t _ => 8 - (intOf t).toNat)
      case atStart => exact ⟨0, by omega, rfl, HR⟩
      case round =>
        obtain ⟨i, hi, rfl, hrel2⟩ := hrel
        by_cases hli : i < 8
        · have hx := fun W => index40 st W i hli
          obtain ⟨y, hy⟩ : ∃ y, (Sha.stList st).getD i 0 = y := ⟨_, rfl⟩
          obtain ⟨z, hz⟩ : ∃ z, (Sha.addTo ws (Sha.stList st) i).getD i 0 = z := ⟨_, rfl⟩
          rw [hy] at hx
          have hc : wr.cell? ⟨b, i, none⟩ = some (.int .u32 z.toNat) := by rw [← hz]; exact hrel2.out.1.cellv _ _ (hcs_word _ blk len (by rw [Sha.addTo_len, HW.out]) i hli)
          have hf := hrel2.out.1.frozen i
          have HY : Keep ((Sha.stList st).getD i 0 = y) := ⟨hy⟩
          have HZ : Keep ((Sha.addTo ws (Sha.stList st) i).getD i 0 = z) := ⟨hz⟩
          have hli' : (i : Int) < 8 := by omega
          clear hy hz
          go_wp2
          go_region
          all_goals go_wp2
          refine ⟨⟨i + 1, by omega, by go_num, ⟨?_, ?_⟩⟩, ?_⟩
          · have := hrel2.out.1.setCell i (wv (z + y))
            rw [hcs_setw _ blk len (by rw [Sha.addTo_len, HW.out]) i hli] at this
            rw [add2, Sha.addTo, HZ.out, HY.out]
            exact this
          · exact (hrel2.out.2.trans (gr_set _ _ _ _)).trans (gr_drewN _ 1 _)
          · simp [intOf]; omega
        · have hi8 : i = 8 := by omega
          have HF : Keep (Has wr b (hcs (Sha.mixW ws blk) blk len) 82 ∧ w.grownBy wr (some b)) := ⟨by
            have h := hrel2.out
            rw [hi8] at h
            rw [Sha.mixW, HQ.out, HS.out, HST.out]
            exact h⟩
          go_wp2
          go_end0
          exact ⟨rfl, HF.out⟩
end Go.Proofs.YtbmnlhmelbhjeaaDoor
