import Derived.Test.YtjbkoablleneeaaGreatDoorX0
namespace Go.Proofs.YtjbkoablleneeaaGreatDoor
open Go Go.RowKit

def hcs (ws : List UInt32) (blk : List UInt8) (len : Nat) : List Value := ws.map wv ++ blk.map bv ++ [.int .u64 len]
/-- the round constants lie where they lie -/
def Kc (w : World) : Prop := ∀ j, j < 64 → w.cell? ⟨3, j, none⟩ = some (.int .u32 (Sha.ks.getD j 0).toNat)
set_option maxRecDepth 100000 in
theorem Kc.lt {w : World} (h : Kc w) : 3 < w.heap.size := World.block_lt_of_cell? w _ (h 0 (by decide))
set_option maxRecDepth 100000 in
theorem Kc.kept {w w' : World} {row : Option Nat} (h : Kc w) (hg : w.grownBy w' row) (hne : some 3 ≠ row) : Kc w' := fun j hj => by
  exact hg.cell (h j hj) hne

set_option maxRecDepth 100000 in
theorem hcs_word (ws : List UInt32) (blk : List UInt8) (len : Nat) (h8 : ws.length = 8) (j : Nat) (hj : j < 8) : (hcs ws blk len)[j]? = some (wv (ws.getD j 0)) := by
  unfold hcs
  rw [List.append_assoc, List.getElem?_append_left (by simp <;> omega)]
  exact get_map wv ws 0 j (by omega)
set_option maxRecDepth 100000 in
theorem hcs_len (ws : List UInt32) (blk : List UInt8) (len : Nat) (h8 : ws.length = 8) (h64 : blk.length = 64) : (hcs ws blk len)[72]? = some (.int .u64 len) := by
  unfold hcs
  rw [List.getElem?_append_right (by simp <;> omega)]
  simp [h8, h64]
set_option maxRecDepth 100000 in
theorem hcs_length (ws : List UInt32) (blk : List UInt8) (len : Nat) (h8 : ws.length = 8) (h64 : blk.length = 64) : (hcs ws blk len).length = 73 := by
  simp [hcs, h8, h64]
set_option maxRecDepth 100000 in
theorem hcs_setw (ws : List UInt32) (blk : List UInt8) (len : Nat) (h8 : ws.length = 8) (j : Nat) (hj : j < 8) (x : UInt32) : (hcs ws blk len).set j (wv x) = hcs (ws.set j x) blk len := by
  unfold hcs
  rw [List.append_assoc, List.set_append_left _ _ (by simp <;> omega), List.map_set, List.append_assoc]
set_option maxRecDepth 100000 in
theorem hcs_setl (ws : List UInt32) (blk : List UInt8) (len n : Nat) (h8 : ws.length = 8) (h64 : blk.length = 64) : (hcs ws blk len).set 72 (.int .u64 n) = hcs ws blk n := by
  unfold hcs
  rw [List.set_append_right _ _ (by simp <;> omega)]
  simp [h8, h64]

set_option maxRecDepth 100000 in
theorem size41 : (Tryz.prog.info? 212).map (·.size) = some 64 := by kernel_rfl

set_option maxRecDepth 100000 in
theorem not_eq (e : UInt32) : bits .xor .u32 (if IntKind.u32.signed = true then -1 else IntKind.u32.max) (e.toNat : Int) = ((~~~ e).toNat : Int) := by
  have h : (if IntKind.u32.signed = true then -1 else IntKind.u32.max) = (((4294967295 : UInt32).toNat : Nat) : Int) := by decide
  rw [h, b_xor]
  congr 2
set_option maxRecDepth 100000 in
theorem add5 (a b c d e : UInt32) : ((a.toNat : Int) + b.toNat + c.toNat + d.toNat + e.toNat) % (4294967296 : Int) = ((a + b + c + d + e).toNat : Int) := by
  simp only [UInt32.toNat_add]; omega
set_option maxRecDepth 100000 in
theorem add2 (a b : UInt32) : ((a.toNat : Int) + b.toNat) % (4294967296 : Int) = ((a + b).toNat : Int) := by
  simp only [UInt32.toNat_add]; omega
set_option maxRecDepth 100000 in
theorem x_eq (L : List UInt32) (st : Sha.St) (k : Nat) (kk ll : UInt32) (h1 : Sha.ks.getD k 0 = kk) (h2 : L.getD k 0 = ll) :
    ((st.h.toNat : Int) + (Sha.bs1 st.e).toNat + bits .xor .u32 (bits .and .u32 (st.e.toNat : Int) (st.f.toNat : Int)) (bits .and .u32 (bits .xor .u32 (if IntKind.u32.signed = true then -1 else IntKind.u32.max) (st.e.toNat : Int)) (st.g.toNat : Int)) + kk.toNat + ll.toNat) % (4294967296 : Int) = ((Sha.xval L st k).toNat : Int) := by
  rw [not_eq, b_and, b_and, b_xor, add5, Sha.xval, h1, h2]
set_option maxRecDepth 100000 in
theorem y_eq (st : Sha.St) : (((Sha.bs0 st.a).toNat : Int) + bits .xor .u32 (bits .xor .u32 (bits .and .u32 (st.a.toNat : Int) (st.b.toNat : Int)) (bits .and .u32 (st.a.toNat : Int) (st.c.toNat : Int))) (bits .and .u32 (st.b.toNat : Int) (st.c.toNat : Int))) % (4294967296 : Int) = ((Sha.yval st).toNat : Int) := by
  rw [b_and, b_and, b_and, b_xor, b_xor, add2, Sha.yval]
set_option maxRecDepth 100000 in
theorem int_eq {k : IntKind} {a b : Int} (h : a = b) : Value.int k a = Value.int k b := by rw [h]

set_option maxRecDepth 100000 in
theorem index40 (st : Sha.St) (W : World) : ∀ i : Nat, i < 8 →
    (Instr.index 181 (.agg #[.int .u32 st.a.toNat, .int .u32 st.b.toNat, .int .u32 st.c.toNat, .int .u32 st.d.toNat, .int .u32 st.e.toNat, .int .u32 st.f.toNat, .int .u32 st.g.toNat, .int .u32 st.h.toNat]) (.int .i64 (i : Int))).run Tryz.prog W = .ok (.int .u32 ((Sha.stList st).getD i 0).toNat) W
  | 0, _ => by kernel_rfl
  | 1, _ => by kernel_rfl
  | 2, _ => by kernel_rfl
  | 3, _ => by kernel_rfl
  | 4, _ => by kernel_rfl
  | 5, _ => by kernel_rfl
  | 6, _ => by kernel_rfl
  | 7, _ => by kernel_rfl
  | n + 8, h => by omega

set_option maxRecDepth 100000 in
theorem new_row (w w1 : World) (L : List UInt32) (C : Array Value) (hC : C.size = 64) (hL : L.length = 64) (hg : w.grownBy w1 none) (w2 : World) (h2 : (w1.alloc (.cells C 182)).setCells w1.heap.size 0 (L.map wv) = w2) :
    Has w2 w1.heap.size (L.map wv) 182 ∧ w.grownBy w2 none := by
  subst h2
  refine ⟨(Has.newA w1 C 182).setAll _ (by simp [hC, hL]), ?_⟩
  exact gr_new (hg.trans (World.grownBy_alloc _ _ _)) (gr_sets _ _ _ _) hg.size
set_option maxRecDepth 100000 in
set_option maxHeartbeats 8000000 in
theorem mix_any (ws : List UInt32) (blk : List UInt8) (len b : Nat) (w : World) (h8 : ws.length = 8) (h64 : blk.length = 64) (hb : Has w b (hcs ws blk len) 214) (hk : Kc w) :
    Calls Tryz.prog 133 #[.pointer (some ⟨b, 0, none⟩)] w fun e w' => e = .returned (.tuple #[]) ∧ Has w' b (hcs (Sha.mixW ws blk) blk len) 214 ∧ w.grownBy w' (some b) := by
  have HB : Keep (Has w b (hcs ws blk len) 214) := ⟨hb⟩
  have HK : Keep (Kc w) := ⟨hk⟩
  have HL : Keep (blk.length = 64) := ⟨h64⟩
  have HW : Keep (ws.length = 8) := ⟨h8⟩
  clear hb hk h64 h8
  go_enter Tryz.func133, Tryz.ntmps133
  go_wp2_with (first
    | (refine wpList_load_mid rfl 212 _ rfl _ _ rfl _ _ (HB.out.rangeMid 8 (ws.map wv) (blk.map bv) [.int .u64 len] rfl (by simp [HW.out])) under41 rfl (by rw [List.length_map, HL.out]; exact size41) ?_)
    | (go_at_call 168; refine (schedule_any blk _ _ rfl HL.out).mono ?_; rintro e w1 ⟨rfl, hg1⟩; generalize hLq : Sha.sched blk = L; have HQ : Keep (Sha.sched blk = L) := ⟨hLq⟩; clear hLq; have HG1 : Keep (w.grownBy w1 none) := ⟨hg1⟩; clear hg1; have HLL : Keep (L.length = 64) := ⟨by rw [← HQ.out]; exact Sha.schedTo_len blk 64⟩)
    | (refine wpList_store_mid rfl 182 _ _ rfl _ _ _ rfl rfl ((Has.newA w1 _ 182).there 0 _ (by rw [List.size_toArray, List.length_map, HLL.out]; decide)) (by rw [List.size_toArray, List.length_map, HLL.out]; exact size50) (all_oneCell_toArray (by simp [Value.oneCell'])) ?_
       generalize hw2 : World.setCells _ _ _ _ = w2
       have H2 : Keep (Has w2 w1.heap.size (L.map wv) 182 ∧ w.grownBy w2 none) := ⟨new_row w w1 L _ rfl HLL.out HG1.out w2 hw2⟩
       clear hw2))
  have HB2 : Keep (Has w2 b (hcs ws blk len) 214) := ⟨HB.out.kept H2.out.2 (by simp)⟩
  have HK2 : Keep (Kc w2) := ⟨HK.out.kept H2.out.2 (by simp)⟩
  obtain ⟨s, hs⟩ : ∃ s, Sha.stOf ws = s := ⟨_, rfl⟩
  have HS : Keep (Sha.stOf ws = s) := ⟨hs⟩
  have c0 : w2.cell? ⟨b, 0, none⟩ = some (.int .u32 s.a.toNat) := by rw [← hs]; exact HB2.out.cellv _ _ (hcs_word ws blk len HW.out 0 (by decide))
  have c1 : w2.cell? ⟨b, 1, none⟩ = some (.int .u32 s.b.toNat) := by rw [← hs]; exact HB2.out.cellv _ _ (hcs_word ws blk len HW.out 1 (by decide))
  have c2 : w2.cell? ⟨b, 2, none⟩ = some (.int .u32 s.c.toNat) := by rw [← hs]; exact HB2.out.cellv _ _ (hcs_word ws blk len HW.out 2 (by decide))
  have c3 : w2.cell? ⟨b, 3, none⟩ = some (.int .u32 s.d.toNat) := by rw [← hs]; exact HB2.out.cellv _ _ (hcs_word ws blk len HW.out 3 (by decide))
  have c4 : w2.cell? ⟨b, 4, none⟩ = some (.int .u32 s.e.toNat) := by rw [← hs]; exact HB2.out.cellv _ _ (hcs_word ws blk len HW.out 4 (by decide))
  have c5 : w2.cell? ⟨b, 5, none⟩ = some (.int .u32 s.f.toNat) := by rw [← hs]; exact HB2.out.cellv _ _ (hcs_word ws blk len HW.out 5 (by decide))
  have c6 : w2.cell? ⟨b, 6, none⟩ = some (.int .u32 s.g.toNat) := by rw [← hs]; exact HB2.out.cellv _ _ (hcs_word ws blk len HW.out 6 (by decide))
  have c7 : w2.cell? ⟨b, 7, none⟩ = some (.int .u32 s.h.toNat) := by rw [← hs]; exact HB2.out.cellv _ _ (hcs_word ws blk len HW.out 7 (by decide))
  clear hs
  simp only [Act.put]
  go_quiet (fail)
  go_wp2
  go_quiet (fail)
  go_wp2
  go_loopw [3, 4, 5, 6, 7, 8, 9, 10, 61] (fun v3 v4 v5 v6 v7 v8 v9 v10 t w' => ∃ (k : Nat) (st : Sha.St), k ≤ 64 ∧ t = .int .i64 k ∧ Keep (∃ n, w' = w2.drewN n) ∧ Keep (Sha.rndTo L s k = st) ∧ v3 = .int .u32 st.a.toNat ∧ v4 = .int .u32 st.b.toNat ∧ v5 = .int .u32 st.c.toNat ∧ v6 = .int .u32 st.d.toNat ∧ v7 = .int .u32 st.e.toNat ∧ v8 = .int .u32 st.f.toNat ∧ v9 = .int .u32 st.g.toNat ∧ v10 = .int .u32 st.h.toNat) (fun _ _ _ _ _ _ _ _ t _ => 64 - (intOf t).toNat)
  case atStart => exact ⟨0, s, by omega, rfl, ⟨_, World.drewN_drewN _ _ _⟩, ⟨rfl⟩, rfl, rfl, rfl, rfl, rfl, rfl, rfl, rfl⟩
  case round =>
    obtain ⟨k, st, hk, rfl, hwr, hst, rfl, rfl, rfl, rfl, rfl, rfl, rfl, rfl⟩ := hrel
    by_cases hlt : k < 64
    · obtain ⟨kk, hkk⟩ : ∃ x, Sha.ks.getD k 0 = x := ⟨_, rfl⟩
      obtain ⟨ll, hll⟩ : ∃ x, L.getD k 0 = x := ⟨_, rfl⟩
      have d0 : wr.cell? ⟨3, k, none⟩ = some (.int .u32 kk.toNat) := by obtain ⟨n, e⟩ := hwr.out; rw [← hkk, e]; exact HK2.out k hlt
      have d1 : wr.cell? ⟨w1.heap.size, k, none⟩ = some (.int .u32 ll.toNat) := by obtain ⟨n, e⟩ := hwr.out; rw [← hll, e]; exact H2.out.1.cellv _ _ (get_map wv L 0 k (by rw [HLL.out]; omega))
      have HKK : Keep (Sha.ks.getD k 0 = kk) := ⟨hkk⟩
      have HL2 : Keep (L.getD k 0 = ll) := ⟨hll⟩
      clear hkk hll
      go_wp2
      go_quiet ((go_at_call 169; exact Calls.quiet_of_same (bs1_any _ _)))
      go_wp2_with (go_at_call 170; refine (bs0_any _ _).mono ?_; rintro e w' ⟨rfl, rfl⟩)
      have hx := x_eq L st k kk ll HKK.out HL2.out
      have hy := y_eq st
      refine ⟨⟨k + 1, Sha.rnd L st k, by omega, by go_num, ⟨by obtain ⟨n, e⟩ := hwr.out; exact ⟨_, by rw [e, World.drewN_drewN]⟩⟩, ⟨by rw [Sha.rndTo, hst.out]⟩, int_eq ?_, rfl, rfl, rfl, int_eq ?_, rfl, rfl, rfl⟩, ?_⟩
      · rw [hx, hy, add2]; rfl
      · rw [hx, add2]; rfl
      · simp [intOf]; omega
    · have hk64 : k = 64 := by omega
      have HST : Keep (Sha.rndTo L s 64 = st) := ⟨by rw [← hk64]; exact hst.out⟩
      have HR : Keep (Has wr b (hcs ws blk len) 214 ∧ w.grownBy wr (some b)) := ⟨by
        obtain ⟨n, e⟩ := hwr.out
        rw [e]
        exact ⟨HB2.out, (H2.out.2.trans (gr_drewN _ _ _)).but _⟩⟩
      clear hst
      go_wp2
      go_loopw [121] (fun t w' => ∃ i : Nat, i ≤ 8 ∧ t = .int .i64 i ∧ Keep (Has w' b (hcs (Sha.addTo ws (Sha.stList st) i) blk len) 214 ∧ w.grownBy w' (some b))) (fun t _ => 8 - (intOf t).toNat)
      case atStart => exact ⟨0, by omega, rfl, HR⟩
      case round =>
        obtain ⟨i, hi, rfl, hrel2⟩ := hrel
        by_cases hli : i < 8
        · have hx := fun W => index40 st W i hli
          obtain ⟨y, hy⟩ : ∃ y, (Sha.stList st).getD i 0 = y := ⟨_, rfl⟩
          obtain ⟨z, hz⟩ : ∃ z, (Sha.addTo ws (Sha.stList st) i).getD i 0 = z := ⟨_, rfl⟩
          rw [hy] at hx
          have hc : wr.cell? ⟨b, i, none⟩ = some (.int .u32 z.toNat) := by rw [← hz]; exact hrel2.out.1.cellv _ _ (hcs_word _ blk len (by rw [Sha.addTo_len, HW.out]) i hli)
          have hf := hrel2.out.1.frozen i
          have HY : Keep ((Sha.stList st).getD i 0 = y) := ⟨hy⟩
          have HZ : Keep ((Sha.addTo ws (Sha.stList st) i).getD i 0 = z) := ⟨hz⟩
          have hli' : (i : Int) < 8 := by omega
          clear hy hz
          go_wp2
          go_region
          all_goals go_wp2
          refine ⟨⟨i + 1, by omega, by go_num, ⟨?_, ?_⟩⟩, ?_⟩
          · have := hrel2.out.1.setCell i (wv (z + y))
            rw [hcs_setw _ blk len (by rw [Sha.addTo_len, HW.out]) i hli] at this
            rw [add2, Sha.addTo, HZ.out, HY.out]
            exact this
          · exact (hrel2.out.2.trans (gr_set _ _ _ _)).trans (gr_drewN _ 1 _)
          · simp [intOf]; omega
        · have hi8 : i = 8 := by omega
          have HF : Keep (Has wr b (hcs (Sha.mixW ws blk) blk len) 214 ∧ w.grownBy wr (some b)) := ⟨by
            have h := hrel2.out
            rw [hi8] at h
            rw [Sha.mixW, HQ.out, HS.out, HST.out]
            exact h⟩
          go_wp2
          go_end0
          exact ⟨rfl, HF.out⟩
end Go.Proofs.YtjbkoablleneeaaGreatDoor

/- The plain mathematics of a sum that goes on. -/
namespace Go.Proofs.YtjbkoablleneeaaGreatDoor
namespace Sha

/-- what the words and the block say of the text T that was written -/
def HP (T : List UInt8) (ws : List UInt32) (blk : List UInt8) : Prop :=
  ws = fold iv T ∧ blk.length = 64 ∧ blk.take (T.length % 64) = T.drop (64 * (T.length / 64))

def padW (ws : List UInt32) (tail : List UInt8) (len : Nat) : List UInt32 :=
  if tail.length < 56 then mixW ws (tail ++ 128 :: List.replicate (55 - tail.length) 0 ++ len8 len)
  else mixW (mixW ws (tail ++ 128 :: List.replicate (63 - tail.length) 0)) (List.replicate 56 0 ++ len8 len)

set_option maxRecDepth 100000 in
theorem fold_split (ws : List UInt32) (T U : List UInt8) : fold ws (T ++ U) = fold (fold ws T) (T.drop (64 * (T.length / 64)) ++ U) := by
  have e : T = T.take (64 * (T.length / 64)) ++ T.drop (64 * (T.length / 64)) := (List.take_append_drop _ _).symm
  have l : (T.take (64 * (T.length / 64))).length = 64 * (T.length / 64) := by rw [List.length_take]; omega
  have d : (T.drop (64 * (T.length / 64))).length < 64 := by rw [List.length_drop]; omega
  have f1 : fold ws T = foldN (T.length / 64) ws (T.take (64 * (T.length / 64))) := by
    have := foldN_append _ ws _ (T.drop (64 * (T.length / 64))) l
    rw [← e, fold_short _ _ d] at this
    exact this
  rw [f1, ← foldN_append _ ws _ _ l, ← List.append_assoc, ← e]

set_option maxRecDepth 100000 in
theorem fold_one (ws : List UInt32) (b : List UInt8) (h : b.length = 64) : fold ws b = mixW ws b := by
  have := fold_block ws b [] h
  rwa [List.append_nil, fold_short _ [] (by simp)] at this

set_option maxRecDepth 100000 in
theorem w4_len (x : UInt32) : (w4 x).length = 4 := rfl
set_option maxRecDepth 100000 in
theorem len8_len (n : Nat) : (len8 n).length = 8 := rfl

set_option maxRecDepth 100000 in
theorem HP.start : HP [] iv (List.replicate 64 0) := ⟨(fold_short _ _ (by simp)).symm, by simp, by simp⟩

set_option maxRecDepth 100000 in
theorem drop_len (T : List UInt8) : (T.drop (64 * (T.length / 64))).length = T.length % 64 := by rw [List.length_drop]; omega

set_option maxRecDepth 100000 in
theorem HP.part {T : List UInt8} {ws : List UInt32} {blk : List UInt8} (h : HP T ws blk) (q : List UInt8) (hq : T.length % 64 + q.length < 64) :
    HP (T ++ q) ws (blk.take (T.length % 64) ++ q ++ blk.drop (T.length % 64 + q.length)) := by
  obtain ⟨h1, h2, h3⟩ := h
  have e1 : (T ++ q).length % 64 = T.length % 64 + q.length := by rw [List.length_append]; omega
  have e2 : (T ++ q).length / 64 = T.length / 64 := by rw [List.length_append]; omega
  refine ⟨?_, ?_, ?_⟩
  · rw [fold_split, ← h1, fold_short]
    rw [List.length_append, drop_len]; omega
  · simp only [List.length_append, List.length_take, List.length_drop, h2]; omega
  · rw [e1, e2, h3, List.take_append_of_le_length (by simp only [List.length_append, drop_len]; omega), List.take_of_length_le (by simp only [List.length_append, drop_len]; omega),
      List.drop_append_of_le_length (by omega)]

set_option maxRecDepth 100000 in
theorem HP.full {T : List UInt8} {ws : List UInt32} {blk : List UInt8} (h : HP T ws blk) (q : List UInt8) (hq : T.length % 64 + q.length = 64) :
    HP (T ++ q) (mixW ws (blk.take (T.length % 64) ++ q ++ blk.drop (T.length % 64 + q.length))) (blk.take (T.length % 64) ++ q ++ blk.drop (T.length % 64 + q.length)) := by
  obtain ⟨h1, h2, h3⟩ := h
  have e1 : (T ++ q).length % 64 = 0 := by rw [List.length_append]; omega
  have e2 : 64 * ((T ++ q).length / 64) = (T ++ q).length := by omega
  refine ⟨?_, ?_, ?_⟩
  · rw [fold_split, ← h1, fold_one _ _ (by rw [List.length_append, drop_len]; exact hq), h3, show blk.drop (T.length % 64 + q.length) = [] from List.drop_of_length_le (by omega), List.append_nil]
  · simp only [List.length_append, List.length_take, List.length_drop, h2]; omega
  · rw [e1, e2, List.drop_length, List.take_zero]

set_option maxRecDepth 100000 in
theorem HP.pad {T : List UInt8} {ws : List UInt32} {blk : List UInt8} (h : HP T ws blk) : padW ws (blk.take (T.length % 64)) T.length = fold iv (T ++ padOf T.length) := by
  obtain ⟨h1, h2, h3⟩ := h
  have hl := drop_len T
  rw [fold_split, ← h1, padW, h3, padOf]
  generalize hd : T.drop (64 * (T.length / 64)) = tail at *
  rw [hl]
  by_cases hc : T.length % 64 < 56
  · rw [if_pos hc, if_pos hc]
    have e : (tail ++ 128 :: List.replicate (55 - T.length % 64) 0 ++ len8 T.length).length = 64 := by
      simp only [List.length_append, List.length_cons, List.length_replicate, len8_len]; omega
    rw [← fold_one _ _ e]
    simp
  · rw [if_neg hc, if_neg hc]
    have e1 : (tail ++ 128 :: List.replicate (63 - T.length % 64) 0).length = 64 := by
      simp only [List.length_append, List.length_cons, List.length_replicate]; omega
    have e2 : (List.replicate 56 (0 : UInt8) ++ len8 T.length).length = 64 := by
      simp only [List.length_append, List.length_replicate, len8_len]
    rw [← fold_one _ _ e2, ← fold_block _ _ _ e1]
    have e3 : List.replicate (119 - T.length % 64) (0 : UInt8) = List.replicate (63 - T.length % 64) 0 ++ List.replicate 56 0 := by
      rw [List.replicate_append_replicate]; congr 1; omega
    rw [e3]
    simp
end Sha
end Go.Proofs.YtjbkoablleneeaaGreatDoor

namespace Go.Proofs.YtjbkoablleneeaaGreatDoor
open Go Go.RowKit

/-- clear of a slice whose run is known, at the list of a plain region's operations -/
theorem wpList_clear_run {P : Program} (w : World) {ops : Array Oper} {rest : List Oper} {o : Oper} {a : Act} {Q : Exit → Act → World → Prop} (hgd : o.guard = none) (d : Operand) (t : TypeId)
    (ho : o.op = .call { callee := .builtin .clear, args := #[d], argTypes := #[t] }) (v : Value) (hd : a.eval d = v) {v' : Value} {w' : World}
    (hr : (Builtin.clear_ #[t] o.type #[v]).run P w = .ok v' w') (h : wpList P ops Q rest (a.put o.dst v') w') : wpList P ops Q (o :: rest) a w :=
  wpList_plain hgd fun _ hK => by
    unfold Oper.wp execOp
    simp only [ho, resolve, invoke, builtin, Sem.run_bind, Sem.run_pure, Result.andThen_ok, List.map_toArray, List.map_cons, List.map_nil, hd, hr]
    exact hK _ _ h

set_option maxRecDepth 100000 in
theorem under28 : Tryz.prog.underlying 36 = some (.slice 5) := by kernel_rfl
set_option maxRecDepth 100000 in
theorem clear28 (W : World) (b o n : Nat) (cs : List Value) (t ty : TypeId) (hb : Has W b cs t) (ho : o + n ≤ cs.length) :
    (Builtin.clear_ #[36] ty #[.slice (some ⟨b, o, none⟩) n n]).run Tryz.prog W = .ok (.tuple #[]) (W.setCells b o (List.replicate n (.int .u8 0))) := by
  by_cases hn : n = 0
  · subst hn
    simp [Builtin.clear_, run_underlying under28, World.setCells]
  · exact Lib.run_clear_slice W 36 5 ty (.int .u8 0) under28 (fun _ => by kernel_rfl) rfl rfl b o n n (by omega) (fun j hj => (hb.there o n ho j hj).1) (fun j hj => (hb.there o n ho j hj).2)
set_option maxRecDepth 100000 in
theorem slice41e (k : IntKind) (b : Nat) (n : Nat) (hn : n ≤ 64) : ∃ A : Addr, (∀ W : World, (Instr.sliceAt 212 (.pointer (some ⟨b, 8, none⟩)) (some (.int k (n : Int))) none none).run Tryz.prog W = .ok (.slice (some A) (64 - n) (64 - n)) W) ∧
    ∀ (W : World) (cs : List Value) (ty : TypeId), Has W b cs 214 → cs.length = 73 → (Builtin.clear_ #[36] ty #[.slice (some A) (64 - n) (64 - n)]).run Tryz.prog W = .ok (.tuple #[]) (W.setCells b (8 + n) (List.replicate (64 - n) (.int .u8 0))) := by
  by_cases h : n < 64
  · exact ⟨⟨b, 8 + n, none⟩, slice41 k b 8 n n rfl h, fun W cs ty hb hl => clear28 W b (8 + n) (64 - n) cs 214 ty hb (by omega)⟩
  · have : n = 64 := by omega
    subst this
    refine ⟨⟨b, 8, none⟩, fun W => ?_, fun W cs ty hb hl => ?_⟩
    · have z : (sizeOf (Tryz.prog.elem 212)).run Tryz.prog W = .ok 1 W := by kernel_rfl
      have l : Tryz.prog.arrayLen 212 = 64 := by kernel_rfl
      rw [run_sliceAt_array_l W 212 _ (by kernel_rfl) k (64 : Nat) (by omega) (by rw [l]; omega), z, l]
      simp only [Result.andThen, slicedAt]
      rfl
    · simp [Builtin.clear_, run_underlying under28, World.setCells]

set_option maxRecDepth 100000 in
theorem hcs_over (ws : List UInt32) (blk q : List UInt8) (len o : Nat) (h8 : ws.length = 8) (h64 : blk.length = 64) (ho : o + q.length ≤ 64) :
    over (hcs ws blk len) (8 + o) (q.map bv) = hcs ws (blk.take o ++ q ++ blk.drop (o + q.length)) len := by
  rw [over_eq _ _ _ (by rw [hcs_length _ _ _ h8 h64, List.length_map]; omega)]
  unfold hcs
  have e1 : (ws.map wv ++ blk.map bv ++ [Value.int .u64 len]).take (8 + o) = ws.map wv ++ (blk.take o).map bv := by
    rw [List.append_assoc, List.take_append, List.take_of_length_le (by simp <;> omega), List.take_append_of_le_length (by simp [h8]; omega)]
    simp [h8]
  have e2 : (ws.map wv ++ blk.map bv ++ [Value.int .u64 len]).drop (8 + o + (q.map bv).length) = (blk.drop (o + q.length)).map bv ++ [Value.int .u64 len] := by
    rw [List.append_assoc, List.drop_append, List.drop_of_length_le (by simp <;> omega), List.drop_append_of_le_length (by simp [h8]; omega)]
    simp [h8]
    congr 1
    omega
  rw [e1, e2]
  simp
set_option maxRecDepth 100000 in
theorem set_take (blk : List UInt8) (r : Nat) (x : UInt8) (h64 : blk.length = 64) (hr : r < 64) : blk.set r x = blk.take r ++ [x] ++ blk.drop (r + 1) := by
  rw [List.set_eq_take_append_cons_drop, if_pos (by omega)]; simp
/-- the block behind the byte 128 and the zeros -/
theorem pad_blk (blk : List UInt8) (r : Nat) (h64 : blk.length = 64) (hr : r < 64) :
    (blk.take r ++ [128] ++ blk.drop (r + 1)).take (r + 1) ++ List.replicate (64 - (r + 1)) 0 ++ (blk.take r ++ [128] ++ blk.drop (r + 1)).drop (r + 1 + (List.replicate (64 - (r + 1)) (0 : UInt8)).length) = blk.take r ++ 128 :: List.replicate (63 - r) 0 := by
  have l : (blk.take r ++ [(128 : UInt8)]).length = r + 1 := by simp; omega
  have l2 : (blk.take r ++ [128] ++ blk.drop (r + 1)).length = 64 := by simp; omega
  rw [List.take_append_of_le_length (by omega), List.take_of_length_le (by omega), List.drop_of_length_le (by rw [l2, List.length_replicate]; omega), List.append_nil, show 64 - (r + 1) = 63 - r by omega]
  simp
end Go.Proofs.YtjbkoablleneeaaGreatDoor

namespace Go.Proofs.YtjbkoablleneeaaGreatDoor
open Go Go.RowKit

/-- the state of a hash in the middle of a walk -/
structure HS (w0 w : World) (b : Nat) (ws : List UInt32) (blk : List UInt8) (len : Nat) : Prop where
  h8 : ws.length = 8
  h64 : blk.length = 64
  has : Has w b (hcs ws blk len) 214
  gr : w0.grownBy w (some b)
  kc : Kc w

set_option maxRecDepth 100000 in
theorem HS.setByte {w0 w : World} {b : Nat} {ws : List UInt32} {blk : List UInt8} {len : Nat} (h : HS w0 w b ws blk len) (hb0 : 3 ≠ b) (r : Nat) (hr : r < 64) (x : UInt8) (w' : World) (hw : w.setCell ⟨b, 8 + r, none⟩ (bv x) = w') :
    HS w0 w' b ws (blk.take r ++ [x] ++ blk.drop (r + 1)) len := by
  subst hw
  refine ⟨h.h8, ?_, ?_, h.gr.trans (gr_set _ _ _ _), h.kc.kept (gr_set _ _ _ _) (by simpa using hb0)⟩
  · have := h.h64; simp; omega
  · have := h.has.setCells [bv x] (8 + r)
    rw [show [bv x] = [x].map bv from rfl, hcs_over _ _ [x] _ r h.h8 h.h64 (by simp <;> omega)] at this
    exact this
set_option maxRecDepth 100000 in
theorem HS.sets {w0 w : World} {b : Nat} {ws : List UInt32} {blk : List UInt8} {len : Nat} (h : HS w0 w b ws blk len) (hb0 : 3 ≠ b) (o : Nat) (q : List UInt8) (ho : o + q.length ≤ 64) (w' : World) (hw : w.setCells b (8 + o) (q.map bv) = w') :
    HS w0 w' b ws (blk.take o ++ q ++ blk.drop (o + q.length)) len := by
  subst hw
  refine ⟨h.h8, ?_, ?_, h.gr.trans (gr_sets _ _ _ _), h.kc.kept (gr_sets _ _ _ _) (by simpa using hb0)⟩
  · have := h.h64; simp; omega
  · have := h.has.setCells (q.map bv) (8 + o)
    rw [hcs_over _ _ q _ o h.h8 h.h64 ho] at this
    exact this
set_option maxRecDepth 100000 in
theorem HS.mixed {w0 w w' : World} {b : Nat} {ws : List UInt32} {blk : List UInt8} {len : Nat} (h : HS w0 w b ws blk len) (hb0 : 3 ≠ b) (h1 : Has w' b (hcs (Sha.mixW ws blk) blk len) 214) (h2 : w.grownBy w' (some b)) : HS w0 w' b (Sha.mixW ws blk) blk len :=
  ⟨by rw [Sha.mixW_len]; exact h.h8, h.h64, h1, h.gr.trans h2, h.kc.kept h2 (by simpa using hb0)⟩
set_option maxRecDepth 100000 in
theorem HS.len {w0 w : World} {b : Nat} {ws : List UInt32} {blk : List UInt8} {len : Nat} (h : HS w0 w b ws blk len) : w.cell? ⟨b, 72, none⟩ = some (.int .u64 len) := h.has.cellv _ _ (hcs_len _ _ _ h.h8 h.h64)
set_option maxRecDepth 100000 in
theorem HS.there {w0 w : World} {b : Nat} {ws : List UInt32} {blk : List UInt8} {len : Nat} (h : HS w0 w b ws blk len) (j : Nat) (hj : j < 73) : ∃ v, w.cell? ⟨b, j, none⟩ = some v := ⟨_, by rw [h.has.cell, List.getElem?_eq_getElem (by rw [hcs_length _ _ _ h.h8 h.h64]; exact hj)]⟩

set_option maxRecDepth 100000 in
theorem u64w (x : Int) : IntKind.u64.wrap x = x % 18446744073709551616 := by
  simp [IntKind.wrap, IntKind.bits, IntKind.signed]
set_option maxRecDepth 100000 in
theorem size_hi (len : Nat) : IntKind.u64.wrap ((len : Int) * 8) / 4294967296 % 4294967296 = ((UInt32.ofNat (len * 8 % 2 ^ 64 / 2 ^ 32)).toNat : Int) := by
  rw [u64w, UInt32.toNat_ofNat']
  omega
set_option maxRecDepth 100000 in
theorem size_lo (len : Nat) : IntKind.u64.wrap ((len : Int) * 8) % 4294967296 = ((UInt32.ofNat (len * 8)).toNat : Int) := by
  rw [u64w, UInt32.toNat_ofNat']
  omega
/-- the block with its length laid, and the two words of it -/
theorem HS.sized {w0 w : World} {b : Nat} {ws : List UInt32} {blk : List UInt8} {len : Nat} (h : HS w0 w b ws blk len) (hb0 : 3 ≠ b) (hi lo : UInt32) (hhi : UInt32.ofNat (len * 8 % 2 ^ 64 / 2 ^ 32) = hi) (hlo : UInt32.ofNat (len * 8) = lo) (w' : World)
    (hw : (w.setCells b 64 ((Sha.w4 hi).map bv)).setCells b 68 ((Sha.w4 lo).map bv) = w') : HS w0 w' b ws (blk.take 56 ++ Sha.len8 len) len := by
  have h1 := h.sets hb0 56 (Sha.w4 hi) (by rw [Sha.w4_len]; decide) _ rfl
  have h2 := h1.sets hb0 60 (Sha.w4 lo) (by rw [Sha.w4_len]; decide) _ rfl
  have e : (blk.take 56 ++ Sha.w4 hi ++ blk.drop (56 + (Sha.w4 hi).length)).take 60 ++ Sha.w4 lo ++ (blk.take 56 ++ Sha.w4 hi ++ blk.drop (56 + (Sha.w4 hi).length)).drop (60 + (Sha.w4 lo).length) = blk.take 56 ++ Sha.len8 len := by
    have l : (blk.take 56 ++ Sha.w4 hi).length = 60 := by simp [Sha.w4_len, h.h64]
    have l2 : (blk.take 56 ++ Sha.w4 hi ++ blk.drop (56 + (Sha.w4 hi).length)).length = 64 := by simp [Sha.w4_len, h.h64]
    rw [List.take_append_of_le_length (by omega), List.take_of_length_le (by omega), List.drop_of_length_le (by rw [l2, Sha.w4_len]; omega), List.append_nil, Sha.len8, hhi, hlo, List.append_assoc]
  rw [e] at h2
  rw [← hw]
  exact h2

/-- behind the byte 128 and the zeros -/
theorem HS.cleared {w0 w : World} {b : Nat} {ws : List UInt32} {blk : List UInt8} {len : Nat} (h : HS w0 w b ws blk len) (hb0 : 3 ≠ b) (r : Nat) (hr : r < 64) (w' : World)
    (hw : (w.setCell ⟨b, 8 + r, none⟩ (.int .u8 128)).setCells b (8 + (r + 1)) (List.replicate (63 - r) (.int .u8 0)) = w') :
    HS w0 w' b ws (blk.take r ++ 128 :: List.replicate (63 - r) 0) len := by
  have h1 := h.setByte hb0 r hr 128 _ rfl
  have h2 := h1.sets hb0 (r + 1) (List.replicate (64 - (r + 1)) 0) (by simp <;> omega) _ rfl
  rw [pad_blk blk r h.h64 hr] at h2
  rw [← hw]
  rw [List.map_replicate, show 64 - (r + 1) = 63 - r by omega] at h2
  exact h2
set_option maxRecDepth 100000 in
theorem HS.clr1 {w0 w : World} {b : Nat} {ws : List UInt32} {blk : List UInt8} {len : Nat} (h : HS w0 w b ws blk len) (hb0 : 3 ≠ b) (r : Nat) (hr : r < 64) : Has (w.setCell ⟨b, 8 + r, none⟩ (.int .u8 128)) b (hcs ws (blk.take r ++ [128] ++ blk.drop (r + 1)) len) 214 ∧ (hcs ws (blk.take r ++ [128] ++ blk.drop (r + 1)) len).length = 73 := by
  have h1 := h.setByte hb0 r hr 128 _ rfl
  exact ⟨h1.has, hcs_length _ _ _ h1.h8 h1.h64⟩

set_option maxRecDepth 100000 in
theorem HS.zeroed {w0 w : World} {b : Nat} {ws : List UInt32} {blk : List UInt8} {len : Nat} (h : HS w0 w b ws blk len) (hb0 : 3 ≠ b) (w' : World) (hw : w.setCells b 8 (List.replicate 64 (.int .u8 0)) = w') :
    HS w0 w' b ws (List.replicate 64 0) len := by
  have h2 := h.sets hb0 0 (List.replicate 64 0) (by simp) _ rfl
  rw [List.take_zero, List.nil_append, List.drop_of_length_le (by rw [h.h64, List.length_replicate]; omega), List.append_nil, List.map_replicate] at h2
  rw [← hw]
  exact h2
set_option maxRecDepth 100000 in
set_option maxHeartbeats 8000000 in
theorem pad_lo (ws : List UInt32) (blk : List UInt8) (len b r : Nat) (w : World) (hS : HS w w b ws blk len) (hb0 : 3 ≠ b) (hlen : len < 2 ^ 64) (hr : len % 64 = r) (hr56 : r < 56) :
    Calls Tryz.prog 134 #[.pointer (some ⟨b, 0, none⟩)] w fun e w' => e = .returned (.tuple #[]) ∧ ∃ blk', HS w w' b (Sha.padW ws (blk.take (len % 64)) len) blk' len := by
  have hr' : (len : Int) % 64 = (r : Int) := by omega
  have hlc := hS.len
  obtain ⟨v1, hc1⟩ := hS.there (8 + r) (by omega)
  have hf1 := hS.has.frozen (8 + r)
  obtain ⟨A, hs1, hcl1⟩ := slice41e .u64 b (r + 1) (by omega)
  rw [show ((r + 1 : Nat) : Int) = (r : Int) + 1 by omega] at hs1
  rw [show 64 - (r + 1) = 63 - r by omega] at hs1 hcl1
  have H0 : Keep (HS w w b ws blk len) := ⟨hS⟩
  have HC1 : Keep (∀ (W : World) (cs : List Value) (ty : TypeId), Has W b cs 214 → cs.length = 73 → (Builtin.clear_ #[36] ty #[.slice (some A) (63 - r) (63 - r)]).run Tryz.prog W = .ok (.tuple #[]) (W.setCells b (8 + (r + 1)) (List.replicate (63 - r) (.int .u8 0)))) := ⟨hcl1⟩
  have HR : Keep (len % 64 = r) := ⟨hr⟩
  have HLN : Keep (len < 2 ^ 64) := ⟨hlen⟩
  obtain ⟨hi, hhi⟩ : ∃ x, UInt32.ofNat (len * 8 % 2 ^ 64 / 2 ^ 32) = x := ⟨_, rfl⟩
  obtain ⟨lo, hlo⟩ : ∃ x, UInt32.ofNat (len * 8) = x := ⟨_, rfl⟩
  have hz1 := size_hi len
  have hz2 := size_lo len
  rw [hhi] at hz1
  rw [hlo] at hz2
  have HHI : Keep (UInt32.ofNat (len * 8 % 2 ^ 64 / 2 ^ 32) = hi) := ⟨hhi⟩
  have HLO : Keep (UInt32.ofNat (len * 8) = lo) := ⟨hlo⟩
  clear hS hcl1 hr hlen hhi hlo
  go_enter Tryz.func134, Tryz.ntmps134
  go_wp2_with (
    (refine wpList_clear_run _ rfl _ 36 rfl _ rfl (HC1.out _ _ _ (H0.out.clr1 hb0 r (by omega)).1 (H0.out.clr1 hb0 r (by omega)).2) ?_
     generalize hw2 : World.setCells _ _ _ _ = w2
     have H2 : Keep (HS w w2 b ws (blk.take r ++ 128 :: List.replicate (63 - r) 0) len) := ⟨H0.out.cleared hb0 r (by omega) w2 hw2⟩
     have hlc2 := H2.out.len
     clear hw2))
  have hp1 : Keep (Has w2 b (hcs ws (blk.take r ++ 128 :: List.replicate (63 - r) 0) len) 214 ∧ (hcs ws (blk.take r ++ 128 :: List.replicate (63 - r) 0) len).length = 73) := ⟨H2.out.has, hcs_length _ _ _ H2.out.h8 H2.out.h64⟩
  refine (putWord_any hi b 64 8 8 _ 214 _ (by omega) (by rw [hp1.out.2]; omega) hp1.out.1).mono ?_
  rintro e w3 ⟨rfl, rfl⟩
  have hp2 : Keep (HS w (w2.setCells b 64 ((Sha.w4 hi).map bv)) b ws ((blk.take r ++ 128 :: List.replicate (63 - r) 0).take 56 ++ Sha.w4 hi ++ (blk.take r ++ 128 :: List.replicate (63 - r) 0).drop (56 + (Sha.w4 hi).length)) len) := ⟨H2.out.sets hb0 56 (Sha.w4 hi) (by rw [Sha.w4_len]; decide) _ rfl⟩
  go_wp2_with fail
  refine (putWord_any lo b 68 4 4 _ 214 _ (by omega) (by rw [hcs_length _ _ _ hp2.out.h8 hp2.out.h64]; omega) hp2.out.has).mono ?_
  rintro e w3 ⟨rfl, rfl⟩
  generalize hw4 : World.setCells _ b 68 _ = w4
  have H4 : Keep (HS w w4 b ws ((blk.take r ++ 128 :: List.replicate (63 - r) 0).take 56 ++ Sha.len8 len) len) := ⟨H2.out.sized hb0 hi lo HHI.out HLO.out w4 hw4⟩
  clear hw4 hp1 hp2
  go_wp2_with fail
  refine (mix_any _ _ len b _ H4.out.h8 H4.out.h64 H4.out.has H4.out.kc).mono ?_
  rintro e w5 ⟨rfl, h5, g5⟩
  have H5 := H4.out.mixed hb0 h5 g5
  have HF : Keep (∃ blk', HS w w5 b (Sha.padW ws (blk.take (len % 64)) len) blk' len) := ⟨_, by
    have e : Sha.padW ws (blk.take (len % 64)) len = Sha.mixW ws ((blk.take r ++ 128 :: List.replicate (63 - r) 0).take 56 ++ Sha.len8 len) := by
      have h64 := H0.out.h64
      have l : (blk.take r).length = r := by rw [List.length_take]; omega
      have t : (blk.take r ++ 128 :: List.replicate (63 - r) 0).take 56 = blk.take r ++ 128 :: List.replicate (55 - r) (0 : UInt8) := by
        rw [List.take_append, l, List.take_of_length_le (by omega), show 56 - r = (55 - r) + 1 by omega, List.take_succ_cons, List.take_replicate]
        congr 3; omega
      rw [HR.out, Sha.padW, l, if_pos (by omega), t]
    rw [e]; exact H5⟩
  clear H5 h5 g5
  go_wp2
  go_end0
  exact ⟨rfl, HF.out⟩
set_option maxRecDepth 100000 in
set_option maxHeartbeats 8000000 in
theorem pad_hi (ws : List UInt32) (blk : List UInt8) (len b r : Nat) (w : World) (hS : HS w w b ws blk len) (hb0 : 3 ≠ b) (hlen : len < 2 ^ 64) (hr : len % 64 = r) (hr56 : 56 ≤ r) :
    Calls Tryz.prog 134 #[.pointer (some ⟨b, 0, none⟩)] w fun e w' => e = .returned (.tuple #[]) ∧ ∃ blk', HS w w' b (Sha.padW ws (blk.take (len % 64)) len) blk' len := by
  have hr64 : r < 64 := by omega
  have hr56' : (56 : Int) ≤ (r : Int) := by omega
  have hr' : (len : Int) % 64 = (r : Int) := by omega
  have hlc := hS.len
  obtain ⟨v1, hc1⟩ := hS.there (8 + r) (by omega)
  have hf1 := hS.has.frozen (8 + r)
  obtain ⟨A, hs1, hcl1⟩ := slice41e .u64 b (r + 1) (by omega)
  rw [show ((r + 1 : Nat) : Int) = (r : Int) + 1 by omega] at hs1
  rw [show 64 - (r + 1) = 63 - r by omega] at hs1 hcl1
  have H0 : Keep (HS w w b ws blk len) := ⟨hS⟩
  have HC1 : Keep (∀ (W : World) (cs : List Value) (ty : TypeId), Has W b cs 214 → cs.length = 73 → (Builtin.clear_ #[36] ty #[.slice (some A) (63 - r) (63 - r)]).run Tryz.prog W = .ok (.tuple #[]) (W.setCells b (8 + (r + 1)) (List.replicate (63 - r) (.int .u8 0)))) := ⟨hcl1⟩
  have HR : Keep (len % 64 = r) := ⟨hr⟩
  have HLN : Keep (len < 2 ^ 64) := ⟨hlen⟩
  obtain ⟨hi, hhi⟩ : ∃ x, UInt32.ofNat (len * 8 % 2 ^ 64 / 2 ^ 32) = x := ⟨_, rfl⟩
  obtain ⟨lo, hlo⟩ : ∃ x, UInt32.ofNat (len * 8) = x := ⟨_, rfl⟩
  have hz1 := size_hi len
  have hz2 := size_lo len
  rw [hhi] at hz1
  rw [hlo] at hz2
  have HHI : Keep (UInt32.ofNat (len * 8 % 2 ^ 64 / 2 ^ 32) = hi) := ⟨hhi⟩
  have HLO : Keep (UInt32.ofNat (len * 8) = lo) := ⟨hlo⟩
  clear hS hcl1 hr hlen hhi hlo
  go_enter Tryz.func134, Tryz.ntmps134
  go_wp2_with (first
    | (refine wpList_clear_run _ rfl _ 36 rfl _ rfl (HC1.out _ _ _ (H0.out.clr1 hb0 r (by omega)).1 (H0.out.clr1 hb0 r (by omega)).2) ?_
       generalize hw2 : World.setCells _ _ _ _ = w2
       have H2 : Keep (HS w w2 b ws (blk.take r ++ 128 :: List.replicate (63 - r) 0) len) := ⟨H0.out.cleared hb0 r (by omega) w2 hw2⟩
       clear hw2)
    | (go_at_call 133
       refine (mix_any _ _ len b _ H2.out.h8 H2.out.h64 H2.out.has H2.out.kc).mono ?_
       rintro e w3 ⟨rfl, h3, g3⟩
       have H3 : Keep (HS w w3 b (Sha.mixW ws (blk.take r ++ 128 :: List.replicate (63 - r) 0)) (blk.take r ++ 128 :: List.replicate (63 - r) 0) len) := ⟨H2.out.mixed hb0 h3 g3⟩
       clear h3 g3)
    | (refine wpList_clear_run _ rfl _ 36 rfl _ rfl (clear28 _ b 8 64 _ 214 _ H3.out.has (by rw [hcs_length _ _ _ H3.out.h8 H3.out.h64]; omega)) ?_
       generalize hw6 : World.setCells _ b 8 _ = w6
       have H6 : Keep (HS w w6 b (Sha.mixW ws (blk.take r ++ 128 :: List.replicate (63 - r) 0)) (List.replicate 64 0) len) := ⟨H3.out.zeroed hb0 w6 hw6⟩
       have hlc6 := H6.out.len
       clear hw6))
  have hp1 : Keep (Has w6 b (hcs (Sha.mixW ws (blk.take r ++ 128 :: List.replicate (63 - r) 0)) (List.replicate 64 (0 : UInt8)) len) 214 ∧ (hcs (Sha.mixW ws (blk.take r ++ 128 :: List.replicate (63 - r) 0)) (List.replicate 64 (0 : UInt8)) len).length = 73) := ⟨H6.out.has, hcs_length _ _ _ H6.out.h8 H6.out.h64⟩
  refine (putWord_any hi b 64 8 8 _ 214 _ (by omega) (by rw [hp1.out.2]; omega) hp1.out.1).mono ?_
  rintro e w3 ⟨rfl, rfl⟩
  have hp2 : Keep (HS w (w6.setCells b 64 ((Sha.w4 hi).map bv)) b (Sha.mixW ws (blk.take r ++ 128 :: List.replicate (63 - r) 0)) ((List.replicate 64 (0 : UInt8)).take 56 ++ Sha.w4 hi ++ (List.replicate 64 (0 : UInt8)).drop (56 + (Sha.w4 hi).length)) len) := ⟨H6.out.sets hb0 56 (Sha.w4 hi) (by rw [Sha.w4_len]; decide) _ rfl⟩
  go_wp2_with fail
  refine (putWord_any lo b 68 4 4 _ 214 _ (by omega) (by rw [hcs_length _ _ _ hp2.out.h8 hp2.out.h64]; omega) hp2.out.has).mono ?_
  rintro e w3 ⟨rfl, rfl⟩
  generalize hw4 : World.setCells _ b 68 _ = w4
  have H4 : Keep (HS w w4 b (Sha.mixW ws (blk.take r ++ 128 :: List.replicate (63 - r) 0)) ((List.replicate 64 (0 : UInt8)).take 56 ++ Sha.len8 len) len) := ⟨H6.out.sized hb0 hi lo HHI.out HLO.out w4 hw4⟩
  clear hw4 hp1 hp2
  go_wp2_with fail
  refine (mix_any _ _ len b _ H4.out.h8 H4.out.h64 H4.out.has H4.out.kc).mono ?_
  rintro e w5 ⟨rfl, h5, g5⟩
  have H5 := H4.out.mixed hb0 h5 g5
  have HF : Keep (∃ blk', HS w w5 b (Sha.padW ws (blk.take (len % 64)) len) blk' len) := ⟨_, by
    have e : Sha.padW ws (blk.take (len % 64)) len = Sha.mixW (Sha.mixW ws (blk.take r ++ 128 :: List.replicate (63 - r) 0)) ((List.replicate 64 (0 : UInt8)).take 56 ++ Sha.len8 len) := by
      have h64 := H0.out.h64
      have l : (blk.take r).length = r := by rw [List.length_take]; omega
      rw [HR.out, Sha.padW, l, if_neg (by omega), List.take_replicate, show min 56 64 = 56 from rfl]
    rw [e]; exact H5⟩
  clear H5 h5 g5
  go_wp2
  go_end0
  exact ⟨rfl, HF.out⟩

set_option maxRecDepth 100000 in
theorem pad_any (ws : List UInt32) (blk : List UInt8) (len b : Nat) (w : World) (hS : HS w w b ws blk len) (hb0 : 3 ≠ b) (hlen : len < 2 ^ 64) :
    Calls Tryz.prog 134 #[.pointer (some ⟨b, 0, none⟩)] w fun e w' => e = .returned (.tuple #[]) ∧ ∃ blk', HS w w' b (Sha.padW ws (blk.take (len % 64)) len) blk' len := by
  by_cases h : len % 64 < 56
  · exact pad_lo ws blk len b _ w hS hb0 hlen rfl h
  · exact pad_hi ws blk len b _ w hS hb0 hlen rfl (by omega)
end Go.Proofs.YtjbkoablleneeaaGreatDoor

