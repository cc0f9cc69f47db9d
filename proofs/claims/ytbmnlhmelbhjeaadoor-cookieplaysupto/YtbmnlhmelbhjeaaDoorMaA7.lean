import Derived.Test.YtbmnlhmelbhjeaaDoorMaA6
namespace Go.Proofs.YtbmnlhmelbhjeaaDoor
open Go Go.RowKit

set_option maxRecDepth 100000 in
theorem under25 : Tryd.prog.underlying 76 = some (.array 32 5) := by kernel_rfl
set_option maxRecDepth 100000 in
theorem size25 : (Tryd.prog.info? 76).map (·.size) = some 32 := by kernel_rfl
set_option maxRecDepth 100000 in
theorem under40 : Tryd.prog.underlying 80 = some (.array 8 79) := by kernel_rfl
set_option maxRecDepth 100000 in
theorem size40 : (Tryd.prog.info? 80).map (·.size) = some 8 := by kernel_rfl
set_option maxRecDepth 100000 in
theorem size44 : (Tryd.prog.info? 82).map (·.size) = some 73 := by kernel_rfl
theorem under44 : ∃ d, Tryd.prog.underlying 82 = some d ∧ d.isRow = true := by
  exact ⟨_, Tryd.underlying82, rfl⟩
def zero73 : Array Value := (hcs (List.replicate 8 0) (List.replicate 64 0) 0).toArray
theorem zero44 : (∀ W : World, (zeroValue 82).run Tryd.prog W = .ok (.agg zero73) W) :=
  (zero_of_info (P := Tryd.prog) (t := 82) (v := .agg zero73) (n := 73) (by kernel_rfl)).1
set_option maxRecDepth 100000 in
theorem zero73_size : zero73.size = 73 := by kernel_rfl

/-- a text's length, as the Hash keeps it -/
def L64 (T : List UInt8) : Nat := T.length % 18446744073709551616
theorem L64_mod (T : List UInt8) : L64 T % 64 = T.length % 64 := by unfold L64; omega
theorem L64_lt (T : List UInt8) : L64 T < 2 ^ 64 := by
  have : (2 : Nat) ^ 64 = 18446744073709551616 := by decide
  rw [this]; unfold L64; omega
theorem len8_64 (n : Nat) : Sha.len8 (n % 18446744073709551616) = Sha.len8 n := by
  unfold Sha.len8
  have e1 : n % 18446744073709551616 * 8 % 2 ^ 64 = n * 8 % 2 ^ 64 := by omega
  have e2 : UInt32.ofNat (n % 18446744073709551616 * 8) = UInt32.ofNat (n * 8) := by
    apply UInt32.toNat_inj.1
    simp only [UInt32.toNat_ofNat']
    omega
  rw [e1, e2]
theorem pad64 {T : List UInt8} {ws : List UInt32} {blk : List UInt8} (h : Sha.HP T ws blk) : Sha.padW ws (blk.take (L64 T % 64)) (L64 T) = Sha.fold Sha.iv (T ++ Sha.padOf T.length) := by
  rw [← h.pad, L64_mod]
  unfold Sha.padW L64
  rw [len8_64]

/-- the hash at b has been written the text T -/
def HashOf (w : World) (b : Nat) (T : List UInt8) : Prop := ∃ ws blk, Sha.HP T ws blk ∧ Has w b (hcs ws blk (L64 T)) 82
theorem HashOf.kept {w w' : World} {b : Nat} {T : List UInt8} {row : Option Nat} (h : HashOf w b T) (hg : w.grownBy w' row) (hne : some b ≠ row) : HashOf w' b T := by
  obtain ⟨ws, blk, h1, h2⟩ := h
  exact ⟨ws, blk, h1, h2.kept hg hne⟩
theorem HashOf.lt {w : World} {b : Nat} {T : List UInt8} (h : HashOf w b T) : b < w.heap.size := by
  obtain ⟨ws, blk, h1, h2⟩ := h
  exact h2.lt
theorem HP8 {T : List UInt8} {ws : List UInt32} {blk : List UInt8} (h : Sha.HP T ws blk) : ws.length = 8 := by rw [h.1, Sha.fold_len]; rfl

theorem index40L (l : List UInt32) (h8 : l.length = 8) (i : Nat) (hi : i < 8) (W : World) : (Instr.index 80 (.agg (l.map wv).toArray) (.int .i64 (i : Int))).run Tryd.prog W = .ok (.int .u32 (l.getD i 0).toNat) W := by
  match l, h8 with
  | [a, b, c, d, e, f, g, h], _ => exact index40 ⟨a, b, c, d, e, f, g, h⟩ W i hi
theorem slice25 (k : IntKind) (b o : Nat) (l : Int) (n : Nat) (hl : l = n) (hn : n < 32) (W : World) :
    (Instr.sliceAt 76 (.pointer (some ⟨b, o, none⟩)) (some (.int k l)) none none).run Tryd.prog W = .ok (.slice (some ⟨b, o + n, none⟩) (32 - n) (32 - n)) W := by
  subst hl
  have e : (⟨b, o, none⟩ : Addr).add n = ⟨b, o + n, none⟩ := Addr.add_mid b o n
  have z : (sizeOf (Tryd.prog.elem 76)).run Tryd.prog W = .ok 1 W := by kernel_rfl
  have l : Tryd.prog.arrayLen 76 = 32 := by kernel_rfl
  rw [run_sliceAt_array_l W 76 _ (by kernel_rfl) k n (by omega) (by rw [l]; omega), z, l]
  simp only [Result.andThen, slicedAt, Int.toNat_natCast, Nat.mul_one, e]
  rw [if_neg (by omega)]

/-- the first i words laid out as bytes, zeros behind -/
def outTo (ws : List UInt32) (i : Nat) : List UInt8 := Sha.out (ws.take i) ++ List.replicate (32 - 4 * i) 0
theorem out_len (ws : List UInt32) : (Sha.out ws).length = 4 * ws.length := by
  induction ws with
  | nil => rfl
  | cons x r ih => simp only [Sha.out, List.flatMap_cons, List.length_append, Sha.w4_len, List.length_cons] at *; omega
theorem outTo_len (ws : List UInt32) (i : Nat) (h8 : ws.length = 8) (hi : i ≤ 8) : (outTo ws i).length = 32 := by
  rw [outTo, List.length_append, out_len, List.length_take, List.length_replicate]; omega
theorem outTo_step (ws : List UInt32) (i : Nat) (h8 : ws.length = 8) (hi : i < 8) : over ((outTo ws i).map bv) (4 * i) ((Sha.w4 (ws.getD i 0)).map bv) = (outTo ws (i + 1)).map bv := by
  have hl := outTo_len ws i h8 (by omega)
  have lo : (Sha.out (ws.take i)).length = 4 * i := by rw [out_len, List.length_take]; omega
  rw [over_eq _ _ _ (by rw [List.length_map, List.length_map, hl, Sha.w4_len]; omega), ← List.map_take, ← List.map_drop, ← List.map_append, ← List.map_append]
  congr 1
  have e : ws.take (i + 1) = ws.take i ++ [ws.getD i 0] := by
    rw [List.take_succ_eq_append_getElem (by omega)]
    simp [List.getD, show i < ws.length by omega]
  rw [List.length_map, Sha.w4_len, outTo, outTo, List.take_append_of_le_length (by omega), List.take_of_length_le (by omega), e, List.drop_append, List.drop_of_length_le (by omega), lo, List.drop_replicate, Sha.out, Sha.out, List.flatMap_append]
  simp only [List.flatMap_cons, List.flatMap_nil, List.append_nil, List.nil_append]
  congr 2
  omega

structure SumRel (w w' : World) (N M : Nat) (ws : List UInt32) (i : Nat) : Prop where
  r : Has w' N ((List.replicate 32 (0 : UInt8)).map bv) 76
  o : Has w' M ((outTo ws i).map bv) 76
  g : w.grownBy w' none
theorem SumRel.step {w w' : World} {N M : Nat} {ws : List UInt32} {i : Nat} (h : SumRel w w' N M ws i) (h8 : ws.length = 8) (hi : i < 8) (hne : M ≠ N) (hM : w.heap.size ≤ M) (w2 : World) (h2 : w'.setCells M (4 * i) ((Sha.w4 (ws.getD i 0)).map bv) = w2) : SumRel w w2 N M ws (i + 1) := by
  subst h2
  refine ⟨h.r.kept (gr_sets _ _ _ _) (by simp <;> omega), ?_, gr_new h.g (gr_sets _ _ _ _) hM⟩
  rw [← outTo_step ws i h8 hi]
  exact h.o.setCells _ _

theorem new2 (w : World) (C : Array Value) : Has ((w.alloc (.cells C 76)).alloc (.cells zero73 82)) (w.heap.size + 1) zero73.toList 82 := by
  have := Has.newA (w.alloc (.cells C 76)) zero73 82
  rwa [heap1] at this
theorem hcs_one (ws : List UInt32) (blk : List UInt8) (len : Nat) : ∀ v ∈ hcs ws blk len, v.oneCell' = true := by
  intro v hv
  simp only [hcs, List.mem_append, List.mem_map, List.mem_singleton] at hv
  rcases hv with (⟨x, _, rfl⟩ | ⟨x, _, rfl⟩) | rfl <;> rfl
theorem HS.self {w0 w : World} {b : Nat} {ws : List UInt32} {blk : List UInt8} {len : Nat} (h : HS w0 w b ws blk len) : HS w w b ws blk len := ⟨h.h8, h.h64, h.has, World.grownBy.refl _ _, h.kc⟩
theorem bytes_one (l : List UInt8) : (l.map bv).toArray.all (·.oneCell') = true := all_oneCell_toArray (by simp [Value.oneCell'])

set_option maxRecDepth 100000 in
set_option maxHeartbeats 8000000 in
theorem sum_gen (b : Nat) (T : List UInt8) (w : World) (hh : HashOf w b T) (hk : Kc w) :
    Calls Tryd.prog 40 #[.pointer (some ⟨b, 0, none⟩)] w fun e w' => e = .returned (.agg ((Sha.sha T).map bv).toArray) ∧ w.grownBy w' none := by
  obtain ⟨ws, blk, hP, hb⟩ := hh
  obtain ⟨d, hd1, hd2⟩ := under44
  have HP0 : Keep (Sha.HP T ws blk) := ⟨hP⟩
  have HB : Keep (Has w b (hcs ws blk (L64 T)) 82) := ⟨hb⟩
  have HK : Keep (Kc w) := ⟨hk⟩
  have HT : Keep (L64 T < 2 ^ 64) := ⟨L64_lt T⟩
  have HD : Keep (Tryd.prog.underlying 82 = some d ∧ d.isRow = true) := ⟨hd1, hd2⟩
  have hz := zero44
  clear hP hb hk hd1 hd2
  have HZ : Keep (∀ (C : Array Value), C.size = 32 → HS (w.alloc (.cells C 76)) (((w.alloc (.cells C 76)).alloc (.cells zero73 82)).setCells (w.heap.size + 1) 0 (hcs ws blk (L64 T))) (w.heap.size + 1) ws blk (L64 T)) := ⟨fun C hC => by
    have h1 : Has ((w.alloc (.cells C 76)).alloc (.cells zero73 82)) (w.heap.size + 1) zero73.toList 82 := by
      have := Has.newA (w.alloc (.cells C 76)) zero73 82
      rwa [heap1] at this
    have hl := hcs_length ws blk (L64 T) (HP8 HP0.out) HP0.out.2.1
    refine ⟨HP8 HP0.out, HP0.out.2.1, h1.setAll _ (by rw [hl]; exact zero73_size.symm), ?_, ?_⟩
    · exact (World.grownBy_alloc _ _ _).trans (gr_sets _ _ _ _)
    · exact ((HK.out.kept (World.grownBy_alloc _ _ none) (by simp)).kept (World.grownBy_alloc _ _ none) (by simp)).kept (gr_sets _ _ _ _) (by have := HK.out.lt; simp <;> omega)⟩
  go_enter Tryd.func40, Tryd.ntmps40
  go_wp2_with (first
    | (refine wpList_load_mid rfl 82 _ rfl _ _ rfl _ _ ((HB.out.alloc _).range) HD.out.1 HD.out.2 (by rw [hcs_length _ _ _ (HP8 HP0.out) HP0.out.2.1]; exact size44) ?_)
    | (refine wpList_store_mid rfl 82 _ _ rfl _ _ _ rfl rfl ((new2 w _).there 0 _ (by rw [List.size_toArray, hcs_length _ _ _ (HP8 HP0.out) HP0.out.2.1]; exact Nat.le_of_eq zero73_size.symm)) (by rw [List.size_toArray, hcs_length _ _ _ (HP8 HP0.out) HP0.out.2.1]; exact size44) (all_oneCell_toArray (hcs_one _ _ _)) ?_
       generalize hw1 : World.setCells _ _ _ _ = w1
       generalize hw0 : World.alloc w _ = w0 at hw1
       have H1 : Keep (HS w0 w1 (w.heap.size + 1) ws blk (L64 T) ∧ Has w0 w.heap.size ((List.replicate 32 (0 : UInt8)).map bv) 76 ∧ w.grownBy w0 none) := ⟨by
          subst hw0; rw [← hw1]; exact ⟨HZ.out _ rfl, Has.new _ _ _, World.grownBy_alloc _ _ _⟩⟩
       clear hw0 hw1))
  have hb0 : (0 : Nat) ≠ w.heap.size + 1 := by have := HK.out.lt; omega
  refine (pad_any ws blk (L64 T) _ _ H1.out.1.self hb0 HT.out).mono ?_
  rintro e w2 ⟨rfl, blk', h2⟩
  rw [pad64 HP0.out] at h2
  obtain ⟨ws', hws⟩ : ∃ x, Sha.fold Sha.iv (T ++ Sha.padOf T.length) = x := ⟨_, rfl⟩
  rw [hws] at h2
  have HWS : Keep (Sha.sha T = Sha.out ws') := ⟨by rw [Sha.sha, hws]⟩
  have H2 : Keep (HS w1 w2 (w.heap.size + 1) ws' blk' (L64 T) ∧ Has w2 w.heap.size ((List.replicate 32 (0 : UInt8)).map bv) 76 ∧ w.grownBy w2 none ∧ ws'.length = 8) := ⟨h2, by
    refine ⟨(H1.out.2.1.kept H1.out.1.gr (by simp)).kept h2.gr (by simp), ?_, h2.h8⟩
    exact gr_new (gr_new H1.out.2.2 H1.out.1.gr (by omega)) h2.gr (by omega)⟩
  clear h2 hws
  go_wp2_with (first
    | (refine wpList_load_mid rfl 80 _ rfl _ _ rfl _ _ ((H2.out.1.has.alloc _).rangeMid 0 [] (ws'.map wv) (blk'.map bv ++ [.int .u64 (L64 T)]) (by simp [hcs]) rfl) under40 rfl (by rw [List.length_map, H2.out.2.2.2]; exact size40) ?_))
  have hMN : w2.heap.size ≠ w.heap.size := by have := H2.out.2.1.lt; omega
  have hM : w.heap.size ≤ w2.heap.size := H2.out.2.2.1.size
  go_loopw [13] (fun t w' => ∃ i : Nat, i ≤ 8 ∧ t = .int .i64 i ∧ Keep (SumRel w w' w.heap.size w2.heap.size ws' i)) (fun t _ => 8 - (intOf t).toNat)
  case atStart => exact ⟨0, by omega, rfl, ⟨H2.out.2.1.alloc _, Has.new _ _ _, H2.out.2.2.1.trans (World.grownBy_alloc _ _ _)⟩⟩
  case round =>
    obtain ⟨i, hi, rfl, hrel⟩ := hrel
    by_cases hli : i < 8
    · have hx := index40L ws' H2.out.2.2.2 i hli
      obtain ⟨y, hy⟩ : ∃ y, ws'.getD i 0 = y := ⟨_, rfl⟩
      have HY : Keep (ws'.getD i 0 = y) := ⟨hy⟩
      have hs := slice25 .i64 w2.heap.size 0 (4 * (i : Int)) (4 * i) (by omega) (by omega)
      rw [hy] at hx
      clear hy
      go_wp2_with (go_at_call 46; refine (putWord_any y _ _ _ _ _ 76 _ (by omega) (by rw [List.length_map, outTo_len ws' i H2.out.2.2.2 hi]; omega) hrel.out.o).mono ?_; rintro e w3 ⟨rfl, hw3⟩; have HR3 : Keep (SumRel w w3 w.heap.size w2.heap.size ws' (i + 1)) := ⟨hrel.out.step H2.out.2.2.2 hli hMN hM w3 (by rw [HY.out]; exact hw3.symm)⟩; clear hw3)
      refine ⟨⟨i + 1, by omega, by go_num, HR3⟩, ?_⟩
      simp [intOf]; omega
    · have hi8 : i = 8 := by omega
      have HE : Keep (Has wr w2.heap.size ((Sha.out ws').map bv) 76 ∧ Has wr w.heap.size ((List.replicate 32 (0 : UInt8)).map bv) 76 ∧ w.grownBy wr none ∧ (Sha.out ws').length = 32) := ⟨by
        have h := hrel.out
        rw [hi8] at h
        have ho := h.o
        have h8 := H2.out.2.2.2
        rw [outTo, List.take_of_length_le (by omega), show 32 - 4 * 8 = 0 by rfl, List.replicate_zero, List.append_nil] at ho
        exact ⟨ho, h.r, h.g, by rw [out_len, h8]⟩⟩
      have HI : Keep ((Tryd.prog.info? 76).map (·.size) = some ((Sha.out ws').map bv).length) := ⟨by rw [List.length_map, HE.out.2.2.2]; exact size25⟩
      clear hrel
      go_wp2_with (first
        | (refine wpList_load_mid rfl 76 _ rfl _ _ rfl _ _ HE.out.1.range under25 rfl HI.out ?_)
        | (refine wpList_store_mid rfl 76 _ _ rfl _ _ _ rfl rfl (HE.out.2.1.there 0 _ (by simp [HE.out.2.2.2])) HI.out (bytes_one _) ?_))
      refine ret_cell (b := w.heap.size) (cs := (Sha.out ws').map bv) (t := 76) rfl rfl ?_ under25 rfl HI.out rfl ⟨by rw [HWS.out], ?_⟩
      · exact HE.out.2.1.setAll _ (by simp [HE.out.2.2.2])
      · exact gr_new HE.out.2.2.1 (gr_sets _ _ _ _) (Nat.le_refl _)
theorem sum_any (b : Nat) (T : List UInt8) (w : World) (hh : HashOf w b T) (hk : Kc w) (_hT : T.length < 2 ^ 64) :
    Calls Tryd.prog 40 #[.pointer (some ⟨b, 0, none⟩)] w fun e w' => e = .returned (.agg ((Sha.sha T).map bv).toArray) ∧ w.grownBy w' none := sum_gen b T w hh hk
end Go.Proofs.YtbmnlhmelbhjeaaDoor
