import Derived.Test.YtjbkoablleneeaaGreatDoorX1
namespace Go.Proofs.YtjbkoablleneeaaGreatDoor
open Go Go.RowKit

set_option maxRecDepth 100000 in
theorem under25 : Tryz.prog.underlying 76 = some (.array 32 5) := by kernel_rfl
set_option maxRecDepth 100000 in
theorem size25 : (Tryz.prog.info? 76).map (·.size) = some 32 := by kernel_rfl
set_option maxRecDepth 100000 in
theorem under40 : Tryz.prog.underlying 181 = some (.array 8 180) := by kernel_rfl
set_option maxRecDepth 100000 in
theorem size40 : (Tryz.prog.info? 181).map (·.size) = some 8 := by kernel_rfl
set_option maxRecDepth 100000 in
theorem size44 : (Tryz.prog.info? 214).map (·.size) = some 73 := by kernel_rfl
set_option maxRecDepth 100000 in
theorem under44 : ∃ d, Tryz.prog.underlying 214 = some d ∧ d.isRow = true := by
  exact ⟨_, Tryz.underlying214, rfl⟩
def zero73 : Array Value := (hcs (List.replicate 8 0) (List.replicate 64 0) 0).toArray
set_option maxRecDepth 100000 in
theorem zero44 : (∀ W : World, (zeroValue 214).run Tryz.prog W = .ok (.agg zero73) W) :=
  (zero_of_info (P := Tryz.prog) (t := 214) (v := .agg zero73) (n := 73) (by kernel_rfl)).1
set_option maxRecDepth 100000 in
theorem zero73_size : zero73.size = 73 := by kernel_rfl

/-- a text's length, as the Hash keeps it -/
def L64 (T : List UInt8) : Nat := T.length % 18446744073709551616
set_option maxRecDepth 100000 in
theorem L64_mod (T : List UInt8) : L64 T % 64 = T.length % 64 := by unfold L64; omega
set_option maxRecDepth 100000 in
theorem L64_lt (T : List UInt8) : L64 T < 2 ^ 64 := by
  have : (2 : Nat) ^ 64 = 18446744073709551616 := by decide
  rw [this]; unfold L64; omega
set_option maxRecDepth 100000 in
theorem len8_64 (n : Nat) : Sha.len8 (n % 18446744073709551616) = Sha.len8 n := by
  unfold Sha.len8
  have e1 : n % 18446744073709551616 * 8 % 2 ^ 64 = n * 8 % 2 ^ 64 := by omega
  have e2 : UInt32.ofNat (n % 18446744073709551616 * 8) = UInt32.ofNat (n * 8) := by
    apply UInt32.toNat_inj.1
    simp only [UInt32.toNat_ofNat']
    omega
  rw [e1, e2]
set_option maxRecDepth 100000 in
theorem pad64 {T : List UInt8} {ws : List UInt32} {blk : List UInt8} (h : Sha.HP T ws blk) : Sha.padW ws (blk.take (L64 T % 64)) (L64 T) = Sha.fold Sha.iv (T ++ Sha.padOf T.length) := by
  rw [← h.pad, L64_mod]
  unfold Sha.padW L64
  rw [len8_64]

/-- the hash at b has been written the text T -/
def HashOf (w : World) (b : Nat) (T : List UInt8) : Prop := ∃ ws blk, Sha.HP T ws blk ∧ Has w b (hcs ws blk (L64 T)) 214
set_option maxRecDepth 100000 in
theorem HashOf.kept {w w' : World} {b : Nat} {T : List UInt8} {row : Option Nat} (h : HashOf w b T) (hg : w.grownBy w' row) (hne : some b ≠ row) : HashOf w' b T := by
  obtain ⟨ws, blk, h1, h2⟩ := h
  exact ⟨ws, blk, h1, h2.kept hg hne⟩
set_option maxRecDepth 100000 in
theorem HashOf.lt {w : World} {b : Nat} {T : List UInt8} (h : HashOf w b T) : b < w.heap.size := by
  obtain ⟨ws, blk, h1, h2⟩ := h
  exact h2.lt
set_option maxRecDepth 100000 in
theorem HP8 {T : List UInt8} {ws : List UInt32} {blk : List UInt8} (h : Sha.HP T ws blk) : ws.length = 8 := by rw [h.1, Sha.fold_len]; rfl

set_option maxRecDepth 100000 in
theorem index40L (l : List UInt32) (h8 : l.length = 8) (i : Nat) (hi : i < 8) (W : World) : (Instr.index 181 (.agg (l.map wv).toArray) (.int .i64 (i : Int))).run Tryz.prog W = .ok (.int .u32 (l.getD i 0).toNat) W := by
  match l, h8 with
  | [a, b, c, d, e, f, g, h], _ => exact index40 ⟨a, b, c, d, e, f, g, h⟩ W i hi
set_option maxRecDepth 100000 in
theorem slice25 (k : IntKind) (b o : Nat) (l : Int) (n : Nat) (hl : l = n) (hn : n < 32) (W : World) :
    (Instr.sliceAt 76 (.pointer (some ⟨b, o, none⟩)) (some (.int k l)) none none).run Tryz.prog W = .ok (.slice (some ⟨b, o + n, none⟩) (32 - n) (32 - n)) W := by
  subst hl
  have e : (⟨b, o, none⟩ : Addr).add n = ⟨b, o + n, none⟩ := Addr.add_mid b o n
  have z : (sizeOf (Tryz.prog.elem 76)).run Tryz.prog W = .ok 1 W := by kernel_rfl
  have l : Tryz.prog.arrayLen 76 = 32 := by kernel_rfl
  rw [run_sliceAt_array_l W 76 _ (by kernel_rfl) k n (by omega) (by rw [l]; omega), z, l]
  simp only [Result.andThen, slicedAt, Int.toNat_natCast, Nat.mul_one, e]
  rw [if_neg (by omega)]

/-- the first i words laid out as bytes, zeros behind -/
def outTo (ws : List UInt32) (i : Nat) : List UInt8 := Sha.out (ws.take i) ++ List.replicate (32 - 4 * i) 0
set_option maxRecDepth 100000 in
theorem out_len (ws : List UInt32) : (Sha.out ws).length = 4 * ws.length := by
  induction ws with
  | nil => rfl
  | cons x r ih => simp only [Sha.out, List.flatMap_cons, List.length_append, Sha.w4_len, List.length_cons] at *; omega
set_option maxRecDepth 100000 in
theorem outTo_len (ws : List UInt32) (i : Nat) (h8 : ws.length = 8) (hi : i ≤ 8) : (outTo ws i).length = 32 := by
  rw [outTo, List.length_append, out_len, List.length_take, List.length_replicate]; omega
set_option maxRecDepth 100000 in
theorem outTo_step (ws : List UInt32) (i : Nat) (h8 : ws.length = 8) (hi : i < 8) : over ((outTo ws i).map bv) (4 * i) ((Sha.w4 (ws.getD i 0)).map bv) = (outTo ws (i + 1)).map bv := by
  have hl := outTo_len ws i h8 (by omega)
  have lo : (Sha.out (ws.take i)).length = 4 * i := by rw [out_len, List.length_take]; omega
  rw [over_eq _ _ _ (by rw [List.length_map, List.length_map, hl, Sha.w4_len]; omega), ← List.map_take, ← List.map_drop, ← List.map_append, ← List.map_append]
  congr 1
  have e : ws.take (i + 1) = ws.take i ++ [ws.getD i 0] := by
    rw [List.take_succ_eq_append_getElem (by omega)]
    simp [List.getD, show i < ws.length by omega]
  rw [List.length_map, Sha.w4_len, outTo, outTo, List.take_append_of_le_length (by omega), List.take_of_length_le (by omega), e, List.drop_append, List.drop_of_length_le (by omega), lo, List.drop_replicate, Sha.out, Sha.out, List.flatMap_append]
  simp only [List.flatMap_cons, List.flatMap_nil, List.append_nil, List.nil_append]
  congr 2
  omega

structure SumRel (w w' : World) (N M : Nat) (ws : List UInt32) (i : Nat) : Prop where
  r : Has w' N ((List.replicate 32 (0 : UInt8)).map bv) 76
  o : Has w' M ((outTo ws i).map bv) 76
  g : w.grownBy w' none
set_option maxRecDepth 100000 in
theorem SumRel.step {w w' : World} {N M : Nat} {ws : List UInt32} {i : Nat} (h : SumRel w w' N M ws i) (h8 : ws.length = 8) (hi : i < 8) (hne : M ≠ N) (hM : w.heap.size ≤ M) (w2 : World) (h2 : w'.setCells M (4 * i) ((Sha.w4 (ws.getD i 0)).map bv) = w2) : SumRel w w2 N M ws (i + 1) := by
  subst h2
  refine ⟨h.r.kept (gr_sets _ _ _ _) (by simp <;> omega), ?_, gr_new h.g (gr_sets _ _ _ _) hM⟩
  rw [← outTo_step ws i h8 hi]
  exact h.o.setCells _ _

set_option maxRecDepth 100000 in
theorem new2 (w : World) (C : Array Value) : Has ((w.alloc (.cells C 76)).alloc (.cells zero73 214)) (w.heap.size + 1) zero73.toList 214 := by
  have := Has.newA (w.alloc (.cells C 76)) zero73 214
  rwa [heap1] at this
set_option maxRecDepth 100000 in
theorem hcs_one (ws : List UInt32) (blk : List UInt8) (len : Nat) : ∀ v ∈ hcs ws blk len, v.oneCell' = true := by
  intro v hv
  simp only [hcs, List.mem_append, List.mem_map, List.mem_singleton] at hv
  rcases hv with (⟨x, _, rfl⟩ | ⟨x, _, rfl⟩) | rfl <;> rfl
set_option maxRecDepth 100000 in
theorem HS.self {w0 w : World} {b : Nat} {ws : List UInt32} {blk : List UInt8} {len : Nat} (h : HS w0 w b ws blk len) : HS w w b ws blk len := ⟨h.h8, h.h64, h.has, World.grownBy.refl _ _, h.kc⟩
set_option maxRecDepth 100000 in
theorem bytes_one (l : List UInt8) : (l.map bv).toArray.all (·.oneCell') = true := all_oneCell_toArray (by simp [Value.oneCell'])

set_option maxRecDepth 100000 in
set_option maxHeartbeats 8000000 in
theorem sum_gen (b : Nat) (T : List UInt8) (w : World) (hh : HashOf w b T) (hk : Kc w) :
    Calls Tryz.prog 101 #[.pointer (some ⟨b, 0, none⟩)] w fun e w' => e = .returned (.agg ((Sha.sha T).map bv).toArray) ∧ w.grownBy w' none := by
  obtain ⟨ws, blk, hP, hb⟩ := hh
  obtain ⟨d, hd1, hd2⟩ := under44
  have HP0 : Keep (Sha.HP T ws blk) := ⟨hP⟩
  have HB : Keep (Has w b (hcs ws blk (L64 T)) 214) := ⟨hb⟩
  have HK : Keep (Kc w) := ⟨hk⟩
  have HT : Keep (L64 T < 2 ^ 64) := ⟨L64_lt T⟩
  have HD : Keep (Tryz.prog.underlying 214 = some d ∧ d.isRow = true) := ⟨hd1, hd2⟩
  have hz := zero44
  clear hP hb hk hd1 hd2
  have HZ : Keep (∀ (C : Array Value), C.size = 32 → HS (w.alloc (.cells C 76)) (((w.alloc (.cells C 76)).alloc (.cells zero73 214)).setCells (w.heap.size + 1) 0 (hcs ws blk (L64 T))) (w.heap.size + 1) ws blk (L64 T)) := ⟨fun C hC => by
    have h1 : Has ((w.alloc (.cells C 76)).alloc (.cells zero73 214)) (w.heap.size + 1) zero73.toList 214 := by
      have := Has.newA (w.alloc (.cells C 76)) zero73 214
      rwa [heap1] at this
    have hl := hcs_length ws blk (L64 T) (HP8 HP0.out) HP0.out.2.1
    refine ⟨HP8 HP0.out, HP0.out.2.1, h1.setAll _ (by rw [hl]; exact zero73_size.symm), ?_, ?_⟩
    · exact (World.grownBy_alloc _ _ _).trans (gr_sets _ _ _ _)
    · exact ((HK.out.kept (World.grownBy_alloc _ _ none) (by simp)).kept (World.grownBy_alloc _ _ none) (by simp)).kept (gr_sets _ _ _ _) (by have := HK.out.lt; simp <;> omega)⟩
  go_enter Tryz.func101, Tryz.ntmps101
  go_wp2_with (first
    | (refine wpList_load_mid rfl 214 _ rfl _ _ rfl _ _ ((HB.out.alloc _).range) HD.out.1 HD.out.2 (by rw [hcs_length _ _ _ (HP8 HP0.out) HP0.out.2.1]; exact size44) ?_)
    | (refine wpList_store_mid rfl 214 _ _ rfl _ _ _ rfl rfl ((new2 w _).there 0 _ (by rw [List.size_toArray, hcs_length _ _ _ (HP8 HP0.out) HP0.out.2.1]; exact Nat.le_of_eq zero73_size.symm)) (by rw [List.size_toArray, hcs_length _ _ _ (HP8 HP0.out) HP0.out.2.1]; exact size44) (all_oneCell_toArray (hcs_one _ _ _)) ?_
       generalize hw1 : World.setCells _ _ _ _ = w1
       generalize hw0 : World.alloc w _ = w0 at hw1
       have H1 : Keep (HS w0 w1 (w.heap.size + 1) ws blk (L64 T) ∧ Has w0 w.heap.size ((List.replicate 32 (0 : UInt8)).map bv) 76 ∧ w.grownBy w0 none) := ⟨by
          subst hw0; rw [← hw1]; exact ⟨HZ.out _ rfl, Has.new _ _ _, World.grownBy_alloc _ _ _⟩⟩
       clear hw0 hw1))
  have hb0 : (3 : Nat) ≠ w.heap.size + 1 := by have := HK.out.lt; omega
  refine (pad_any ws blk (L64 T) _ _ H1.out.1.self hb0 HT.out).mono ?_
  rintro e w2 ⟨rfl, blk', h2⟩
  rw [pad64 HP0.out] at h2
  obtain ⟨ws', hws⟩ : ∃ x, Sha.fold Sha.iv (T ++ Sha.padOf T.length) = x := ⟨_, rfl⟩
  rw [hws] at h2
  have HWS : Keep (Sha.sha T = Sha.out ws') := ⟨by rw [Sha.sha, hws]⟩
  have H2 : Keep (HS w1 w2 (w.heap.size + 1) ws' blk' (L64 T) ∧ Has w2 w.heap.size ((List.replicate 32 (0 : UInt8)).map bv) 76 ∧ w.grownBy w2 none ∧ ws'.length = 8) := ⟨h2, by
    refine ⟨(H1.out.2.1.kept H1.out.1.gr (by simp)).kept h2.gr (by simp), ?_, h2.h8⟩
    exact gr_new (gr_new H1.out.2.2 H1.out.1.gr (by omega)) h2.gr (by omega)⟩
  clear h2 hws
  go_wp2_with (first
    | (refine wpList_load_mid rfl 181 _ rfl _ _ rfl _ _ ((H2.out.1.has.alloc _).rangeMid 0 [] (ws'.map wv) (blk'.map bv ++ [.int .u64 (L64 T)]) (by simp [hcs]) rfl) under40 rfl (by rw [List.length_map, H2.out.2.2.2]; exact size40) ?_))
  have hMN : w2.heap.size ≠ w.heap.size := by have := H2.out.2.1.lt; omega
  have hM : w.heap.size ≤ w2.heap.size := H2.out.2.2.1.size
  go_loopw [13] (fun t w' => ∃ i : Nat, i ≤ 8 ∧ t = .int .i64 i ∧ Keep (SumRel w w' w.heap.size w2.heap.size ws' i)) (fun t _ => 8 - (intOf t).toNat)
  case atStart => exact ⟨0, by omega, rfl, ⟨H2.out.2.1.alloc _, Has.new _ _ _, H2.out.2.2.1.trans (World.grownBy_alloc _ _ _)⟩⟩
  case round =>
    obtain ⟨i, hi, rfl, hrel⟩ := hrel
    by_cases hli : i < 8
    · have hx := index40L ws' H2.out.2.2.2 i hli
      obtain ⟨y, hy⟩ : ∃ y, ws'.getD i 0 = y := ⟨_, rfl⟩
      have HY : Keep (ws'.getD i 0 = y) := ⟨hy⟩
      have hs := slice25 .i64 w2.heap.size 0 (4 * (i : Int)) (4 * i) (by omega) (by omega)
      rw [hy] at hx
      clear hy
      go_wp2_with (go_at_call 135; refine (putWord_any y _ _ _ _ _ 76 _ (by omega) (by rw [List.length_map, outTo_len ws' i H2.out.2.2.2 hi]; omega) hrel.out.o).mono ?_; rintro e w3 ⟨rfl, hw3⟩; have HR3 : Keep (SumRel w w3 w.heap.size w2.heap.size ws' (i + 1)) := ⟨hrel.out.step H2.out.2.2.2 hli hMN hM w3 (by rw [HY.out]; exact hw3.symm)⟩; clear hw3)
      refine ⟨⟨i + 1, by omega, by go_num, HR3⟩, ?_⟩
      simp [intOf]; omega
    · have hi8 : i = 8 := by omega
      have HE : Keep (Has wr w2.heap.size ((Sha.out ws').map bv) 76 ∧ Has wr w.heap.size ((List.replicate 32 (0 : UInt8)).map bv) 76 ∧ w.grownBy wr none ∧ (Sha.out ws').length = 32) := ⟨by
        have h := hrel.out
        rw [hi8] at h
        have ho := h.o
        have h8 := H2.out.2.2.2
        rw [outTo, List.take_of_length_le (by omega), show 32 - 4 * 8 = 0 by rfl, List.replicate_zero, List.append_nil] at ho
        exact ⟨ho, h.r, h.g, by rw [out_len, h8]⟩⟩
      have HI : Keep ((Tryz.prog.info? 76).map (·.size) = some ((Sha.out ws').map bv).length) := ⟨by rw [List.length_map, HE.out.2.2.2]; exact size25⟩
      clear hrel
      go_wp2_with (first
        | (refine wpList_load_mid rfl 76 _ rfl _ _ rfl _ _ HE.out.1.range under25 rfl HI.out ?_)
        | (refine wpList_store_mid rfl 76 _ _ rfl _ _ _ rfl rfl (HE.out.2.1.there 0 _ (by simp [HE.out.2.2.2])) HI.out (bytes_one _) ?_))
      refine ret_cell (b := w.heap.size) (cs := (Sha.out ws').map bv) (t := 76) rfl rfl ?_ under25 rfl HI.out rfl ⟨by rw [HWS.out], ?_⟩
      · exact HE.out.2.1.setAll _ (by simp [HE.out.2.2.2])
      · exact gr_new HE.out.2.2.1 (gr_sets _ _ _ _) (Nat.le_refl _)
set_option maxRecDepth 100000 in
theorem sum_any (b : Nat) (T : List UInt8) (w : World) (hh : HashOf w b T) (hk : Kc w) (_hT : T.length < 2 ^ 64) :
    Calls Tryz.prog 101 #[.pointer (some ⟨b, 0, none⟩)] w fun e w' => e = .returned (.agg ((Sha.sha T).map bv).toArray) ∧ w.grownBy w' none := sum_gen b T w hh hk
end Go.Proofs.YtjbkoablleneeaaGreatDoor

namespace Go.Proofs.YtjbkoablleneeaaGreatDoor
open Go Go.RowKit

set_option maxRecDepth 100000 in
theorem new_cells : (((((((((zero73.setIfInBounds 0 (Value.int IntKind.u32 1779033703)).setIfInBounds 1 (Value.int IntKind.u32 3144134277)).setIfInBounds 2 (Value.int IntKind.u32 1013904242)).setIfInBounds 3 (Value.int IntKind.u32 2773480762)).setIfInBounds 4 (Value.int IntKind.u32 1359893119)).setIfInBounds 5 (Value.int IntKind.u32 2600822924)).setIfInBounds 6 (Value.int IntKind.u32 528734635)).setIfInBounds 7 (Value.int IntKind.u32 1541459225))).toList = hcs Sha.iv (List.replicate 64 0) 0 := by kernel_rfl

set_option maxRecDepth 100000 in
set_option maxHeartbeats 1000000 in
theorem new_any (w : World) :
    Calls Tryz.prog 99 #[] w fun e w' => e = .returned (.pointer (some ⟨w.heap.size, 0, none⟩)) ∧ HashOf w' w.heap.size [] ∧ w.grownBy w' none := by
  have hz := zero44
  go_enter Tryz.func99, Tryz.ntmps99
  go_wp2
  go_ret
  refine ⟨rfl, ⟨_, _, Sha.HP.start, ?_⟩, World.grownBy_alloc _ _ _⟩
  have h2 : ∀ X : Array Value, X.toList = hcs Sha.iv (List.replicate 64 0) 0 → Has (w.alloc (.cells X 214)) w.heap.size (hcs Sha.iv (List.replicate 64 0) 0) 214 := fun X hX => by
    rw [← hX]; exact Has.newA w X 214
  exact h2 _ new_cells

/-- the bytes of a slice, in another block than b -/
structure Bytes (b : Nat) (w : World) (a : Option Addr) (n c : Nat) (q : List UInt8) : Prop where
  len : q.length = n
  cap : n ≤ c
  at_ : 0 < n → ∃ B o, a = some ⟨B, o, none⟩ ∧ B ≠ b ∧ ∀ j x, q[j]? = some x → w.cell? ⟨B, o + j, none⟩ = some (bv x)
def sliceLen : Value → Nat
  | .slice _ n _ => n
  | _ => 0
set_option maxRecDepth 100000 in
theorem Bytes.kept {b : Nat} {w w' : World} {a : Option Addr} {n c : Nat} {q : List UInt8} (h : Bytes b w a n c q) (hg : w.grownBy w' (some b)) : Bytes b w' a n c q := by
  refine ⟨h.len, h.cap, fun hn => ?_⟩
  obtain ⟨B, o, h1, h2, h3⟩ := h.at_ hn
  exact ⟨B, o, h1, h2, fun j x hx => hg.cell (h3 j x hx) (by simpa using h2)⟩
set_option maxRecDepth 100000 in
theorem Bytes.drop {b : Nat} {w : World} {B o : Nat} {n c : Nat} {q : List UInt8} (h : Bytes b w (some ⟨B, o, none⟩) n c q) (m : Nat) (hm : m ≤ n) (a : Option Addr) (ha : m < n → a = some ⟨B, o + m, none⟩) : Bytes b w a (n - m) (c - m) (q.drop m) := by
  refine ⟨by rw [List.length_drop, h.len], by have := h.cap; omega, fun hn => ?_⟩
  obtain ⟨B', o', h1, h2, h3⟩ := h.at_ (by omega)
  have e : B = B' ∧ o = o' := by simpa using h1
  obtain ⟨rfl, rfl⟩ := e
  refine ⟨B, o + m, ha (by omega), h2, fun j x hx => ?_⟩
  rw [List.getElem?_drop] at hx
  rw [Nat.add_assoc]
  exact h3 _ _ hx

set_option maxRecDepth 100000 in
theorem HS.setLen {w0 w : World} {b : Nat} {ws : List UInt32} {blk : List UInt8} {len : Nat} (h : HS w0 w b ws blk len) (hb0 : 3 ≠ b) (n : Nat) (v : Value) (hv : v = .int .u64 n) (w' : World) (hw : w.setCell ⟨b, 72, none⟩ v = w') : HS w0 w' b ws blk n := by
  subst hw hv
  refine ⟨h.h8, h.h64, ?_, h.gr.trans (gr_set _ _ _ _), h.kc.kept (gr_set _ _ _ _) (by simpa using hb0)⟩
  have := h.has.setCell 72 (.int .u64 n)
  rwa [hcs_setl _ _ _ _ h.h8 h.h64] at this
set_option maxRecDepth 100000 in
theorem HS.drewN {w0 w : World} {b : Nat} {ws : List UInt32} {blk : List UInt8} {len : Nat} (h : HS w0 w b ws blk len) (n : Nat) : HS w0 (w.drewN n) b ws blk len :=
  ⟨h.h8, h.h64, h.has, h.gr.trans (gr_drewN _ _ _), h.kc⟩

/-- copy into the block: its run, whatever was drawn -/
theorem copy28 {w0 w : World} {b : Nat} {ws : List UInt32} {blk : List UInt8} {len : Nat} (h : HS w0 w b ws blk len) (hb0 : 3 ≠ b) (r n c m B o : Nat) (q : List UInt8) (hq : Bytes b w (some ⟨B, o, none⟩) n c q) (hr : r < 64) (hm : m = Nat.min n (64 - r)) :
    ∃ w2, (∀ ty, (Builtin.copy_ #[36, 36] ty #[.slice (some ⟨b, 8 + r, none⟩) (64 - r) (64 - r), .slice (some ⟨B, o, none⟩) n c]).run Tryz.prog w.drew = .ok (.int .i64 m) w2) ∧
      HS w0 w2 b ws (blk.take r ++ q.take m ++ blk.drop (r + (q.take m).length)) len ∧ w.grownBy w2 (some b) := by
  have hmn : m ≤ n := by rw [hm]; exact Nat.min_le_left _ _
  have hmr : m ≤ 64 - r := by rw [hm]; exact Nat.min_le_right _ _
  have hl : (q.take m).length = m := by rw [List.length_take, hq.len]; omega
  have hd : HS w0 w.drew b ws blk len := h.drewN 1
  refine ⟨w.drew.setCells b (8 + r) ((q.take m).map bv), fun ty => ?_, ?_, ?_⟩
  · have := run_copy_cells (P := Tryz.prog) w.drew 36 36 ty 5 b (8 + r) (64 - r) (64 - r) ⟨B, o, none⟩ n c ((q.take m).map bv) under28 (by kernel_rfl) (by rw [List.length_map, hl, hm]) (fun j v hv => by
        rw [List.getElem?_map, List.getElem?_take] at hv
        split at hv
        · have hn : 0 < n := by omega
          obtain ⟨B', o', h1, h2, h3⟩ := hq.at_ hn
          have e : B = B' ∧ o = o' := by simpa using h1
          obtain ⟨rfl, rfl⟩ := e
          rw [Addr.add_mid]
          cases hx : q[j]? with
          | none => rw [hx] at hv; cases hv
          | some x =>
            rw [hx] at hv
            obtain rfl := Option.some.inj hv
            exact h3 j x hx
        · cases hv)
      (fun j hj => (hd.has.there (8 + r) m (by rw [hcs_length _ _ _ h.h8 h.h64]; omega) j (by rw [List.length_map, hl] at hj; exact hj)).1)
      (fun j hj => (hd.has.there (8 + r) m (by rw [hcs_length _ _ _ h.h8 h.h64]; omega) j (by rw [List.length_map, hl] at hj; exact hj)).2)
      (fun v hv => by obtain ⟨x, _, rfl⟩ := List.mem_map.1 hv; rfl)
    rw [this, List.length_map, hl]
    rfl
  · exact hd.sets hb0 r (q.take m) (by rw [hl]; omega) _ rfl
  · exact (gr_drewN w 1 _).trans (gr_sets _ _ _ _)

/-- where a Write stands -/
structure WR (w w' : World) (b : Nat) (all : List UInt8) (a : Option Addr) (n c : Nat) (T rest : List UInt8) : Prop where
  all_ : T ++ rest = all
  hs : ∃ ws blk, Sha.HP T ws blk ∧ HS w w' b ws blk (L64 T)
  by_ : Bytes b w' a n c rest

set_option maxRecDepth 100000 in
theorem WR.next {w wr w3 : World} {b : Nat} {all : List UInt8} {B o n c : Nat} {T rest : List UInt8} (h : WR w wr b all (some ⟨B, o, none⟩) n c T rest) (m len len2 : Nat) (hm : m ≤ n) (hlen : L64 T = len) (hl2 : (len + m) % 18446744073709551616 = len2) (ws3 : List UInt32) (blk3 : List UInt8)
    (hP : Sha.HP (T ++ rest.take m) ws3 blk3) (hS : HS w w3 b ws3 blk3 len2) (g : wr.grownBy w3 (some b)) (a' : Option Addr) (c' : Nat) (hc : c' = c - m) (ha : m < n → a' = some ⟨B, o + m, none⟩) : ∃ T' rest', WR w w3 b all a' (n - m) c' T' rest' := by
  subst hc
  have hl : (rest.take m).length = m := by rw [List.length_take, h.by_.len]; omega
  refine ⟨T ++ rest.take m, rest.drop m, ?_, ⟨ws3, blk3, hP, ?_⟩, (h.by_.kept g).drop m hm a' ha⟩
  · rw [List.append_assoc, List.take_append_drop]; exact h.all_
  · have e : L64 (T ++ rest.take m) = len2 := by
      unfold L64 at hlen ⊢
      rw [List.length_append, hl]
      omega
    rw [e]; exact hS

set_option maxRecDepth 100000 in
set_option maxHeartbeats 8000000 in
theorem write_gen (b : Nat) (a : Option Addr) (n c : Nat) (T q : List UInt8) (w : World) (hh : HashOf w b T) (hk : Kc w) (hb0 : 3 ≠ b) (hq : Bytes b w a n c q) (hn0 : n ≤ 4611686018427387904) :
    Calls Tryz.prog 100 #[.pointer (some ⟨b, 0, none⟩), .slice a n c] w fun e w' => e = .returned (.tuple #[]) ∧ HashOf w' b (T ++ q) ∧ w.grownBy w' (some b) := by
  have H0 : Keep (WR w w b (T ++ q) a n c T q) := ⟨rfl, by
    obtain ⟨ws, blk, h1, h2⟩ := hh
    exact ⟨ws, blk, h1, HP8 h1, h1.2.1, h2, World.grownBy.refl _ _, hk⟩, hq⟩
  generalize T ++ q = all at *
  clear hh hk hq
  go_enter Tryz.func100, Tryz.ntmps100
  go_wp2
  go_loopw [1] (fun v w' => ∃ (a : Option Addr) (n c : Nat), n ≤ 4611686018427387904 ∧ v = .slice a n c ∧ Keep (∃ T rest, WR w w' b all a n c T rest)) (fun v _ => sliceLen v)
  case atStart => exact ⟨a, n, c, hn0, rfl, ⟨_, _, H0.out⟩⟩
  case round =>
    obtain ⟨a, n, c, hlen, rfl, hrel⟩ := hrel
    by_cases hn : 0 < n
    · obtain ⟨T, rest, hW⟩ := hrel.out
      obtain ⟨ws, blk, hP, hS⟩ := hW.hs
      obtain ⟨B, o, rfl, hB, hcell⟩ := hW.by_.at_ hn
      obtain ⟨r, hr⟩ : ∃ r, T.length % 64 = r := ⟨_, rfl⟩
      obtain ⟨m, hm⟩ : ∃ m, m = Nat.min n (64 - r) := ⟨_, rfl⟩
      obtain ⟨w2, hcp, h2, g2⟩ := copy28 hS hb0 r n c m B o rest hW.by_ (by omega) hm
      have hLm := L64_mod T
      have hr' : ((L64 T : Nat) : Int) % 64 = (r : Int) := by omega
      have hs := slice41 .u64 b 8 (r : Int) r rfl (by omega)
      have hlc := hS.len
      have hlc2 := h2.len
      have hf2 := h2.has.frozen 72
      have hmn : m ≤ n := by rw [hm]; exact Nat.min_le_left _ _
      have hmr : r + m ≤ 64 := by have : m ≤ 64 - r := by { rw [hm]; exact Nat.min_le_right _ _ }; omega
      have hm0 : 0 < m := by rw [hm]; simp only [Nat.min_def]; split <;> omega
      have hcap := hW.by_.cap
      have HR : Keep (T.length % 64 = r) := ⟨hr⟩
      have HW : Keep (WR w wr b all (some ⟨B, o, none⟩) n c T rest) := ⟨hW⟩
      have HPP : Keep (Sha.HP T ws blk) := ⟨hP⟩
      have H2 : Keep (HS w w2 b ws (blk.take r ++ rest.take m ++ blk.drop (r + (rest.take m).length)) (L64 T) ∧ wr.grownBy w2 (some b)) := ⟨h2, g2⟩
      have hLl := L64_lt T
      obtain ⟨len, hlen'⟩ : ∃ x, L64 T = x := ⟨_, rfl⟩
      rw [hlen'] at hr' hlc hlc2 hLl
      have HLEN : Keep (L64 T = len) := ⟨hlen'⟩
      have hll : len < 18446744073709551616 := hLl
      obtain ⟨len2, hl2⟩ : ∃ x, (len + m) % 18446744073709551616 = x := ⟨_, rfl⟩
      have HL2 : Keep ((len + m) % 18446744073709551616 = len2) := ⟨hl2⟩
      have el2 : ((len : Int) + (m : Int)) % 18446744073709551616 = (len2 : Int) := by omega
      have ew2 : IntKind.u64.wrap ((len : Int) + (m : Int)) = (len2 : Int) := by rw [← el2]; simp [IntKind.wrap, IntKind.bits, IntKind.signed]
      have em2 : (len2 : Int) % 64 = ((r : Int) + (m : Int)) % 64 := by omega
      have hl2l : len2 < 18446744073709551616 := by omega
      have EM : Keep ((len2 : Int) % 64 = ((r : Int) + (m : Int)) % 64) := ⟨em2⟩
      rw [hlen'] at H2
      clear hrel hW hS hP hcell hm hr h2 g2 hlen' hl2 hLm hLl em2
      go_wp2
      go_region
      have H3 : Keep (HS w (w2.setCell ⟨b, 72, none⟩ (.int .u64 (len2 : Int))) b ws (blk.take r ++ rest.take m ++ blk.drop (r + (rest.take m).length)) len2 ∧ wr.grownBy (w2.setCell ⟨b, 72, none⟩ (.int .u64 (len2 : Int))) (some b)) :=
        ⟨H2.out.1.setLen hb0 len2 _ rfl _ rfl, H2.out.2.trans (gr_set _ _ _ _)⟩
      have hm64 : (m : Int) ≤ (n : Int) := by omega
      have HM : Keep ((rest.take m).length = m) := ⟨by rw [List.length_take, HW.out.by_.len]; omega⟩
      by_cases hfull : r + m = 64
      · have ht : ((len2 : Int) % 64 == 0) = true := by rw [beq_iff_eq, EM.out]; omega
        have HPN : Keep (Sha.HP (T ++ rest.take m) (Sha.mixW ws (blk.take r ++ rest.take m ++ blk.drop (r + (rest.take m).length))) (blk.take r ++ rest.take m ++ blk.drop (r + (rest.take m).length))) := ⟨by
          have := HPP.out.full (rest.take m) (by rw [HR.out, HM.out]; exact hfull)
          rwa [HR.out] at this⟩
        clear hfull
        by_cases hmc : m = c
        · have hnm : n = m := by omega
          subst hmc
          subst hnm
          have HX : Keep (n < n → some (⟨B, o, none⟩ : Addr) = some ⟨B, o + n, none⟩) := ⟨fun h => by omega⟩
          have HY : Keep (0 = n - n) := ⟨by omega⟩
          go_wp2_with (go_at_call 133; refine (mix_any _ _ len2 b _ H3.out.1.h8 H3.out.1.h64 H3.out.1.has H3.out.1.kc).mono ?_; rintro e w5 ⟨rfl, h5, g5⟩; have H5 : Keep (HS w w5 b (Sha.mixW ws (blk.take r ++ rest.take n ++ blk.drop (r + (rest.take n).length))) (blk.take r ++ rest.take n ++ blk.drop (r + (rest.take n).length)) len2 ∧ wr.grownBy w5 (some b)) := ⟨H3.out.1.mixed hb0 h5 g5, H3.out.2.trans g5⟩; clear h5 g5)
          all_goals (refine ⟨⟨_, 0, 0, by omega, rfl, ⟨by have := HW.out.next n len len2 (Nat.le_refl _) HLEN.out HL2.out _ _ HPN.out H5.out.1 H5.out.2 _ _ HY.out HX.out; rw [Nat.sub_self] at this; exact this⟩⟩, ?_⟩; simp only [sliceLen]; omega)
        · go_wp2_with (go_at_call 133; refine (mix_any _ _ len2 b _ H3.out.1.h8 H3.out.1.h64 H3.out.1.has H3.out.1.kc).mono ?_; rintro e w5 ⟨rfl, h5, g5⟩; have H5 : Keep (HS w w5 b (Sha.mixW ws (blk.take r ++ rest.take m ++ blk.drop (r + (rest.take m).length))) (blk.take r ++ rest.take m ++ blk.drop (r + (rest.take m).length)) len2 ∧ wr.grownBy w5 (some b)) := ⟨H3.out.1.mixed hb0 h5 g5, H3.out.2.trans g5⟩; clear h5 g5)
          all_goals (refine ⟨⟨_, n - m, _, by omega, rfl, ⟨HW.out.next m len len2 hmn HLEN.out HL2.out _ _ HPN.out H5.out.1 H5.out.2 _ _ rfl (fun _ => rfl)⟩⟩, ?_⟩; simp only [sliceLen]; omega)
      · have ht : ((len2 : Int) % 64 == 0) = false := by rw [beq_eq_false_iff_ne, EM.out]; omega
        have HPN : Keep (Sha.HP (T ++ rest.take m) ws (blk.take r ++ rest.take m ++ blk.drop (r + (rest.take m).length))) := ⟨by
          have := HPP.out.part (rest.take m) (by rw [HR.out, HM.out]; omega)
          rwa [HR.out] at this⟩
        clear hfull
        by_cases hmc : m = c
        · have hnm : n = m := by omega
          subst hmc
          subst hnm
          have HX : Keep (n < n → some (⟨B, o, none⟩ : Addr) = some ⟨B, o + n, none⟩) := ⟨fun h => by omega⟩
          have HY : Keep (0 = n - n) := ⟨by omega⟩
          go_wp2
          all_goals (refine ⟨⟨_, 0, 0, by omega, rfl, ⟨by have := HW.out.next n len len2 (Nat.le_refl _) HLEN.out HL2.out _ _ HPN.out H3.out.1 H3.out.2 _ _ HY.out HX.out; rw [Nat.sub_self] at this; exact this⟩⟩, ?_⟩; simp only [sliceLen]; omega)
        · go_wp2
          all_goals (refine ⟨⟨_, n - m, _, by omega, rfl, ⟨HW.out.next m len len2 hmn HLEN.out HL2.out _ _ HPN.out H3.out.1 H3.out.2 _ _ rfl (fun _ => rfl)⟩⟩, ?_⟩; simp only [sliceLen]; omega)
    · have HE : Keep (HashOf wr b all ∧ w.grownBy wr (some b)) := ⟨by
        obtain ⟨T, rest, hW⟩ := hrel.out
        obtain ⟨ws, blk, hP, hS⟩ := hW.hs
        have hr : rest = [] := List.length_eq_zero_iff.1 (by rw [hW.by_.len]; omega)
        have ha := hW.all_
        rw [hr, List.append_nil] at ha
        rw [← ha]
        exact ⟨⟨ws, blk, hP, hS.has⟩, hS.gr⟩⟩
      clear hrel
      go_wp2
      go_end0
      exact ⟨rfl, HE.out⟩
set_option maxRecDepth 100000 in
theorem write_any (b : Nat) (a : Option Addr) (n c : Nat) (T q : List UInt8) (w : World) (hh : HashOf w b T) (hk : Kc w) (hb0 : 3 ≠ b) (hq : Bytes b w a n c q) (hT : T.length + q.length ≤ 4611686018427387904) :
    Calls Tryz.prog 100 #[.pointer (some ⟨b, 0, none⟩), .slice a n c] w fun e w' => e = .returned (.tuple #[]) ∧ HashOf w' b (T ++ q) ∧ w.grownBy w' (some b) :=
  write_gen b a n c T q w hh hk hb0 hq (by have := hq.len; omega)
end Go.Proofs.YtjbkoablleneeaaGreatDoor

namespace Go.Proofs.YtjbkoablleneeaaGreatDoor
open Go Go.RowKit

/-- the bytes of a slice -/
structure BytesOf (w : World) (a : Option Addr) (n c : Nat) (q : List UInt8) : Prop where
  len : q.length = n
  cap : n ≤ c
  at_ : 0 < n → ∃ B o, a = some ⟨B, o, none⟩ ∧ ∀ j x, q[j]? = some x → w.cell? ⟨B, o + j, none⟩ = some (bv x)
set_option maxRecDepth 100000 in
theorem BytesOf.kept {w w' : World} {a : Option Addr} {n c : Nat} {q : List UInt8} (h : BytesOf w a n c q) (hg : w.grownBy w' none) : BytesOf w' a n c q := by
  refine ⟨h.len, h.cap, fun hn => ?_⟩
  obtain ⟨B, o, h1, h3⟩ := h.at_ hn
  exact ⟨B, o, h1, fun j x hx => hg.cell (h3 j x hx) (by simp)⟩
set_option maxRecDepth 100000 in
theorem BytesOf.apart {w w' : World} {a : Option Addr} {n c b : Nat} {q : List UInt8} (h : BytesOf w a n c q) (hg : w.grownBy w' none) (hb : w.heap.size ≤ b) : Bytes b w' a n c q := by
  refine ⟨h.len, h.cap, fun hn => ?_⟩
  obtain ⟨B, o, h1, h3⟩ := h.at_ hn
  refine ⟨B, o, h1, ?_, fun j x hx => hg.cell (h3 j x hx) (by simp)⟩
  have hl : 0 < q.length := by rw [h.len]; exact hn
  have := World.block_lt_of_cell? w _ (h3 0 q[0] (by rw [List.getElem?_eq_getElem hl]))
  simp at this
  omega
/-- a list of slices -/
structure Parts (w : World) (a : Option Addr) (n : Nat) (ps : List (List UInt8)) : Prop where
  len : ps.length = n
  at_ : 0 < n → ∃ B o, a = some ⟨B, o, none⟩ ∧ ∀ j q, ps[j]? = some q → ∃ a' n' c', w.cell? ⟨B, o + j, none⟩ = some (.slice a' n' c') ∧ BytesOf w a' n' c' q

set_option maxRecDepth 100000 in
theorem take_flat (ps : List (List UInt8)) (i : Nat) (hi : i < ps.length) : (ps.take (i + 1)).flatten = (ps.take i).flatten ++ ps[i] := by
  rw [List.take_succ_eq_append_getElem hi, List.flatten_append]; simp
set_option maxRecDepth 100000 in
theorem flat_le (ps : List (List UInt8)) (i : Nat) : (ps.take i).flatten.length ≤ ps.flatten.length := by
  have e : ps.flatten = (ps.take i).flatten ++ (ps.drop i).flatten := by rw [← List.flatten_append, List.take_append_drop]
  rw [e, List.length_append]; omega

structure OfRel (w w' : World) (ps : List (List UInt8)) (i : Nat) : Prop where
  r : Has w' w.heap.size ((List.replicate 32 (0 : UInt8)).map bv) 76
  h : HashOf w' (w.heap.size + 1) (ps.take i).flatten
  g : w.grownBy w' none
set_option maxRecDepth 100000 in
theorem OfRel.start (w w1 : World) (C : Array Value) (ps : List (List UInt8)) (hC : C = ((List.replicate 32 (0 : UInt8)).map bv).toArray) (h1 : HashOf w1 (w.alloc (.cells C 76)).heap.size []) (g1 : (w.alloc (.cells C 76)).grownBy w1 none) : OfRel w w1 ps 0 := by
  subst hC
  rw [heap1] at h1
  exact ⟨(Has.new _ _ _).kept g1 (by simp), h1, (World.grownBy_alloc _ _ _).trans g1⟩

end Go.Proofs.YtjbkoablleneeaaGreatDoor

namespace Go.Proofs.YtjbkoablleneeaaGreatDoor
open Go Go.RowKit

/-- the reference's plan, as far as it has come -/
structure PRel (blk : List UInt8) (w w' : World) (k : Nat) : Prop where
  z : Has w' w.heap.size ((List.replicate 64 (0 : UInt32)).map wv) 182
  l : Has w' (w.heap.size + 1) ((Sha.schedTo blk k).map wv) 182
  g : w.grownBy w' none
set_option maxRecDepth 100000 in
theorem PRel.start (blk : List UInt8) (w : World) (B C : Array Value) (hB : B = ((List.replicate 64 (0 : UInt32)).map wv).toArray) (hC : C = ((List.replicate 64 (0 : UInt32)).map wv).toArray) :
    PRel blk w ((w.alloc (.cells B 182)).alloc (.cells C 182)) 0 := by
  subst hB hC
  refine ⟨(Has.new w _ 182).alloc _, Has.new1 _ _ _ _ (heap1 _ _), ?_⟩
  exact (World.grownBy_alloc _ _ _).trans (World.grownBy_alloc _ _ _)
set_option maxRecDepth 100000 in
theorem PRel.lcell {blk : List UInt8} {w w' : World} {k : Nat} (h : PRel blk w w' k) (j : Nat) (hj : j < 64) : w'.cell? ⟨w.heap.size + 1, j, none⟩ = some (.int .u32 ((Sha.schedTo blk k).getD j 0).toNat) :=
  h.l.cellv _ _ (get_map wv _ 0 j (by rw [Sha.schedTo_len]; omega))
set_option maxRecDepth 100000 in
theorem PRel.drewN {blk : List UInt8} {w w' : World} {k : Nat} (h : PRel blk w w' k) (n : Nat) : PRel blk w (w'.drewN n) k :=
  ⟨h.z, h.l, h.g.trans (gr_drewN _ _ _)⟩
set_option maxRecDepth 100000 in
theorem PRel.step {blk : List UInt8} {w w' : World} {k : Nat} (h : PRel blk w w' k) (v : Value) (hv : v = wv (Sha.wval blk (Sha.schedTo blk k) k)) : PRel blk w (w'.setCell ⟨w.heap.size + 1, k, none⟩ v) (k + 1) := by
  subst hv
  refine ⟨h.z.other _ _ (by simp), ?_, gr_new h.g (gr_set _ _ _ _) (by omega)⟩
  have := h.l.setCell k (wv (Sha.wval blk (Sha.schedTo blk k) k))
  rw [Sha.schedTo, List.map_set]
  exact this

set_option maxRecDepth 100000 in
theorem pl_eq (y2 y7 y15 y16 : UInt32) : ((((y16.toNat : Int) + bits .xor .u32 (bits .xor .u32 ((Sha.rotr 7 y15).toNat : Int) ((Sha.rotr 18 y15).toNat : Int)) ((y15.toNat : Int) / (8 : Int))) % (4294967296 : Int) + (y7.toNat : Int)) % (4294967296 : Int) + bits .xor .u32 (bits .xor .u32 ((Sha.rotr 17 y2).toNat : Int) ((Sha.rotr 19 y2).toNat : Int)) ((y2.toNat : Int) / (1024 : Int))) % (4294967296 : Int) = ((Sha.ss1 y2 + y7 + Sha.ss0 y15 + y16).toNat : Int) := by
  rw [shr_gen y15 3 8 (by decide) (by decide), shr_gen y2 10 1024 (by decide) (by decide), b_xor, b_xor, b_xor, b_xor, b_add, b_add, b_add]
  have : y16 + Sha.ss0 y15 + y7 + Sha.ss1 y2 = Sha.ss1 y2 + y7 + Sha.ss0 y15 + y16 := by ac_rfl
  rw [← this]; rfl
set_option maxRecDepth 100000 in
theorem turnc (x : UInt32) (k : Nat) (kk : Int) (hkk : kk = (k : Int)) (hk : k = 2 ∨ k = 6 ∨ k = 7 ∨ k = 11 ∨ k = 13 ∨ k = 17 ∨ k = 18 ∨ k = 19 ∨ k = 22 ∨ k = 25) (w : World) :
    Calls Tryz.prog 104 #[.int .u32 x.toNat, .int .i64 kk] w fun e w' => e = .returned (.int .u32 (Sha.rotr (UInt32.ofNat k) x).toNat) ∧ ∃ n, w' = w.drewN n := by
  subst hkk; exact turn_any x k w hk

set_option maxRecDepth 100000 in
set_option maxHeartbeats 8000000 in
theorem plan_any (B o n c at_ : Nat) (l : List UInt8) (w : World) (hl : BytesOf w (some ⟨B, o, none⟩) n c l) (hat : at_ + 64 ≤ n) (hn : n ≤ 4611686018427387904) :
    Calls Tryz.prog 103 #[.slice (some ⟨B, o, none⟩) n c, .int .i64 (at_ : Int)] w fun e w' => e = .returned (.agg ((Sha.sched ((l.drop at_).take 64)).map wv).toArray) ∧ w.grownBy w' none := by
  have HL : Keep (BytesOf w (some ⟨B, o, none⟩) n c l) := ⟨hl⟩
  have hBw : B < w.heap.size := by
    obtain ⟨B', o', h1, h2⟩ := hl.at_ (by omega)
    have e : B = B' ∧ o = o' := by simpa using h1
    obtain ⟨rfl, rfl⟩ := e
    have h0 : 0 < l.length := by rw [hl.len]; omega
    exact World.block_lt_of_cell? w _ (h2 0 l[0] (List.getElem?_eq_getElem h0))
  have HCELL : Keep (∀ w' : World, w.grownBy w' none → ∀ j, j < n → w'.cell? ⟨B, o + j, none⟩ = some (.int .u8 (l.getD j 0).toNat)) := ⟨fun w' hg j hj => by
    obtain ⟨B', o', h1, h2⟩ := hl.at_ (by omega)
    have e : B = B' ∧ o = o' := by simpa using h1
    obtain ⟨rfl, rfl⟩ := e
    have h0 : j < l.length := by rw [hl.len]; omega
    have := hg.cell (h2 j l[j] (List.getElem?_eq_getElem h0)) (by simp)
    rw [this]
    simp [List.getD, h0]⟩
  obtain ⟨blk, hblk⟩ : ∃ b, (l.drop at_).take 64 = b := ⟨_, rfl⟩
  have HBK : Keep ((l.drop at_).take 64 = blk ∧ ∀ j, j < 64 → blk.getD j 0 = l.getD (at_ + j) 0) := ⟨hblk, fun j hj => by
    rw [← hblk]
    simp only [List.getD]
    rw [List.getElem?_take, if_pos hj, List.getElem?_drop]⟩
  clear hl hblk
  go_enter Tryz.func103, Tryz.ntmps103
  go_wp2
  go_loopw [6] (fun i w' => ∃ k : Nat, k ≤ 16 ∧ i = .int .i64 k ∧ Keep (PRel blk w w' k)) (fun i _ => 16 - (intOf i).toNat)
  case atStart => exact ⟨0, by omega, rfl, ⟨PRel.start blk w _ _ rfl rfl⟩⟩
  case round =>
    obtain ⟨k, hk, rfl, hrel⟩ := hrel
    by_cases hlt : k < 16
    · obtain ⟨i, hi⟩ : ∃ i, at_ + 4 * k = i := ⟨_, rfl⟩
      have hi' : (at_ : Int) + 4 * (k : Int) = (i : Int) := by omega
      have c0 := HCELL.out wr hrel.out.g i (by omega)
      have c1 := HCELL.out wr hrel.out.g (i + 1) (by omega)
      have c2 := HCELL.out wr hrel.out.g (i + 2) (by omega)
      have c3 := HCELL.out wr hrel.out.g (i + 3) (by omega)
      have e0 := HBK.out.2 (4 * k) (by omega)
      have e1 := HBK.out.2 (4 * k + 1) (by omega)
      have e2 := HBK.out.2 (4 * k + 2) (by omega)
      have e3 := HBK.out.2 (4 * k + 3) (by omega)
      rw [show at_ + 4 * k = i from hi] at e0
      rw [show at_ + (4 * k + 1) = i + 1 by omega] at e1
      rw [show at_ + (4 * k + 2) = i + 2 by omega] at e2
      rw [show at_ + (4 * k + 3) = i + 3 by omega] at e3
      rw [← e0] at c0
      rw [← e1] at c1
      rw [← e2] at c2
      rw [← e3] at c3
      obtain ⟨b0, h0⟩ : ∃ x, blk.getD (4 * k) 0 = x := ⟨_, rfl⟩
      obtain ⟨b1, h1⟩ : ∃ x, blk.getD (4 * k + 1) 0 = x := ⟨_, rfl⟩
      obtain ⟨b2, h2⟩ : ∃ x, blk.getD (4 * k + 2) 0 = x := ⟨_, rfl⟩
      obtain ⟨b3, h3⟩ : ∃ x, blk.getD (4 * k + 3) 0 = x := ⟨_, rfl⟩
      rw [h0] at c0
      rw [h1] at c1
      rw [h2] at c2
      rw [h3] at c3
      have HV : Keep (Sha.wval blk (Sha.schedTo blk k) k = Sha.word4 b0 b1 b2 b3) := ⟨by
        rw [Sha.wval, if_pos hlt, Sha.wordAt, h0, h1, h2, h3]⟩
      have hc := hrel.out.lcell k (by omega)
      have hf := hrel.out.l.frozen k
      have l0 := b0.toNat_lt
      have l1 := b1.toNat_lt
      have l2 := b2.toNat_lt
      have l3 := b3.toNat_lt
      have hin : (i : Int) + 3 < (n : Int) := by omega
      have hBN : w.heap.size + 1 ≠ B := by omega
      clear e0 e1 e2 e3 h0 h1 h2 h3 hi
      go_wp2
      go_region
      all_goals go_wp2
      refine ⟨⟨k + 1, by omega, by go_num, ⟨(hrel.out.step _ (by rw [HV.out, word_eq])).drewN 1⟩⟩, ?_⟩
      simp [intOf]; omega
    · have hrel0 : Keep (PRel blk w wr 16) := ⟨by
        have hk16 : k = 16 := by omega
        rw [← hk16]; exact hrel.out⟩
      go_wp2_with fail
      clear hrel
      generalize (Value.int .i64 (k : Int)) = K6
      clear hk hlt
      go_loopw [8] (fun i w' => ∃ k : Nat, k ≤ 48 ∧ i = .int .i64 (k + 16) ∧ Keep (PRel blk w w' (k + 16))) (fun i _ => 64 - (intOf i).toNat)
      case atStart => exact ⟨0, by omega, rfl, hrel0⟩
      case round =>
        obtain ⟨k, hk, rfl, hrel2⟩ := hrel
        clear hrel0
        by_cases hlt : k < 48
        · have hc := hrel2.out.lcell (k + 16) (by omega)
          have hf := hrel2.out.l.frozen (k + 16)
          obtain ⟨y2, hy2⟩ : ∃ y, (Sha.schedTo blk (k + 16)).getD (k + 14) 0 = y := ⟨_, rfl⟩
          obtain ⟨y7, hy7⟩ : ∃ y, (Sha.schedTo blk (k + 16)).getD (k + 9) 0 = y := ⟨_, rfl⟩
          obtain ⟨y15, hy15⟩ : ∃ y, (Sha.schedTo blk (k + 16)).getD (k + 1) 0 = y := ⟨_, rfl⟩
          obtain ⟨y16, hy16⟩ : ∃ y, (Sha.schedTo blk (k + 16)).getD k 0 = y := ⟨_, rfl⟩
          have c2 := hrel2.out.lcell (k + 14) (by omega)
          have c7 := hrel2.out.lcell (k + 9) (by omega)
          have c15 := hrel2.out.lcell (k + 1) (by omega)
          have c16 := hrel2.out.lcell k (by omega)
          rw [hy2] at c2
          rw [hy7] at c7
          rw [hy15] at c15
          rw [hy16] at c16
          have HV : Keep (Sha.wval blk (Sha.schedTo blk (k + 16)) (k + 16) = Sha.ss1 y2 + y7 + Sha.ss0 y15 + y16) := ⟨by
            rw [Sha.wval, if_neg (by omega), show k + 16 - 2 = k + 14 by omega, show k + 16 - 7 = k + 9 by omega, show k + 16 - 15 = k + 1 by omega, show k + 16 - 16 = k by omega, hy2, hy7, hy15, hy16]⟩
          clear hy2 hy7 hy15 hy16
          have i0 : (0 : Int) ≤ (k : Int) := by omega
          have i1 : (k : Int) < 48 := by omega
          have x7 : IntKind.i64.wrap ((k : Int) + 16 - 7) = (k : Int) + 9 := by rw [IntWalk.i64_in _ (by omega)]; omega
          have p7 : (0 : Int) ≤ (k : Int) + 9 := by omega
          have q7 : (k : Int) + 9 < 64 := by omega
          have r7 : ((k : Int) + 9).toNat = k + 9 := by omega
          have x16 : IntKind.i64.wrap (k : Int) = (k : Int) := IntWalk.i64_in _ (by omega)
          have q16 : (k : Int) < 64 := by omega
          have p0 : (0 : Int) ≤ (k : Int) + 16 := by omega
          have q0 : (k : Int) + 16 < 64 := by omega
          have r0 : ((k : Int) + 16).toNat = k + 16 := by omega
          go_wp2
          go_quiet (fail)
          go_wp2_with fail
          have H1 : Keep (PRel blk w (wr.drewN nq) (k + 16)) := ⟨hrel2.out.drewN nq⟩
          have C1 : (wr.drewN nq).cell? ⟨w.heap.size + 1, k + 16, none⟩ = some (.int .u32 ((Sha.schedTo blk (k + 16)).getD (k + 16) 0).toNat) ∧ (wr.drewN nq).frozen? ⟨w.heap.size + 1, k + 16, none⟩ = false ∧ (wr.drewN nq).cell? ⟨w.heap.size + 1, k + 9, none⟩ = some (.int .u32 y7.toNat) ∧ (wr.drewN nq).cell? ⟨w.heap.size + 1, k, none⟩ = some (.int .u32 y16.toNat) := ⟨hc, hf, c7, c16⟩
          clear hc hf c7 c16 c2 c15 hrel2
          generalize wr.drewN nq = w1 at H1 C1 ⊢
          obtain ⟨hc, hf, c7, c16⟩ := C1
          go_region_held (fun w' => w'.cell? ⟨w.heap.size + 1, k + 9, none⟩ = some (.int .u32 y7.toNat) ∧ w'.cell? ⟨w.heap.size + 1, k, none⟩ = some (.int .u32 y16.toNat)) (simp [*, World.cell?_setCell_other])
            (first
              | (go_at_call_of 104 (7 : Int); refine (turnc y15 7 7 rfl (by decide) _).mono ?_; rintro e w' ⟨rfl, n1, rfl⟩)
              | (go_at_call_of 104 (18 : Int); refine (turnc y15 18 18 rfl (by decide) _).mono ?_; rintro e w' ⟨rfl, n2, rfl⟩)
              | (go_at_call_of 104 (17 : Int); refine (turnc y2 17 17 rfl (by decide) _).mono ?_; rintro e w' ⟨rfl, n3, rfl⟩)
              | (go_at_call_of 104 (19 : Int); refine (turnc y2 19 19 rfl (by decide) _).mono ?_; rintro e w' ⟨rfl, n4, rfl⟩))
          go_wp2
          refine ⟨⟨k + 1, by omega, by go_num, ⟨by rw [show k + 1 + 16 = k + 16 + 1 by omega]; exact (H1.out.drewN _).step _ (by rw [HV.out, pl_eq])⟩⟩, ?_⟩
          simp [intOf]; omega
        · have hrel3 : Keep (PRel blk w wr 64) := ⟨by
            have hk48 : k + 16 = 64 := by omega
            rw [← hk48]; exact hrel2.out⟩
          clear hrel2
          have hlen := Sha.schedTo_len blk 64
          have hb : Has wr (w.heap.size + 1) ((Sha.sched blk).map wv) 182 := hrel3.out.l
          have hz := hrel3.out.z
          have hg := hrel3.out.g
          clear hrel3
          rw [← Sha.sched] at hlen
          obtain ⟨L, hLq⟩ : ∃ L, Sha.sched blk = L := ⟨_, rfl⟩
          rw [hLq] at hlen hb
          have HQ : Keep (Sha.sched ((l.drop at_).take 64) = L) := ⟨by rw [HBK.out.1]; exact hLq⟩
          clear hLq
          have HB : Keep (Has wr (w.heap.size + 1) (L.map wv) 182) := ⟨hb⟩
          have HZ : Keep (Has wr w.heap.size ((List.replicate 64 (0 : UInt32)).map wv) 182) := ⟨hz⟩
          have HG : Keep (w.grownBy wr none) := ⟨hg⟩
          have HLL : Keep (L.length = 64) := ⟨hlen⟩
          clear hb hz hg hlen
          have HI : Keep ((Tryz.prog.info? 182).map (·.size) = some (L.map wv).length) := ⟨by
            rw [List.length_map, HLL.out]; exact size50⟩
          have HE : Keep (Has (wr.setCells w.heap.size 0 (L.map wv)) w.heap.size (L.map wv) 182 ∧ w.grownBy (wr.setCells w.heap.size 0 (L.map wv)) none) :=
            ⟨HZ.out.setAll _ (by simp [HLL.out]), gr_new HG.out (gr_sets _ _ _ _) (Nat.le_refl _)⟩
          go_wp2_with (first
            | (refine wpList_load_mid rfl 182 _ rfl _ _ rfl _ _ HB.out.range under50 rfl HI.out ?_)
            | (refine wpList_store_mid rfl 182 _ _ rfl _ _ _ rfl rfl (HZ.out.there _ _ (by simp [HLL.out])) HI.out (all_oneCell_toArray (by simp [Value.oneCell'])) ?_))
          refine ret_cell (b := w.heap.size) (cs := L.map wv) (t := 182) rfl rfl ?_ under50 rfl HI.out rfl ⟨by rw [HQ.out], ?_⟩
          · exact HE.out.1
          · exact HE.out.2
end Go.Proofs.YtjbkoablleneeaaGreatDoor

