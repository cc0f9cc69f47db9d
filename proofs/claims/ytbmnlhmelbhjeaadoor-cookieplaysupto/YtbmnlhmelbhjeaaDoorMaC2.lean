import Derived.Test.YtbmnlhmelbhjeaaDoorMaC1
import Derived.Laws.MakeOwn
namespace Go.Proofs.YtbmnlhmelbhjeaaDoor
open Go Go.RowKit

theorem made_eq (n : Nat) : madeCells #[Value.int .u8 0] n = ((List.replicate n (0 : UInt8)).map bv).toArray := by
  apply Array.ext
  · simp [size_madeCells]
  · intro i h1 h2
    simp [madeCells, Nat.mod_one]
theorem make28 (n : Nat) (hn : n ≤ 281474976710656) (W : World) : (Instr.makeSlice 67 (.int .i64 (n : Int)) (.int .i64 (n : Int))).run Tryd.prog W = .ok (.slice (some ⟨W.heap.size, 0, none⟩) n n) (W.alloc (.cells ((List.replicate n (0 : UInt8)).map bv).toArray 5)) := by
  have hi : ∃ i, Tryd.prog.info? 5 = some i ∧ i.size = 1 ∧ i.bytes = 1 ∧ i.zero = some (.int .u8 0) := by
    have h : (Tryd.prog.info? 5).map (fun i => (i.size, i.bytes, i.zero)) = some (1, 1, some (.int .u8 0)) := by kernel_rfl
    cases hq : Tryd.prog.info? 5 with
    | none => simp [hq] at h
    | some i =>
      simp only [hq, Option.map_some, Option.some.injEq, Prod.mk.injEq] at h
      exact ⟨i, rfl, h.1, h.2.1, h.2.2⟩
  obtain ⟨i, h1, h2, h3, h4⟩ := hi
  have := run_make (P := Tryd.prog) W 67 5 i (.int .u8 0) under28 h1 h4 .i64 .i64 n n (by omega) (by omega) (by rw [h3]; omega) (by omega)
  rw [this, h2, Nat.mul_one, Int.toNat_natCast]
  simp only [Value.cells]
  rw [made_eq]

/-- the text as far as it was copied, zeros behind -/
def cpTo (t : List UInt8) (size i : Nat) : List UInt8 := t.take i ++ List.replicate (size - i) 0
theorem cpTo_len (t : List UInt8) (size i : Nat) (hi : i ≤ t.length) (hs : i ≤ size) : (cpTo t size i).length = size := by
  rw [cpTo, List.length_append, List.length_take, List.length_replicate]; omega
theorem cpTo_step (t : List UInt8) (size i : Nat) (hi : i < t.length) (hs : i < size) : (cpTo t size i).set i (t.getD i 0) = cpTo t size (i + 1) := by
  have e : t.take (i + 1) = t.take i ++ [t.getD i 0] := by
    rw [List.take_succ_eq_append_getElem hi]; simp [List.getD, hi]
  have l : (t.take i).length = i := by rw [List.length_take]; omega
  rw [cpTo, cpTo, List.set_append_right _ _ (by omega), l, Nat.sub_self, e, show size - i = (size - (i + 1)) + 1 by omega, List.replicate_succ, List.set_cons_zero]
  simp
/-- the base: the text, 128, zeros; eight bytes more behind it -/
def base8 (t : List UInt8) (size : Nat) : List UInt8 := t ++ 128 :: List.replicate (size - 8 - (t.length + 1)) 0
def endTo (n i : Nat) : List UInt8 := List.replicate (8 - i) 0 ++ (Sha.len8 n).drop (8 - i)
theorem base8_start (t : List UInt8) (size : Nat) (hs : t.length + 9 ≤ size) : (cpTo t size t.length).set t.length 128 = base8 t size ++ endTo t.length 0 := by
  rw [cpTo, List.take_length, List.set_append_right _ _ (by omega), Nat.sub_self, show size - t.length = (size - 8 - (t.length + 1)) + 8 + 1 by omega, List.replicate_succ, List.set_cons_zero, base8, endTo, ← List.replicate_append_replicate]
  simp [Sha.len8, Sha.w4]
theorem base8_len (t : List UInt8) (size : Nat) (hs : t.length + 9 ≤ size) : (base8 t size).length = size - 8 := by
  simp only [base8, List.length_append, List.length_cons, List.length_replicate]; omega
theorem end_step (n : Nat) (v : UInt8) : ∀ i : Nat, i < 8 → (Sha.len8 n).getD (7 - i) 0 = v → (endTo n i).set (7 - i) v = endTo n (i + 1)
  | 0, _, h => by subst h; rfl
  | 1, _, h => by subst h; rfl
  | 2, _, h => by subst h; rfl
  | 3, _, h => by subst h; rfl
  | 4, _, h => by subst h; rfl
  | 5, _, h => by subst h; rfl
  | 6, _, h => by subst h; rfl
  | 7, _, h => by subst h; rfl
  | k + 8, h, _ => by omega
theorem base8_pad (t : List UInt8) (size : Nat) (hs : size = (t.length + 72) / 64 * 64) : base8 t size ++ endTo t.length 8 = t ++ Sha.padOf t.length := by
  rw [base8, endTo, Sha.padOf]
  have : (if t.length % 64 < 56 then 55 - t.length % 64 else 119 - t.length % 64) = size - 8 - (t.length + 1) := by
    subst hs; split <;> omega
  rw [this]
  simp

theorem len_byte (n : Nat) (hn : n ≤ 4294967296) : ∀ i : Nat, i < 8 → (n : Int) * 8 / 2 ^ (8 * i) % 256 = (((Sha.len8 n).getD (7 - i) 0).toNat : Int) := by
  intro i hi
  have lo : ((UInt32.ofNat (n * 8)).toNat : Int) = (n * 8 : Nat) % 4294967296 := by rw [UInt32.toNat_ofNat']; omega
  have hi' : ((UInt32.ofNat (n * 8 % 2 ^ 64 / 2 ^ 32)).toNat : Int) = (n * 8 : Nat) / 4294967296 := by rw [UInt32.toNat_ofNat']; omega
  match i, hi with
  | 0, _ => show _ = ((UInt32.ofNat (n * 8)).toUInt8.toNat : Int)
            rw [← byte0, lo]; simp only [Nat.mul_zero, Int.pow_zero]; omega
  | 1, _ => show _ = ((UInt32.ofNat (n * 8) >>> 8).toUInt8.toNat : Int)
            rw [← byte8, lo]; simp only [Nat.reduceMul, Int.reducePow]; omega
  | 2, _ => show _ = ((UInt32.ofNat (n * 8) >>> 16).toUInt8.toNat : Int)
            rw [← byte16, lo]; simp only [Nat.reduceMul, Int.reducePow]; omega
  | 3, _ => show _ = ((UInt32.ofNat (n * 8) >>> 24).toUInt8.toNat : Int)
            rw [← byte24, lo]; simp only [Nat.reduceMul, Int.reducePow]; omega
  | 4, _ => show _ = ((UInt32.ofNat (n * 8 % 2 ^ 64 / 2 ^ 32)).toUInt8.toNat : Int)
            rw [← byte0, hi']; simp only [Nat.reduceMul, Int.reducePow]; omega
  | 5, _ => show _ = ((UInt32.ofNat (n * 8 % 2 ^ 64 / 2 ^ 32) >>> 8).toUInt8.toNat : Int)
            rw [← byte8, hi']; simp only [Nat.reduceMul, Int.reducePow]; omega
  | 6, _ => show _ = ((UInt32.ofNat (n * 8 % 2 ^ 64 / 2 ^ 32) >>> 16).toUInt8.toNat : Int)
            rw [← byte16, hi']; simp only [Nat.reduceMul, Int.reducePow]; omega
  | 7, _ => show _ = ((UInt32.ofNat (n * 8 % 2 ^ 64 / 2 ^ 32) >>> 24).toUInt8.toNat : Int)
            rw [← byte24, hi']; simp only [Nat.reduceMul, Int.reducePow]; omega
  | k + 8, h => omega
theorem Has.some {w : World} {b : Nat} {cs : List Value} {t : TypeId} (h : Has w b cs t) (j : Nat) (hj : j < cs.length) : ∃ v, w.cell? ⟨b, j, none⟩ = some v := ⟨cs[j], by rw [h.cell, List.getElem?_eq_getElem hj]⟩
structure LRel (w w' : World) (l : List UInt8) : Prop where
  a : Has w' w.heap.size (l.map bv) 5
  g : w.grownBy w' none
theorem LRel.set {w w' : World} {l : List UInt8} (h : LRel w w' l) (i : Nat) (x : UInt8) (v : Value) (hv : v = bv x) : LRel w (w'.setCell ⟨w.heap.size, i, none⟩ v) (l.set i x) := by
  subst hv
  refine ⟨?_, gr_new h.g (gr_set _ _ _ _) (Nat.le_refl _)⟩
  rw [List.map_set]; exact h.a.setCell i (bv x)

set_option maxRecDepth 100000 in
set_option maxHeartbeats 8000000 in
theorem laid_any (a : Option Addr) (n c : Nat) (t : List UInt8) (w : World) (hl : BytesOf w a n c t) (hn : n ≤ 4294967296) :
    Calls Tryd.prog 59 #[.slice a n c] w fun e w' => ∃ size, size = (t ++ Sha.padOf t.length).length ∧ e = .returned (.slice (some ⟨w.heap.size, 0, none⟩) size size) ∧ Has w' w.heap.size ((t ++ Sha.padOf t.length).map bv) 5 ∧ w.grownBy w' none := by
  have HL : Keep (BytesOf w a n c t) := ⟨hl⟩
  obtain ⟨size, hs⟩ : ∃ s, (n + 72) / 64 * 64 = s := ⟨_, rfl⟩
  have hs1 : n + 9 ≤ size := by omega
  have hs2 : size ≤ 4294967400 := by omega
  have hs' : ((n : Int) + 9 + 63) / 64 * 64 = (size : Int) := by omega
  have hmk := make28 size (by omega)
  have HS : Keep ((n + 72) / 64 * 64 = size) := ⟨hs⟩
  clear hl hs
  go_enter Tryd.func59, Tryd.ntmps59
  go_wp2
  go_loopw [5] (fun i w' => ∃ k : Nat, k ≤ n ∧ i = .int .i64 k ∧ Keep (LRel w w' (cpTo t size k))) (fun i _ => n - (intOf i).toNat)
  case atStart => exact ⟨0, by omega, rfl, ⟨by
    have : cpTo t size 0 = List.replicate size 0 := by simp [cpTo]
    rw [this]; exact ⟨by have := Has.newA w (Array.replicate size (bv 0)) 5; simpa using this, World.grownBy_alloc _ _ _⟩⟩⟩
  case round =>
    obtain ⟨k, hk, rfl, hrel⟩ := hrel
    by_cases hlt : k < n
    · obtain ⟨B, o, rfl, hat⟩ := HL.out.at_ (by omega)
      have htl := HL.out.len
      obtain ⟨x, hx⟩ : ∃ x, t.getD k 0 = x := ⟨_, rfl⟩
      have hc : wr.cell? ⟨B, o + k, none⟩ = some (.int .u8 x.toNat) := by
        rw [← hx]
        refine hrel.out.g.cell (hat k (t.getD k 0) ?_) (by simp)
        simp [List.getD, show k < t.length by omega]
      obtain ⟨v0, hc0⟩ := hrel.out.a.some k (by rw [List.length_map, cpTo_len t size k (by omega) (by omega)]; omega)
      have hf := hrel.out.a.frozen k
      have HX : Keep (t.getD k 0 = x) := ⟨hx⟩
      have hks : (k : Int) < (size : Int) := by omega
      clear hat hx
      go_wp2
      refine ⟨⟨k + 1, by omega, by go_num, ⟨?_⟩⟩, ?_⟩
      · rw [← cpTo_step t size k (by omega) (by omega), HX.out]
        exact hrel.out.set k x _ rfl
      · simp [intOf]; omega
    · have hkn : k = n := by omega
      have H1 : Keep (LRel w (wr.setCell ⟨w.heap.size, n, none⟩ (.int .u8 128)) (base8 t size ++ endTo t.length 0)) := ⟨by
        have h := hrel.out.set n 128 (.int .u8 128) rfl
        have htl := HL.out.len
        rw [hkn, ← htl, base8_start t size (by omega)] at h
        rw [← htl]; exact h⟩
      have htl := HL.out.len
      obtain ⟨v0, hc0⟩ := hrel.out.a.some n (by rw [List.length_map, cpTo_len t size k (by omega) (by omega)]; omega)
      clear htl
      have hf := hrel.out.a.frozen n
      have hns : (n : Int) < (size : Int) := by omega
      clear hrel
      go_wp2
      go_loopw [7] (fun i w' => ∃ k : Nat, k ≤ 8 ∧ i = .int .i64 k ∧ Keep (LRel w w' (base8 t size ++ endTo t.length k))) (fun i _ => 8 - (intOf i).toNat)
      case atStart => exact ⟨0, by omega, rfl, H1⟩
      case round =>
        obtain ⟨i, hi, rfl, hrel⟩ := hrel
        by_cases hli : i < 8
        · have htl := HL.out.len
          obtain ⟨v1, hc1⟩ := hrel.out.a.some (size - 1 - i) (by rw [List.length_map, List.length_append, base8_len t size (by omega), endTo]; simp [Sha.len8_len]; omega)
          have hf1 := hrel.out.a.frozen (size - 1 - i)
          have hidx : ((size : Int) - 1 - (i : Int)).toNat = size - 1 - i := by omega
          clear htl
          go_wp2
          refine ⟨⟨i + 1, by omega, by go_num, ⟨?_⟩⟩, ?_⟩
          · have htl := HL.out.len
            have hb := base8_len t size (by omega)
            have h := hrel.out.set (size - 1 - i) ((Sha.len8 t.length).getD (7 - i) 0) (.int .u8 ((n : Int) * 8 / 2 ^ (8 * i) % 256)) (by rw [htl, len_byte n hn i hli])
            rw [List.set_append_right _ _ (by omega), hb, show size - 1 - i - (size - 8) = 7 - i by omega, end_step _ _ i hli rfl] at h
            exact h
          · simp [intOf]; omega
        · have HE : Keep (Has wr w.heap.size ((t ++ Sha.padOf t.length).map bv) 5 ∧ w.grownBy wr none ∧ size = (t ++ Sha.padOf t.length).length) := ⟨by
            have hi8 : i = 8 := by omega
            have htl := HL.out.len
            have h := hrel.out
            have hsz : size = (t.length + 72) / 64 * 64 := by rw [htl]; exact HS.out.symm
            rw [hi8, base8_pad t size hsz] at h
            refine ⟨h.a, h.g, ?_⟩
            rw [← base8_pad t size hsz, List.length_append, base8_len t size (by omega), endTo]
            simp [Sha.len8_len]; omega⟩
          clear hrel
          go_wp2
          go_ret
          exact ⟨size, HE.out.2.2, rfl, HE.out.1, HE.out.2.1⟩
end Go.Proofs.YtbmnlhmelbhjeaaDoor
