import Derived.Test.YtkdjcknikhgfkabGreatDoorX2
import Derived.Laws.MakeOwn
import Derived.Laws.AppendOwnNone
import Derived.Maps.AppendAt
namespace Go.Proofs.YtkdjcknikhgfkabGreatDoor
open Go Go.RowKit

set_option maxRecDepth 100000 in
theorem made_eq (n : Nat) : madeCells #[Value.int .u8 0] n = ((List.replicate n (0 : UInt8)).map bv).toArray := by
  apply Array.ext
  · simp [size_madeCells]
  · intro i h1 h2
    simp [madeCells, Nat.mod_one]
set_option maxRecDepth 100000 in
theorem make28 (n : Nat) (hn : n ≤ 281474976710656) (W : World) : (Instr.makeSlice 73 (.int .i64 (n : Int)) (.int .i64 (n : Int))).run Tryz.prog W = .ok (.slice (some ⟨W.heap.size, 0, none⟩) n n) (W.alloc (.cells ((List.replicate n (0 : UInt8)).map bv).toArray 5)) := by
  have hi : ∃ i, Tryz.prog.info? 5 = some i ∧ i.size = 1 ∧ i.bytes = 1 ∧ i.zero = some (.int .u8 0) := by
    have h : (Tryz.prog.info? 5).map (fun i => (i.size, i.bytes, i.zero)) = some (1, 1, some (.int .u8 0)) := by kernel_rfl
    cases hq : Tryz.prog.info? 5 with
    | none => simp [hq] at h
    | some i =>
      simp only [hq, Option.map_some, Option.some.injEq, Prod.mk.injEq] at h
      exact ⟨i, rfl, h.1, h.2.1, h.2.2⟩
  obtain ⟨i, h1, h2, h3, h4⟩ := hi
  have := run_make (P := Tryz.prog) W 73 5 i (.int .u8 0) under28 h1 h4 .i64 .i64 n n (by omega) (by omega) (by rw [h3]; omega) (by omega)
  rw [this, h2, Nat.mul_one, Int.toNat_natCast]
  simp only [Value.cells]
  rw [made_eq]

/-- the text as far as it was copied, zeros behind -/
def cpTo (t : List UInt8) (size i : Nat) : List UInt8 := t.take i ++ List.replicate (size - i) 0
set_option maxRecDepth 100000 in
theorem cpTo_len (t : List UInt8) (size i : Nat) (hi : i ≤ t.length) (hs : i ≤ size) : (cpTo t size i).length = size := by
  rw [cpTo, List.length_append, List.length_take, List.length_replicate]; omega
set_option maxRecDepth 100000 in
theorem cpTo_step (t : List UInt8) (size i : Nat) (hi : i < t.length) (hs : i < size) : (cpTo t size i).set i (t.getD i 0) = cpTo t size (i + 1) := by
  have e : t.take (i + 1) = t.take i ++ [t.getD i 0] := by
    rw [List.take_succ_eq_append_getElem hi]; simp [List.getD, hi]
  have l : (t.take i).length = i := by rw [List.length_take]; omega
  rw [cpTo, cpTo, List.set_append_right _ _ (by omega), l, Nat.sub_self, e, show size - i = (size - (i + 1)) + 1 by omega, List.replicate_succ, List.set_cons_zero]
  simp
/-- the base: the text, 128, zeros; eight bytes more behind it -/
def base8 (t : List UInt8) (size : Nat) : List UInt8 := t ++ 128 :: List.replicate (size - 8 - (t.length + 1)) 0
def endTo (n i : Nat) : List UInt8 := List.replicate (8 - i) 0 ++ (Sha.len8 n).drop (8 - i)
set_option maxRecDepth 100000 in
theorem base8_start (t : List UInt8) (size : Nat) (hs : t.length + 9 ≤ size) : (cpTo t size t.length).set t.length 128 = base8 t size ++ endTo t.length 0 := by
  rw [cpTo, List.take_length, List.set_append_right _ _ (by omega), Nat.sub_self, show size - t.length = (size - 8 - (t.length + 1)) + 8 + 1 by omega, List.replicate_succ, List.set_cons_zero, base8, endTo, ← List.replicate_append_replicate]
  simp [Sha.len8, Sha.w4]
set_option maxRecDepth 100000 in
theorem base8_len (t : List UInt8) (size : Nat) (hs : t.length + 9 ≤ size) : (base8 t size).length = size - 8 := by
  simp only [base8, List.length_append, List.length_cons, List.length_replicate]; omega
set_option maxRecDepth 100000 in
theorem end_step (n : Nat) (v : UInt8) : ∀ i : Nat, i < 8 → (Sha.len8 n).getD (7 - i) 0 = v → (endTo n i).set (7 - i) v = endTo n (i + 1)
  | 0, _, h => by subst h; rfl
  | 1, _, h => by subst h; rfl
  | 2, _, h => by subst h; rfl
  | 3, _, h => by subst h; rfl
  | 4, _, h => by subst h; rfl
  | 5, _, h => by subst h; rfl
  | 6, _, h => by subst h; rfl
  | 7, _, h => by subst h; rfl
  | k + 8, h, _ => by omega
set_option maxRecDepth 100000 in
theorem base8_pad (t : List UInt8) (size : Nat) (hs : size = (t.length + 72) / 64 * 64) : base8 t size ++ endTo t.length 8 = t ++ Sha.padOf t.length := by
  rw [base8, endTo, Sha.padOf]
  have : (if t.length % 64 < 56 then 55 - t.length % 64 else 119 - t.length % 64) = size - 8 - (t.length + 1) := by
    subst hs; split <;> omega
  rw [this]
  simp

set_option maxRecDepth 100000 in
theorem len_byte (n : Nat) (hn : n ≤ 4294967296) : ∀ i : Nat, i < 8 → (n : Int) * 8 / 2 ^ (8 * i) % 256 = (((Sha.len8 n).getD (7 - i) 0).toNat : Int) := by
  intro i hi
  have lo : ((UInt32.ofNat (n * 8)).toNat : Int) = (n * 8 : Nat) % 4294967296 := by rw [UInt32.toNat_ofNat']; omega
  have hi' : ((UInt32.ofNat (n * 8 % 2 ^ 64 / 2 ^ 32)).toNat : Int) = (n * 8 : Nat) / 4294967296 := by rw [UInt32.toNat_ofNat']; omega
  match i, hi with
  | 0, _ => show _ = ((UInt32.ofNat (n * 8)).toUInt8.toNat : Int)
            rw [← byte0, lo]; simp only [Nat.mul_zero, Int.pow_zero]; omega
  | 1, _ => show _ = ((UInt32.ofNat (n * 8) >>> 8).toUInt8.toNat : Int)
            rw [← byte8, lo]; simp only [Nat.reduceMul, Int.reducePow]; omega
  | 2, _ => show _ = ((UInt32.ofNat (n * 8) >>> 16).toUInt8.toNat : Int)
            rw [← byte16, lo]; simp only [Nat.reduceMul, Int.reducePow]; omega
  | 3, _ => show _ = ((UInt32.ofNat (n * 8) >>> 24).toUInt8.toNat : Int)
            rw [← byte24, lo]; simp only [Nat.reduceMul, Int.reducePow]; omega
  | 4, _ => show _ = ((UInt32.ofNat (n * 8 % 2 ^ 64 / 2 ^ 32)).toUInt8.toNat : Int)
            rw [← byte0, hi']; simp only [Nat.reduceMul, Int.reducePow]; omega
  | 5, _ => show _ = ((UInt32.ofNat (n * 8 % 2 ^ 64 / 2 ^ 32) >>> 8).toUInt8.toNat : Int)
            rw [← byte8, hi']; simp only [Nat.reduceMul, Int.reducePow]; omega
  | 6, _ => show _ = ((UInt32.ofNat (n * 8 % 2 ^ 64 / 2 ^ 32) >>> 16).toUInt8.toNat : Int)
            rw [← byte16, hi']; simp only [Nat.reduceMul, Int.reducePow]; omega
  | 7, _ => show _ = ((UInt32.ofNat (n * 8 % 2 ^ 64 / 2 ^ 32) >>> 24).toUInt8.toNat : Int)
            rw [← byte24, hi']; simp only [Nat.reduceMul, Int.reducePow]; omega
  | k + 8, h => omega
set_option maxRecDepth 100000 in
theorem Has.some {w : World} {b : Nat} {cs : List Value} {t : TypeId} (h : Has w b cs t) (j : Nat) (hj : j < cs.length) : ∃ v, w.cell? ⟨b, j, none⟩ = some v := ⟨cs[j], by rw [h.cell, List.getElem?_eq_getElem hj]⟩
structure LRel (w w' : World) (l : List UInt8) : Prop where
  a : Has w' w.heap.size (l.map bv) 5
  g : w.grownBy w' none
set_option maxRecDepth 100000 in
theorem LRel.set {w w' : World} {l : List UInt8} (h : LRel w w' l) (i : Nat) (x : UInt8) (v : Value) (hv : v = bv x) : LRel w (w'.setCell ⟨w.heap.size, i, none⟩ v) (l.set i x) := by
  subst hv
  refine ⟨?_, gr_new h.g (gr_set _ _ _ _) (Nat.le_refl _)⟩
  rw [List.map_set]; exact h.a.setCell i (bv x)

set_option maxRecDepth 100000 in
set_option maxHeartbeats 8000000 in
theorem laid_any (a : Option Addr) (n c : Nat) (t : List UInt8) (w : World) (hl : BytesOf w a n c t) (hn : n ≤ 4294967296) :
    Calls Tryz.prog 178 #[.slice a n c] w fun e w' => ∃ size, size = (t ++ Sha.padOf t.length).length ∧ e = .returned (.slice (some ⟨w.heap.size, 0, none⟩) size size) ∧ Has w' w.heap.size ((t ++ Sha.padOf t.length).map bv) 5 ∧ w.grownBy w' none := by
  have HL : Keep (BytesOf w a n c t) := ⟨hl⟩
  obtain ⟨size, hs⟩ : ∃ s, (n + 72) / 64 * 64 = s := ⟨_, rfl⟩
  have hs1 : n + 9 ≤ size := by omega
  have hs2 : size ≤ 4294967400 := by omega
  have hs' : ((n : Int) + 9 + 63) / 64 * 64 = (size : Int) := by omega
  have hmk := make28 size (by omega)
  have HS : Keep ((n + 72) / 64 * 64 = size) := ⟨hs⟩
  clear hl hs
  go_enter Tryz.func178, Tryz.ntmps178
  go_wp2
  go_loopw [5] (fun i w' => ∃ k : Nat, k ≤ n ∧ i = .int .i64 k ∧ Keep (LRel w w' (cpTo t size k))) (fun i _ => n - (intOf i).toNat)
  case atStart => exact ⟨0, by omega, rfl, ⟨by
    have : cpTo t size 0 = List.replicate size 0 := by simp [cpTo]
    rw [this]; exact ⟨by have := Has.newA w (Array.replicate size (bv 0)) 5; simpa using this, World.grownBy_alloc _ _ _⟩⟩⟩
  case round =>
    obtain ⟨k, hk, rfl, hrel⟩ := hrel
    by_cases hlt : k < n
    · obtain ⟨B, o, rfl, hat⟩ := HL.out.at_ (by omega)
      have htl := HL.out.len
      obtain ⟨x, hx⟩ : ∃ x, t.getD k 0 = x := ⟨_, rfl⟩
      have hc : wr.cell? ⟨B, o + k, none⟩ = some (.int .u8 x.toNat) := by
        rw [← hx]
        refine hrel.out.g.cell (hat k (t.getD k 0) ?_) (by simp)
        simp [List.getD, show k < t.length by omega]
      obtain ⟨v0, hc0⟩ := hrel.out.a.some k (by rw [List.length_map, cpTo_len t size k (by omega) (by omega)]; omega)
      have hf := hrel.out.a.frozen k
      have HX : Keep (t.getD k 0 = x) := ⟨hx⟩
      have hks : (k : Int) < (size : Int) := by omega
      clear hat hx
      go_wp2
      refine ⟨⟨k + 1, by omega, by go_num, ⟨?_⟩⟩, ?_⟩
      · rw [← cpTo_step t size k (by omega) (by omega), HX.out]
        exact hrel.out.set k x _ rfl
      · simp [intOf]; omega
    · have hkn : k = n := by omega
      have H1 : Keep (LRel w (wr.setCell ⟨w.heap.size, n, none⟩ (.int .u8 128)) (base8 t size ++ endTo t.length 0)) := ⟨by
        have h := hrel.out.set n 128 (.int .u8 128) rfl
        have htl := HL.out.len
        rw [hkn, ← htl, base8_start t size (by omega)] at h
        rw [← htl]; exact h⟩
      have htl := HL.out.len
      obtain ⟨v0, hc0⟩ := hrel.out.a.some n (by rw [List.length_map, cpTo_len t size k (by omega) (by omega)]; omega)
      clear htl
      have hf := hrel.out.a.frozen n
      have hns : (n : Int) < (size : Int) := by omega
      clear hrel
      go_wp2
      go_loopw [7] (fun i w' => ∃ k : Nat, k ≤ 8 ∧ i = .int .i64 k ∧ Keep (LRel w w' (base8 t size ++ endTo t.length k))) (fun i _ => 8 - (intOf i).toNat)
      case atStart => exact ⟨0, by omega, rfl, H1⟩
      case round =>
        obtain ⟨i, hi, rfl, hrel⟩ := hrel
        by_cases hli : i < 8
        · have htl := HL.out.len
          obtain ⟨v1, hc1⟩ := hrel.out.a.some (size - 1 - i) (by rw [List.length_map, List.length_append, base8_len t size (by omega), endTo]; simp [Sha.len8_len]; omega)
          have hf1 := hrel.out.a.frozen (size - 1 - i)
          have hidx : ((size : Int) - 1 - (i : Int)).toNat = size - 1 - i := by omega
          clear htl
          go_wp2
          refine ⟨⟨i + 1, by omega, by go_num, ⟨?_⟩⟩, ?_⟩
          · have htl := HL.out.len
            have hb := base8_len t size (by omega)
            have h := hrel.out.set (size - 1 - i) ((Sha.len8 t.length).getD (7 - i) 0) (.int .u8 ((n : Int) * 8 / 2 ^ (8 * i) % 256)) (by rw [htl, len_byte n hn i hli])
            rw [List.set_append_right _ _ (by omega), hb, show size - 1 - i - (size - 8) = 7 - i by omega, end_step _ _ i hli rfl] at h
            exact h
          · simp [intOf]; omega
        · have HE : Keep (Has wr w.heap.size ((t ++ Sha.padOf t.length).map bv) 5 ∧ w.grownBy wr none ∧ size = (t ++ Sha.padOf t.length).length) := ⟨by
            have hi8 : i = 8 := by omega
            have htl := HL.out.len
            have h := hrel.out
            have hsz : size = (t.length + 72) / 64 * 64 := by rw [htl]; exact HS.out.symm
            rw [hi8, base8_pad t size hsz] at h
            refine ⟨h.a, h.g, ?_⟩
            rw [← base8_pad t size hsz, List.length_append, base8_len t size (by omega), endTo]
            simp [Sha.len8_len]; omega⟩
          clear hrel
          go_wp2
          go_ret
          exact ⟨size, HE.out.2.2, rfl, HE.out.1, HE.out.2.1⟩
end Go.Proofs.YtkdjcknikhgfkabGreatDoor

namespace Go.Proofs.YtkdjcknikhgfkabGreatDoor
open Go Go.RowKit

/-- the reference's tables lie where they lie -/
structure RK (w : World) : Prop where
  r : ∀ j, j < 8 → w.cell? ⟨2, j, none⟩ = some (.int .u32 (Sha.iv.getD j 0).toNat)
  c : ∀ j, j < 64 → w.cell? ⟨3, j, none⟩ = some (.int .u32 (Sha.ks.getD j 0).toNat)
set_option maxRecDepth 100000 in
theorem RK.kept {w w' : World} (h : RK w) (hg : w.grownBy w' none) : RK w' :=
  ⟨fun j hj => hg.cell (h.r j hj) (by simp), fun j hj => hg.cell (h.c j hj) (by simp)⟩
set_option maxRecDepth 100000 in
theorem RK.range {w : World} (h : RK w) : w.rangeAt 2 0 (Sha.iv.map wv) := fun j v hv => by
  have hj : j < 8 := by
    have := (List.getElem?_eq_some_iff.1 hv).1
    simpa [Sha.iv] using this
  rw [Nat.zero_add, h.r j hj, ← hv, get_map wv Sha.iv 0 j (by simpa [Sha.iv] using hj)]

set_option maxRecDepth 100000 in
theorem foldN_succ : ∀ (k : Nat) (ws : List UInt32) (t : List UInt8), Sha.foldN (k + 1) ws t = Sha.mixW (Sha.foldN k ws t) ((t.drop (64 * k)).take 64)
  | 0, ws, t => by simp [Sha.foldN]
  | k + 1, ws, t => by
    rw [Sha.foldN, foldN_succ k, Sha.foldN, List.drop_drop]
    congr 3
    omega

/-- where the reference's sum stands -/
structure FRel (w w' : World) (M S : Nat) (all : List UInt8) (ws : List UInt32) : Prop where
  z : Has w' w.heap.size ((List.replicate 32 (0 : UInt8)).map bv) 158
  b : BytesOf w' (some ⟨M, 0, none⟩) all.length all.length all
  s : Has w' S (ws.map wv) 182
  g : w.grownBy w' none
  rk : RK w'
set_option maxRecDepth 100000 in
theorem FRel.kept {w w' w2 : World} {M S : Nat} {all : List UInt8} {ws : List UInt32} (h : FRel w w' M S all ws) (hg : w'.grownBy w2 none) : FRel w w2 M S all ws :=
  ⟨h.z.kept hg (by simp), h.b.kept hg, h.s.kept hg (by simp), h.g.trans hg, h.rk.kept hg⟩
set_option maxRecDepth 100000 in
theorem FRel.drewN {w w' : World} {M S : Nat} {all : List UInt8} {ws : List UInt32} (h : FRel w w' M S all ws) (n : Nat) : FRel w (w'.drewN n) M S all ws := h.kept (gr_drewN _ _ _)
set_option maxRecDepth 100000 in
theorem FRel.set {w w' : World} {M S : Nat} {all : List UInt8} {ws : List UInt32} (h : FRel w w' M S all ws) (hM : M ≠ S) (hN : S ≠ w.heap.size) (h12 : 4 ≤ S) (hS : w.heap.size ≤ S) (i : Nat) (x : UInt32) (v : Value) (hv : v = wv x) : FRel w (w'.setCell ⟨S, i, none⟩ v) M S all (ws.set i x) := by
  subst hv
  have hg := gr_set w' S i (wv x)
  refine ⟨h.z.kept hg (by simp <;> omega), ?_, ?_, gr_new h.g hg hS, ⟨fun j hj => hg.cell (h.rk.r j hj) (by simp <;> omega), fun j hj => hg.cell (h.rk.c j hj) (by simp <;> omega)⟩⟩
  · refine ⟨h.b.len, h.b.cap, fun hn => ?_⟩
    obtain ⟨B, o, h1, h3⟩ := h.b.at_ hn
    have e : M = B ∧ 0 = o := by simpa using h1
    obtain ⟨rfl, rfl⟩ := e
    exact ⟨M, 0, rfl, fun j x hx => hg.cell (h3 j x hx) (by simpa using hM)⟩
  · rw [List.map_set]; exact h.s.setCell i (wv x)

/-- behind laid -/
structure F1 (w w' : World) (M : Nat) (all : List UInt8) : Prop where
  z : Has w' w.heap.size ((List.replicate 32 (0 : UInt8)).map bv) 158
  b : BytesOf w' (some ⟨M, 0, none⟩) all.length all.length all
  g : w.grownBy w' none
  rk : RK w'
  lt : M < w'.heap.size
set_option maxRecDepth 100000 in
theorem F1.start (w w1 : World) (C : Array Value) (all : List UInt8) (hC : C = ((List.replicate 32 (0 : UInt8)).map bv).toArray) (hk : RK w) (h1 : Has w1 (w.alloc (.cells C 158)).heap.size (all.map bv) 5) (g1 : (w.alloc (.cells C 158)).grownBy w1 none) : F1 w w1 (w.heap.size + 1) all := by
  subst hC
  rw [heap1] at h1
  refine ⟨(Has.new _ _ _).kept g1 (by simp), ⟨rfl, Nat.le_refl _, fun _ => ⟨_, 0, rfl, fun j x hx => ?_⟩⟩, (World.grownBy_alloc _ _ _).trans g1, (hk.kept (World.grownBy_alloc _ _ _)).kept g1, h1.lt⟩
  rw [Nat.zero_add, h1.cell, List.getElem?_map, hx]; rfl
set_option maxRecDepth 100000 in
theorem F1.state {w w1 : World} {M : Nat} {all : List UInt8} (h : F1 w w1 M all) (C : Array Value) (hC : C.size = 8) (w2 : World) (h2 : (w1.alloc (.cells C 182)).setCells w1.heap.size 0 (Sha.iv.map wv) = w2) : FRel w w2 M w1.heap.size all Sha.iv := by
  subst h2
  have g1 := World.grownBy_alloc w1 (.cells C 182) none
  have g2 : w1.grownBy ((w1.alloc (.cells C 182)).setCells w1.heap.size 0 (Sha.iv.map wv)) none := gr_new g1 (gr_sets _ _ _ _) (Nat.le_refl _)
  exact ⟨h.z.kept g2 (by simp), h.b.kept g2, (Has.newA w1 C 182).setAll _ (by simp [hC, Sha.iv]), h.g.trans g2, h.rk.kept g2⟩

set_option maxRecDepth 100000 in
theorem FRel.other {w w' : World} {M S R : Nat} {all : List UInt8} {ws : List UInt32} (h : FRel w w' M S all ws) (h1 : M ≠ R) (h2 : S ≠ R) (h3 : w.heap.size < R) (h4 : 4 ≤ w.heap.size) (i : Nat) (v : Value) : FRel w (w'.setCell ⟨R, i, none⟩ v) M S all ws := by
  have hg := gr_set w' R i v
  refine ⟨h.z.kept hg (by simp <;> omega), ?_, h.s.kept hg (by simp <;> omega), gr_new h.g hg (by omega), ⟨fun j hj => hg.cell (h.rk.r j hj) (by simp <;> omega), fun j hj => hg.cell (h.rk.c j hj) (by simp <;> omega)⟩⟩
  refine ⟨h.b.len, h.b.cap, fun hn => ?_⟩
  obtain ⟨B, o, e1, e3⟩ := h.b.at_ hn
  have e : M = B ∧ 0 = o := by simpa using e1
  obtain ⟨rfl, rfl⟩ := e
  exact ⟨M, 0, rfl, fun j x hx => hg.cell (e3 j x hx) (by simpa using h1)⟩
set_option maxRecDepth 100000 in
theorem out_get : ∀ (ws : List UInt32) (i : Nat), i < 4 * ws.length → (Sha.out ws).getD i 0 = (Sha.w4 (ws.getD (i / 4) 0)).getD (i % 4) 0
  | [], i, h => by simp at h
  | x :: r, i, h => by
    rw [Sha.out, List.flatMap_cons, ← Sha.out]
    by_cases hi : i < 4
    · rw [show i / 4 = 0 by omega, show i % 4 = i by omega]
      simp only [List.getD]
      rw [List.getElem?_append_left (by rw [Sha.w4_len]; exact hi)]
      rfl
    · have ih := out_get r (i - 4) (by simp at h; omega)
      rw [show i / 4 = (i - 4) / 4 + 1 by omega, show i % 4 = (i - 4) % 4 by omega]
      simp only [List.getD] at ih ⊢
      rw [List.getElem?_append_right (by rw [Sha.w4_len]; omega), Sha.w4_len, ih]
      simp
set_option maxRecDepth 100000 in
theorem out_byte (ws : List UInt32) (x : UInt32) (i : Nat) (h8 : ws.length = 8) (hi : i < 32) (hx : ws.getD (i / 4) 0 = x) : (x.toNat : Int) / 2 ^ (24 - 8 * (i % 4)) % 256 = (((Sha.out ws).getD i 0).toNat : Int) := by
  rw [out_get ws i (by omega), hx]
  have h : i % 4 = 0 ∨ i % 4 = 1 ∨ i % 4 = 2 ∨ i % 4 = 3 := by omega
  have hxl := x.toNat_lt
  rcases h with h | h | h | h <;> rw [h]
  · show _ = ((x >>> 24).toUInt8.toNat : Int)
    rw [← byte24]; simp only [Nat.reduceMul, Nat.reduceSub, Int.reducePow]; omega
  · show _ = ((x >>> 16).toUInt8.toNat : Int)
    rw [← byte16]; simp only [Nat.reduceMul, Nat.reduceSub, Int.reducePow]
  · show _ = ((x >>> 8).toUInt8.toNat : Int)
    rw [← byte8]; simp only [Nat.reduceMul, Nat.reduceSub, Int.reducePow]
  · show _ = (x.toUInt8.toNat : Int)
    rw [← byte0]; simp only [Nat.reduceMul, Nat.reduceSub, Int.pow_zero]; omega
set_option maxRecDepth 100000 in
theorem bs1_eq (x : UInt32) : bits .xor .u32 (bits .xor .u32 ((Sha.rotr 6 x).toNat : Int) ((Sha.rotr 11 x).toNat : Int)) ((Sha.rotr 25 x).toNat : Int) = ((Sha.bs1 x).toNat : Int) := by
  rw [b_xor, b_xor]; rfl
set_option maxRecDepth 100000 in
theorem bs0_eq (x : UInt32) : bits .xor .u32 (bits .xor .u32 ((Sha.rotr 2 x).toNat : Int) ((Sha.rotr 13 x).toNat : Int)) ((Sha.rotr 22 x).toNat : Int) = ((Sha.bs0 x).toNat : Int) := by
  rw [b_xor, b_xor]; rfl
set_option maxRecDepth 100000 in
theorem all_len (t : List UInt8) : (t ++ Sha.padOf t.length).length % 64 = 0 ∧ (t ++ Sha.padOf t.length).length ≤ t.length + 128 := by
  rw [Sha.padOf]
  simp only [List.length_append, List.length_cons, List.length_replicate, Sha.len8_len]
  split <;> omega
set_option maxRecDepth 100000 in
theorem new_row2 (w1 : World) (L : List UInt32) (C : Array Value) (ty : TypeId) (m : Nat) (hC : C.size = m) (hL : L.length = m) (w2 : World) (h2 : (w1.alloc (.cells C ty)).setCells w1.heap.size 0 (L.map wv) = w2) :
    Has w2 w1.heap.size (L.map wv) ty ∧ w1.grownBy w2 none := by
  subst h2
  refine ⟨(Has.newA w1 C ty).setAll _ (by simp [hC, hL]), ?_⟩
  exact gr_new (World.grownBy_alloc _ _ _) (gr_sets _ _ _ _) (Nat.le_refl _)

set_option maxRecDepth 100000 in
set_option maxHeartbeats 16000000 in
theorem rsum_any (a : Option Addr) (n c : Nat) (t : List UInt8) (w : World) (hl : BytesOf w a n c t) (hn : n ≤ 4294967296) (hrk : RK w) (hw3 : 4 ≤ w.heap.size) :
    Calls Tryz.prog 156 #[.slice a n c] w fun e w' => e = .returned (.agg ((Sha.sha t).map bv).toArray) ∧ w.grownBy w' none := by
  have HL : Keep (BytesOf w a n c t) := ⟨hl⟩
  have HRK : Keep (RK w) := ⟨hrk⟩
  clear hl hrk
  go_enter Tryz.func156, Tryz.ntmps156
  obtain ⟨all, hall⟩ : ∃ x, t ++ Sha.padOf t.length = x := ⟨_, rfl⟩
  have HALL : Keep (t ++ Sha.padOf t.length = all) := ⟨hall⟩
  obtain ⟨I, hI⟩ : ∃ x, Sha.iv = x := ⟨_, rfl⟩
  have HIV : Keep (Sha.iv = I) := ⟨hI⟩
  have HIL : Keep (I.length = 8) := ⟨by rw [← hI]; rfl⟩
  have HI : Keep ((Tryz.prog.info? 182).map (·.size) = some (I.map wv).length) := ⟨by rw [List.length_map, HIL.out]; exact size40⟩
  clear hall hI
  go_wp2_with (first
    | (go_at_call 178; refine (laid_any _ _ _ t _ (HL.out.kept (World.grownBy_alloc _ _ _)) hn).mono ?_; rintro e w1 ⟨size, hsz, rfl, hal, hg1⟩
       rw [HALL.out] at hsz hal
       have H1 : Keep (F1 w w1 (w.heap.size + 1) all ∧ size = all.length) := ⟨F1.start w w1 _ all rfl HRK.out hal hg1, hsz⟩
       clear hsz hal hg1)
    | (refine wpList_load_mid rfl 182 _ rfl 2 0 rfl (I.map wv) _ (by rw [← HIV.out]; exact H1.out.1.rk.range) under40 rfl HI.out ?_)
    | (refine wpList_store_mid rfl 182 _ _ rfl _ _ _ rfl rfl ((Has.newA w1 _ 182).there 0 _ (by rw [List.size_toArray, List.length_map, HIL.out]; decide)) HI.out (all_oneCell_toArray (by simp [Value.oneCell'])) ?_
       generalize hw2 : World.setCells _ _ _ _ = w2
       have H2 : Keep (FRel w w2 (w.heap.size + 1) w1.heap.size all Sha.iv) := ⟨H1.out.1.state _ rfl w2 (by rw [← hw2, HIV.out])⟩
       clear hw2))
  have hal := all_len t
  rw [HALL.out, ← H1.out.2, HL.out.len] at hal
  obtain ⟨hs64, hsle⟩ := hal
  have hM := H1.out.1.lt
  go_loopw [5] (fun v w' => ∃ p : Nat, p ≤ size ∧ v = .int .i64 p ∧ Keep (p % 64 = 0 ∧ FRel w w' (w.heap.size + 1) w1.heap.size all (Sha.foldN (p / 64) Sha.iv all))) (fun v _ => size - (intOf v).toNat)
  case atStart => exact ⟨0, by omega, rfl, ⟨rfl, H2.out⟩⟩
  case round =>
    obtain ⟨p, hp, rfl, hrel⟩ := hrel
    by_cases hlt : p < size
    · have hp64 : p + 64 ≤ size := by have := hrel.out.1; omega
      obtain ⟨ws, hws⟩ : ∃ x, Sha.foldN (p / 64) Sha.iv all = x := ⟨_, rfl⟩
      have HW : Keep (FRel w wr (w.heap.size + 1) w1.heap.size all ws) := ⟨by rw [← hws]; exact hrel.out.2⟩
      have HWS : Keep (Sha.foldN (p / 64) Sha.iv all = ws ∧ p % 64 = 0) := ⟨hws, hrel.out.1⟩
      have HW8 : Keep (ws.length = 8) := ⟨by rw [← hws, Sha.foldN_len]; rfl⟩
      have HBY : Keep (BytesOf wr (some ⟨w.heap.size + 1, 0, none⟩) size size all) := ⟨by rw [H1.out.2]; exact HW.out.b⟩
      clear hws hrel
      go_wp2_with (first
        | (go_at_call 179; refine (plan_any (w.heap.size + 1) 0 size size p all _ HBY.out hp64 (by omega)).mono ?_; rintro e w3 ⟨rfl, hg3⟩
           generalize hLq : Sha.sched ((all.drop p).take 64) = L
           have HQ : Keep (Sha.sched ((all.drop p).take 64) = L) := ⟨hLq⟩
           clear hLq
           have HLL : Keep (L.length = 64) := ⟨by rw [← HQ.out]; exact Sha.schedTo_len _ 64⟩
           have HW3 : Keep (FRel w w3 (w.heap.size + 1) w1.heap.size all ws) := ⟨HW.out.kept hg3⟩
           clear hg3)
        | (refine wpList_store_mid rfl 193 _ _ rfl _ _ _ rfl rfl ((Has.newA w3 _ 193).there 0 _ (by rw [List.size_toArray, List.length_map, HLL.out]; decide)) (by rw [List.size_toArray, List.length_map, HLL.out]; exact size50) (all_oneCell_toArray (by simp [Value.oneCell'])) ?_
           generalize hw4 : World.setCells _ _ _ _ = w4
           have H4 : Keep (Has w4 w3.heap.size (L.map wv) 193 ∧ FRel w w4 (w.heap.size + 1) w1.heap.size all ws) := ⟨by
             have h := new_row2 w3 L _ 193 64 rfl HLL.out w4 hw4
             exact ⟨h.1, HW3.out.kept h.2⟩⟩
           clear hw4))
      obtain ⟨s, hs⟩ : ∃ s, Sha.stOf ws = s := ⟨_, rfl⟩
      have HST : Keep (Sha.stOf ws = s) := ⟨hs⟩
      have c0 : w4.cell? ⟨w1.heap.size, 0, none⟩ = some (.int .u32 s.a.toNat) := by rw [← hs]; exact H4.out.2.s.cellv _ _ (get_map wv ws 0 0 (by rw [HW8.out]; decide))
      have c1 : w4.cell? ⟨w1.heap.size, 1, none⟩ = some (.int .u32 s.b.toNat) := by rw [← hs]; exact H4.out.2.s.cellv _ _ (get_map wv ws 0 1 (by rw [HW8.out]; decide))
      have c2 : w4.cell? ⟨w1.heap.size, 2, none⟩ = some (.int .u32 s.c.toNat) := by rw [← hs]; exact H4.out.2.s.cellv _ _ (get_map wv ws 0 2 (by rw [HW8.out]; decide))
      have c3 : w4.cell? ⟨w1.heap.size, 3, none⟩ = some (.int .u32 s.d.toNat) := by rw [← hs]; exact H4.out.2.s.cellv _ _ (get_map wv ws 0 3 (by rw [HW8.out]; decide))
      have c4 : w4.cell? ⟨w1.heap.size, 4, none⟩ = some (.int .u32 s.e.toNat) := by rw [← hs]; exact H4.out.2.s.cellv _ _ (get_map wv ws 0 4 (by rw [HW8.out]; decide))
      have c5 : w4.cell? ⟨w1.heap.size, 5, none⟩ = some (.int .u32 s.f.toNat) := by rw [← hs]; exact H4.out.2.s.cellv _ _ (get_map wv ws 0 5 (by rw [HW8.out]; decide))
      have c6 : w4.cell? ⟨w1.heap.size, 6, none⟩ = some (.int .u32 s.g.toNat) := by rw [← hs]; exact H4.out.2.s.cellv _ _ (get_map wv ws 0 6 (by rw [HW8.out]; decide))
      have c7 : w4.cell? ⟨w1.heap.size, 7, none⟩ = some (.int .u32 s.h.toNat) := by rw [← hs]; exact H4.out.2.s.cellv _ _ (get_map wv ws 0 7 (by rw [HW8.out]; decide))
      clear hs
      simp only [Act.put]
      go_quiet (fail)
      go_wp2
      go_loopw [7, 8, 9, 10, 11, 12, 13, 14, 15] (fun v3 v4 v5 v6 v7 v8 v9 v10 t w' => ∃ (k : Nat) (st : Sha.St), k ≤ 64 ∧ t = .int .i64 k ∧ Keep (∃ n, w' = w4.drewN n) ∧ Keep (Sha.rndTo L s k = st) ∧ v3 = .int .u32 st.a.toNat ∧ v4 = .int .u32 st.b.toNat ∧ v5 = .int .u32 st.c.toNat ∧ v6 = .int .u32 st.d.toNat ∧ v7 = .int .u32 st.e.toNat ∧ v8 = .int .u32 st.f.toNat ∧ v9 = .int .u32 st.g.toNat ∧ v10 = .int .u32 st.h.toNat) (fun _ _ _ _ _ _ _ _ t _ => 64 - (intOf t).toNat)
      case atStart => exact ⟨0, s, by omega, rfl, ⟨_, rfl⟩, ⟨rfl⟩, rfl, rfl, rfl, rfl, rfl, rfl, rfl, rfl⟩
      case round =>
        obtain ⟨k, st, hk, rfl, hwr, hst, rfl, rfl, rfl, rfl, rfl, rfl, rfl, rfl⟩ := hrel
        by_cases hlk : k < 64
        · obtain ⟨kk, hkk⟩ : ∃ x, Sha.ks.getD k 0 = x := ⟨_, rfl⟩
          obtain ⟨ll, hll⟩ : ∃ x, L.getD k 0 = x := ⟨_, rfl⟩
          have d0 : wr.cell? ⟨3, k, none⟩ = some (.int .u32 kk.toNat) := by obtain ⟨n, e⟩ := hwr.out; rw [← hkk, e]; exact H4.out.2.rk.c k hlk
          have d1 : wr.cell? ⟨w3.heap.size, k, none⟩ = some (.int .u32 ll.toNat) := by obtain ⟨n, e⟩ := hwr.out; rw [← hll, e]; exact H4.out.1.cellv _ _ (get_map wv L 0 k (by rw [HLL.out]; omega))
          have HKK : Keep (Sha.ks.getD k 0 = kk) := ⟨hkk⟩
          have HL2 : Keep (L.getD k 0 = ll) := ⟨hll⟩
          clear hkk hll
          go_wp2
          go_quiet (first
            | (go_at_call_of 180 (6 : Int); exact Calls.quiet_of (turnc _ 6 6 rfl (by decide) _))
            | (go_at_call_of 180 (11 : Int); exact Calls.quiet_of (turnc _ 11 11 rfl (by decide) _))
            | (go_at_call_of 180 (25 : Int); exact Calls.quiet_of (turnc _ 25 25 rfl (by decide) _)))
          go_wp2_with (first
            | (go_at_call_of 180 (2 : Int); refine (turnc _ 2 2 rfl (by decide) _).mono ?_; rintro e w' ⟨rfl, n1, rfl⟩)
            | (go_at_call_of 180 (13 : Int); refine (turnc _ 13 13 rfl (by decide) _).mono ?_; rintro e w' ⟨rfl, n2, rfl⟩)
            | (go_at_call_of 180 (22 : Int); refine (turnc _ 22 22 rfl (by decide) _).mono ?_; rintro e w' ⟨rfl, n3, rfl⟩))
          have hx := x_eq L st k kk ll HKK.out HL2.out
          have hy := y_eq st
          rw [← bs1_eq] at hx
          rw [← bs0_eq] at hy
          refine ⟨⟨k + 1, Sha.rnd L st k, by omega, by go_num, ⟨by obtain ⟨n, e⟩ := hwr.out; exact ⟨_, by rw [e, World.drewN_drewN]⟩⟩, ⟨by rw [Sha.rndTo, hst.out]⟩, int_eq ?_, rfl, rfl, rfl, int_eq ?_, rfl, rfl, rfl⟩, ?_⟩
          · rw [hx, hy, add2]; rfl
          · rw [hx, add2]; rfl
          · simp [intOf]; omega
        · have HST2 : Keep (Sha.rndTo L s 64 = st) := ⟨by
            have hk64 : k = 64 := by omega
            rw [← hk64]; exact hst.out⟩
          have HR : Keep (FRel w wr (w.heap.size + 1) w1.heap.size all ws) := ⟨by
            obtain ⟨n, e⟩ := hwr.out
            rw [e]; exact H4.out.2.drewN n⟩
          clear hst hwr c0 c1 c2 c3 c4 c5 c6 c7
          go_wp2
          have hS : w1.heap.size < wr.heap.size := HR.out.s.lt
          have HN : Keep (Has (wr.alloc (Obj.cells #[Value.int IntKind.u32 st.a.toNat, Value.int IntKind.u32 st.b.toNat, Value.int IntKind.u32 st.c.toNat, Value.int IntKind.u32 st.d.toNat, Value.int IntKind.u32 st.e.toNat, Value.int IntKind.u32 st.f.toNat, Value.int IntKind.u32 st.g.toNat, Value.int IntKind.u32 st.h.toNat] 182)) wr.heap.size ((Sha.stList st).map wv) 182 ∧ FRel w (wr.alloc (Obj.cells #[Value.int IntKind.u32 st.a.toNat, Value.int IntKind.u32 st.b.toNat, Value.int IntKind.u32 st.c.toNat, Value.int IntKind.u32 st.d.toNat, Value.int IntKind.u32 st.e.toNat, Value.int IntKind.u32 st.f.toNat, Value.int IntKind.u32 st.g.toNat, Value.int IntKind.u32 st.h.toNat] 182)) (w.heap.size + 1) w1.heap.size all ws) :=
            ⟨Has.newA _ _ _, HR.out.kept (World.grownBy_alloc _ _ _)⟩
          generalize wr.heap.size = Q at HN hS ⊢
          go_loopw [19] (fun v w' => ∃ i : Nat, i ≤ 8 ∧ v = .int .i64 i ∧ Keep (FRel w w' (w.heap.size + 1) w1.heap.size all (Sha.addTo ws (Sha.stList st) i) ∧ Has w' Q ((Sha.stList st).map wv) 182)) (fun v _ => 8 - (intOf v).toNat)
          case atStart => exact ⟨0, by omega, rfl, ⟨HN.out.2, HN.out.1⟩⟩
          case round =>
            obtain ⟨i, hi, rfl, hrel2⟩ := hrel
            clear HN HR
            by_cases hli : i < 8
            · obtain ⟨y, hy⟩ : ∃ y, (Sha.stList st).getD i 0 = y := ⟨_, rfl⟩
              obtain ⟨z, hz⟩ : ∃ z, (Sha.addTo ws (Sha.stList st) i).getD i 0 = z := ⟨_, rfl⟩
              have hc : wr.cell? ⟨w1.heap.size, i, none⟩ = some (.int .u32 z.toNat) := by rw [← hz]; exact hrel2.out.1.s.cellv _ _ (get_map wv _ 0 i (by rw [Sha.addTo_len, HW8.out]; exact hli))
              have hcq : wr.cell? ⟨Q, i, none⟩ = some (.int .u32 y.toNat) := by rw [← hy]; exact hrel2.out.2.cellv _ _ (get_map wv _ 0 i (by simpa [Sha.stList] using hli))
              have hf := hrel2.out.1.s.frozen i
              have HY : Keep ((Sha.stList st).getD i 0 = y) := ⟨hy⟩
              have HZ : Keep ((Sha.addTo ws (Sha.stList st) i).getD i 0 = z) := ⟨hz⟩
              have hli' : (i : Int) < 8 := by omega
              clear hy hz
              go_wp2
              go_region
              all_goals go_wp2
              refine ⟨⟨i + 1, by omega, by go_num, ⟨?_, ?_⟩⟩, ?_⟩
              · have h := (hrel2.out.1.set (by omega) (by omega) (by omega) (by omega) i (z + y) (.int .u32 (((z.toNat : Int) + (y.toNat : Int)) % (4294967296 : Int))) (by rw [add2])).drewN 1
                rw [Sha.addTo, HZ.out, HY.out]
                exact h
              · exact (hrel2.out.2.other _ _ (by simp <;> omega)).drewN 1
              · simp [intOf]; omega
            · have HF : Keep (FRel w wr (w.heap.size + 1) w1.heap.size all (Sha.foldN ((p + 64) / 64) Sha.iv all)) := ⟨by
                have hi8 : i = 8 := by omega
                have h := hrel2.out.1
                rw [hi8] at h
                have e : Sha.foldN ((p + 64) / 64) Sha.iv all = Sha.addTo ws (Sha.stList st) 8 := by
                  rw [show (p + 64) / 64 = p / 64 + 1 by omega, foldN_succ, HWS.out.1, show 64 * (p / 64) = p by have := HWS.out.2; omega, Sha.mixW, HQ.out, HST.out, HST2.out]
                rw [e]; exact h⟩
              have hp6 : (p + 64) % 64 = 0 := by have := HWS.out.2; omega
              clear hrel2
              go_wp2
              refine ⟨⟨p + 64, by omega, by go_num, ⟨hp6, HF.out⟩⟩, ?_⟩
              simp [intOf]; omega
    · have HE : Keep (FRel w wr (w.heap.size + 1) w1.heap.size all (Sha.fold Sha.iv all)) := ⟨by
        have hps : p = all.length := by rw [← H1.out.2]; omega
        have h := hrel.out.2
        rw [hps] at h
        exact h⟩
      obtain ⟨ws, hws⟩ : ∃ x, Sha.fold Sha.iv all = x := ⟨_, rfl⟩
      have HE2 : Keep (FRel w wr (w.heap.size + 1) w1.heap.size all ws ∧ ws.length = 8 ∧ Sha.sha t = Sha.out ws) := ⟨by
        rw [← hws]; exact ⟨HE.out, by rw [Sha.fold_len]; rfl, by rw [Sha.sha, HALL.out]⟩⟩
      have hS : w1.heap.size < wr.heap.size := HE2.out.1.s.lt
      have hW : w.heap.size < w1.heap.size := by omega
      clear hws hrel HE
      go_wp2
      have HN : Keep (Has (wr.alloc (.cells ((List.replicate 32 (0 : UInt8)).map bv).toArray 158)) wr.heap.size ((cpTo (Sha.out ws) 32 0).map bv) 158 ∧ FRel w (wr.alloc (.cells ((List.replicate 32 (0 : UInt8)).map bv).toArray 158)) (w.heap.size + 1) w1.heap.size all ws) :=
        ⟨by
          have e : cpTo (Sha.out ws) 32 0 = List.replicate 32 0 := by simp [cpTo]
          rw [e]; exact Has.new _ _ _, HE2.out.1.kept (World.grownBy_alloc _ _ _)⟩
      generalize wr.heap.size = R at HN hS ⊢
      go_loopw [21] (fun v w' => ∃ i : Nat, i ≤ 32 ∧ v = .int .i64 i ∧ Keep (FRel w w' (w.heap.size + 1) w1.heap.size all ws ∧ Has w' R ((cpTo (Sha.out ws) 32 i).map bv) 158)) (fun v _ => 32 - (intOf v).toNat)
      case atStart => exact ⟨0, by omega, rfl, ⟨HN.out.2, HN.out.1⟩⟩
      case round =>
        obtain ⟨i, hi, rfl, hrel2⟩ := hrel
        clear HN
        by_cases hli : i < 32
        · obtain ⟨x, hx⟩ : ∃ x, ws.getD (i / 4) 0 = x := ⟨_, rfl⟩
          have hol : (Sha.out ws).length = 32 := by rw [out_len, HE2.out.2.1]
          have hc : wr.cell? ⟨w1.heap.size, i / 4, none⟩ = some (.int .u32 x.toNat) := by rw [← hx]; exact hrel2.out.1.s.cellv _ _ (get_map wv _ 0 (i / 4) (by rw [HE2.out.2.1]; omega))
          obtain ⟨v0, hc0⟩ := hrel2.out.2.some i (by rw [List.length_map, cpTo_len _ 32 i (by omega) (by omega)]; exact hli)
          have hf := hrel2.out.2.frozen i
          have HX : Keep (ws.getD (i / 4) 0 = x) := ⟨hx⟩
          have hi4 : ((i : Int) / 4).toNat = i / 4 := by omega
          clear hx hol
          go_wp2
          refine ⟨⟨i + 1, by omega, by go_num, ⟨hrel2.out.1.other (by omega) (by omega) (by omega) hw3 _ _, ?_⟩⟩, ?_⟩
          · have hol : (Sha.out ws).length = 32 := by rw [out_len, HE2.out.2.1]
            have h := hrel2.out.2.setCell i (bv ((Sha.out ws).getD i 0))
            rw [← List.map_set, cpTo_step _ 32 i (by omega) hli] at h
            rw [out_byte ws x i HE2.out.2.1 hli HX.out]
            exact h
          · simp [intOf]; omega
        · have HZ : Keep (Has wr R ((Sha.out ws).map bv) 158 ∧ Has wr w.heap.size ((List.replicate 32 (0 : UInt8)).map bv) 158 ∧ w.grownBy wr none ∧ (Sha.out ws).length = 32) := ⟨by
            have hi32 : i = 32 := by omega
            have hol : (Sha.out ws).length = 32 := by rw [out_len, HE2.out.2.1]
            have h := hrel2.out.2
            rw [hi32, cpTo, List.take_of_length_le (by omega), Nat.sub_self, List.replicate_zero, List.append_nil] at h
            exact ⟨h, hrel2.out.1.z, hrel2.out.1.g, hol⟩⟩
          have HIo : Keep ((Tryz.prog.info? 158).map (·.size) = some ((Sha.out ws).map bv).length) := ⟨by rw [List.length_map, HZ.out.2.2.2]; exact size25⟩
          clear hrel2
          go_wp2_with (first
            | (refine wpList_load_mid rfl 158 _ rfl _ _ rfl _ _ HZ.out.1.range under25 rfl HIo.out ?_)
            | (refine wpList_store_mid rfl 158 _ _ rfl _ _ _ rfl rfl (HZ.out.2.1.there 0 _ (by simp [HZ.out.2.2.2])) HIo.out (bytes_one _) ?_))
          refine ret_cell (b := w.heap.size) (cs := (Sha.out ws).map bv) (t := 158) rfl rfl ?_ under25 rfl HIo.out rfl ⟨by rw [HE2.out.2.2], ?_⟩
          · exact HZ.out.2.1.setAll _ (by simp [HZ.out.2.2.2])
          · exact gr_new HZ.out.2.2.1 (gr_sets _ _ _ _) (Nat.le_refl _)
end Go.Proofs.YtkdjcknikhgfkabGreatDoor

namespace Go.Proofs.YtkdjcknikhgfkabGreatDoor
open Go Go.RowKit

/-- append of a slice's bytes to a row of the call's own: its run -/
theorem app28 (w : World) (base : Nat) (v : Value) (n : Nat) (xs : List Value) (a : Option Addr) (m c : Nat) (q : List UInt8) (hown : w.ownsRow base 5 1 v n xs) (hq : BytesOf w a m c q) (hnil : a = none → c = 0) (hsz : n + m ≤ 140737488355328) (hbase : base ≤ w.heap.size) :
    ∃ v' w', (Builtin.append_ #[73, 73] 73 #[v, .slice a m c]).run Tryz.prog w = .ok v' w' ∧ w'.ownsRow base 5 1 v' (n + m) (xs ++ q.map bv) ∧ w.grownBy w' v.ownBlock := by
  have hi : ∃ i, Tryz.prog.info? 5 = some i ∧ i.size = 1 ∧ i.bytes = 1 ∧ i.zero = some (.int .u8 0) := by
    have h : (Tryz.prog.info? 5).map (fun i => (i.size, i.bytes, i.zero)) = some (1, 1, some (.int .u8 0)) := by kernel_rfl
    cases hq : Tryz.prog.info? 5 with
    | none => simp [hq] at h
    | some i =>
      simp only [hq, Option.map_some, Option.some.injEq, Prod.mk.injEq] at h
      exact ⟨i, rfl, h.1, h.2.1, h.2.2⟩
  obtain ⟨i, h1, h2, h3, h4⟩ := hi
  cases a with
  | none =>
    have hc := hnil rfl
    have hm : m = 0 := by
      rcases Nat.eq_zero_or_pos m with h | h
      · exact h
      · obtain ⟨B, o, e, _⟩ := hq.at_ h
        cases e
    have hq0 : q = [] := List.length_eq_zero_iff.1 (by rw [hq.len]; exact hm)
    subst hc hm hq0
    exact ⟨v, w, run_append_owned_none (P := Tryz.prog) w base 73 73 5 i 1 under28 h1 v n xs hown, by simpa using hown, World.grownBy.refl _ _⟩
  | some ad =>
    obtain ⟨v', w', r1, r2, r3, _⟩ := run_append_own (P := Tryz.prog) w base 73 73 5 i (.int .u8 0) 1 1 under28 h1 h4 h2 h3 rfl (by decide) v n xs hown ad m c (q.map bv) (by rw [List.length_map, hq.len, Nat.mul_one]) (fun j u hu => by
        rw [List.getElem?_map] at hu
        cases hx : q[j]? with
        | none => rw [hx] at hu; cases hu
        | some x =>
          rw [hx] at hu
          obtain rfl := Option.some.inj hu
          have hjl := (List.getElem?_eq_some_iff.1 hx).1
          obtain ⟨B, o, e, h⟩ := hq.at_ (by rw [← hq.len]; omega)
          obtain rfl := Option.some.inj e
          rw [Addr.add_mid]; exact h j x hx)
      (fun u hu => by obtain ⟨x, _, rfl⟩ := List.mem_map.1 hu; rfl) (by unfold maxLen; omega) (by omega) hbase
    exact ⟨v', w', r1, r2, r3⟩
/-- a row of the call's own as bytes -/
theorem own_bytes {w : World} {base n : Nat} {v : Value} {q : List UInt8} (h : w.ownsRow base 5 1 v n (q.map bv)) : ∃ a c, v = .slice a n c ∧ BytesOf w a n c q ∧ (a = none → c = 0) := by
  obtain ⟨hl, hc⟩ := h
  have hn : q.length = n := by rw [List.length_map, Nat.mul_one] at hl; exact hl
  rcases hc with ⟨rfl, rfl⟩ | ⟨g, cap, cur, rfl, hb, hheap, h1, h2, h3, h4⟩
  · exact ⟨none, 0, rfl, ⟨hn, Nat.le_refl _, fun h => by omega⟩, fun _ => rfl⟩
  · refine ⟨_, cap, rfl, ⟨hn, h1, fun _ => ⟨g, 0, rfl, fun j x hx => ?_⟩⟩, fun h => by cases h⟩
    have hj : j < n := by rw [← hn]; exact (List.getElem?_eq_some_iff.1 hx).1
    have e : (q.map bv)[j]? = some (bv x) := by rw [List.getElem?_map, hx]; rfl
    rw [← h4, List.getElem?_take, if_pos (by omega)] at e
    simp only [World.cell?, hheap, Nat.zero_add]
    simpa using e
set_option maxRecDepth 100000 in
theorem wpList_append_run {P : Program} (w : World) {ops : Array Oper} {rest : List Oper} {o : Oper} {a : Act} {Q : Exit → Act → World → Prop} (hgd : o.guard = none) (s x : Operand) (t : TypeId)
    (ho : o.op = .call { callee := .builtin .append, args := #[s, x], argTypes := #[t, t] }) (v u : Value) (hs : a.eval s = v) (hx : a.eval x = u) {v' : Value} {w' : World}
    (hr : (Builtin.append_ #[t, t] o.type #[v, u]).run P w = .ok v' w') (h : wpList P ops Q rest (a.put o.dst v') w') : wpList P ops Q (o :: rest) a w :=
  wpList_plain hgd fun _ hK => by
    unfold Oper.wp execOp
    simp only [ho, resolve, invoke, builtin, Sem.run_bind, Sem.run_pure, Result.andThen_ok, List.map_toArray, List.map_cons, List.map_nil, hs, hx, hr]
    exact hK _ _ h
set_option maxRecDepth 100000 in
theorem gr_row {w w1 w2 : World} {row : Option Nat} (h : w.grownBy w1 none) (k : w1.grownBy w2 row) (hr : ∀ j, row = some j → w.heap.size ≤ j) : w.grownBy w2 none :=
  ⟨k.os.trans h.os, k.tape.trans h.tape, k.output.trans h.output, Nat.le_trans h.size k.size, fun i hi _ => by
    rw [k.block i (by have := h.size; omega) (by intro e; have := hr i e.symm; omega), h.block i hi (by simp)]⟩
set_option maxRecDepth 100000 in
theorem BytesOf.keptLt {w w' : World} {a : Option Addr} {n c : Nat} {q : List UInt8} (h : BytesOf w a n c q) (hg : w.grownBy w' none) : BytesOf w' a n c q := h.kept hg

structure ORel (w w' : World) (v : Value) (q : List UInt8) : Prop where
  z : Has w' w.heap.size ((List.replicate 32 (0 : UInt8)).map bv) 158
  o : w'.ownsRow (w.heap.size + 1) 5 1 v q.length (q.map bv)
  g : w.grownBy w' none
set_option maxRecDepth 100000 in
theorem ORel.app {w w' w2 : World} {v v' : Value} {q r : List UInt8} (h : ORel w w' v q) (ho : w2.ownsRow (w.heap.size + 1) 5 1 v' (q.length + r.length) (q.map bv ++ r.map bv)) (hg : w'.grownBy w2 v.ownBlock) : ORel w w2 v' (q ++ r) := by
  have hlt := h.o.lt
  refine ⟨?_, ?_, gr_row h.g hg (fun j hj => by have := (hlt j hj).1; omega)⟩
  · refine h.z.kept hg (fun e => ?_)
    have := (hlt _ e.symm).1
    omega
  · rw [List.length_append, List.map_append]; exact ho

set_option maxRecDepth 100000 in
set_option maxHeartbeats 8000000 in
theorem rof_any (a : Option Addr) (n c : Nat) (ps : List (List UInt8)) (w : World) (hp : Parts w a n ps) (hnil : ∀ B o, a = some ⟨B, o, none⟩ → ∀ j a' n' c', j < n → w.cell? ⟨B, o + j, none⟩ = some (.slice a' n' c') → a' = none → c' = 0)
    (hrk : RK w) (hw3 : 4 ≤ w.heap.size) (hn : n ≤ 4611686018427387904) (hT : ps.flatten.length ≤ 4294967296) :
    Calls Tryz.prog 108 #[.slice a n c] w fun e w' => e = .returned (.agg ((Sha.sha ps.flatten).map bv).toArray) ∧ w.grownBy w' none := by
  have HPS : Keep (Parts w a n ps ∧ ∀ B o, a = some ⟨B, o, none⟩ → ∀ j a' n' c', j < n → w.cell? ⟨B, o + j, none⟩ = some (.slice a' n' c') → a' = none → c' = 0) := ⟨hp, hnil⟩
  have HRK : Keep (RK w) := ⟨hrk⟩
  have HT : Keep (ps.flatten.length ≤ 4294967296) := ⟨hT⟩
  clear hp hrk hT hnil
  go_enter Tryz.func108, Tryz.ntmps108
  go_wp2
  go_loopw [3, 4] (fun v t w' => ∃ (i : Nat) (a' : Option Addr) (m c' : Nat), i ≤ n ∧ t = .int .i64 i ∧ v = .slice a' m c' ∧ Keep (ORel w w' (.slice a' m c') (ps.take i).flatten)) (fun _ t _ => n - (intOf t).toNat)
  case atStart => exact ⟨0, none, 0, 0, by omega, rfl, rfl, ⟨Has.new _ _ _, World.ownsRow_nil _ _ _ _, World.grownBy_alloc _ _ _⟩⟩
  case round =>
    obtain ⟨i, a', m, c', hi, rfl, rfl, hrel⟩ := hrel
    by_cases hli : i < n
    · obtain ⟨B, o, rfl, hat⟩ := HPS.out.1.at_ (by omega)
      have hpl := HPS.out.1.len
      obtain ⟨a2, n2, c2, hcell, hby⟩ := hat i (ps[i]'(by omega)) (List.getElem?_eq_getElem (by omega))
      have hc : wr.cell? ⟨B, o + i, none⟩ = some (.slice a2 n2 c2) := hrel.out.g.cell hcell (by simp)
      have hnl : a2 = none → c2 = 0 := HPS.out.2 B o rfl i a2 n2 c2 hli hcell
      have hle : (ps.take i).flatten.length + (ps[i]'(by omega)).length ≤ 4294967296 := by
        have h1 := flat_le ps (i + 1)
        have h2 := HT.out
        rw [take_flat ps i (by omega), List.length_append] at h1
        omega
      obtain ⟨v', w', hap, hown, hgr⟩ := app28 wr (w.heap.size + 1) _ _ _ a2 n2 c2 (ps[i]'(by omega)) hrel.out.o (hby.kept hrel.out.g) hnl (by rw [← hby.len]; omega) (by have := hrel.out.z.lt; omega)
      have H2 : ORel w w' v' (ps.take (i + 1)).flatten := by
        rw [take_flat ps i (by omega)]
        rw [← hby.len] at hown
        exact hrel.out.app hown hgr
      obtain ⟨a3, c3, rfl, _, _⟩ := own_bytes H2.o
      obtain ⟨m3, hm3⟩ : ∃ x, (ps.take (i + 1)).flatten.length = x := ⟨_, rfl⟩
      have H3 : Keep (ORel w w' (.slice a3 m3 c3) (ps.take (i + 1)).flatten) := ⟨by rw [← hm3]; exact H2⟩
      have HAP : Keep ((Builtin.append_ #[73, 73] 73 #[.slice a' m c', .slice a2 n2 c2]).run Tryz.prog wr = .ok (.slice a3 m3 c3) w') := ⟨by rw [← hm3]; exact hap⟩
      clear hat hcell hby hnl hown hgr H2 hle hrel hap hm3
      go_wp2_with (at_builtin; refine wpList_append_run _ rfl _ _ 73 rfl _ _ rfl rfl HAP.out ?_)
      refine ⟨⟨i + 1, _, _, _, by omega, by go_num, rfl, H3⟩, ?_⟩
      simp [intOf]; omega
    · have HE : Keep (ORel w wr (.slice a' m c') ps.flatten ∧ m = ps.flatten.length) := ⟨by
        have hin : i = ps.length := by rw [HPS.out.1.len]; omega
        have h := hrel.out
        rw [hin, List.take_length] at h
        obtain ⟨a3, c3, e, _, _⟩ := own_bytes h.o
        exact ⟨h, by injection e⟩⟩
      have HB : Keep (BytesOf wr a' m c' ps.flatten) := ⟨by
        obtain ⟨a3, c3, e, h2, _⟩ := own_bytes HE.out.1.o
        injection e with e1 e2 e3
        subst e1 e3
        rw [HE.out.2]; exact h2⟩
      have hm : m ≤ 4294967296 := by rw [HE.out.2]; exact HT.out
      have HKr : Keep (RK wr ∧ 4 ≤ wr.heap.size) := ⟨HRK.out.kept HE.out.1.g, by have := HE.out.1.g.size; omega⟩
      clear hrel
      go_wp2_with (first
        | (go_at_call 156; refine (rsum_any _ _ _ ps.flatten _ HB.out hm HKr.out.1 HKr.out.2).mono ?_; rintro e w3 ⟨rfl, g3⟩
           have hsl : (Sha.sha ps.flatten).length = 32 := by rw [Sha.sha, out_len, Sha.fold_len]; rfl
           generalize hsv : Sha.sha ps.flatten = S at hsl ⊢
           have HSV : Keep (Sha.sha ps.flatten = S) := ⟨hsv⟩
           have H4 : Keep (Has w3 w.heap.size ((List.replicate 32 (0 : UInt8)).map bv) 158 ∧ w.grownBy w3 none) := ⟨HE.out.1.z.kept g3 (by simp), HE.out.1.g.trans g3⟩
           have HSS : Keep ((Tryz.prog.info? 158).map (·.size) = some (S.map bv).length ∧ (S.map bv).length = 32) := ⟨by rw [List.length_map, hsl]; exact ⟨size25, rfl⟩⟩
           clear g3 hsv hsl)
        | (refine wpList_store_mid rfl 158 _ _ rfl _ _ _ rfl rfl (H4.out.1.there 0 _ (by rw [List.size_toArray, HSS.out.2]; simp)) HSS.out.1 (bytes_one _) ?_))
      refine ret_cell (b := w.heap.size) (cs := S.map bv) (t := 158) rfl rfl ?_ under25 rfl HSS.out.1 rfl ⟨by rw [HSV.out], ?_⟩
      · exact H4.out.1.setAll _ (by rw [HSS.out.2]; simp)
      · exact gr_new H4.out.2 (gr_sets _ _ _ _) (Nat.le_refl _)
end Go.Proofs.YtkdjcknikhgfkabGreatDoor

namespace Go.Proofs.YtkdjcknikhgfkabGreatDoor
open Go Go.RowKit

set_option maxRecDepth 100000 in
theorem parts_one (w : World) (a : Option Addr) (n c : Nat) (q : List UInt8) (hq : BytesOf w a n c q) : Parts (w.alloc (.cells #[.slice a n c] 73)) (some ⟨w.heap.size, 0, none⟩) 1 [q] := by
  refine ⟨rfl, fun _ => ⟨_, 0, rfl, fun j p hp => ?_⟩⟩
  match j, hp with
  | 0, hp =>
    obtain rfl : q = p := by simpa using hp
    refine ⟨a, n, c, ?_, hq.kept (World.grownBy_alloc _ _ _)⟩
    rw [(Has.newA w #[.slice a n c] 73).cell]; rfl
  | j + 1, hp => simp at hp
def shaB (s : ByteArray) : ByteArray := ⟨(Sha.sha (sl s)).toArray⟩

/-- append of one byte to a row of the call's own: its run, and where the row lies -/
theorem app1 (w : World) (base : Nat) (v : Value) (n : Nat) (xs : List UInt8) (x : UInt8) (hown : w.ownsRow base 5 1 v n (xs.map bv)) (hn : n ≤ 1000) (hbase : base ≤ w.heap.size) :
    ∃ a' c' w', (Builtin.append_ #[73, 73] 73 #[v, .slice (some ⟨w.heap.size, 0, none⟩) 1 1]).run Tryz.prog (w.alloc (.cells #[.int .u8 x.toNat] 5)) = .ok (.slice a' (n + 1) c') w' ∧ w'.ownsRow base 5 1 (.slice a' (n + 1) c') (n + 1) ((xs ++ [x]).map bv) ∧ (w.alloc (.cells #[.int .u8 x.toNat] 5)).grownBy w' v.ownBlock ∧ ((Value.slice a' (n + 1) c').ownBlock = v.ownBlock ∨ (Value.slice a' (n + 1) c').ownBlock = some (w.heap.size + 1)) := by
  have hi : ∃ i, Tryz.prog.info? 5 = some i ∧ i.size = 1 ∧ i.bytes = 1 ∧ i.zero = some (.int .u8 0) := by
    have h : (Tryz.prog.info? 5).map (fun i => (i.size, i.bytes, i.zero)) = some (1, 1, some (.int .u8 0)) := by kernel_rfl
    cases hq : Tryz.prog.info? 5 with
    | none => simp [hq] at h
    | some i =>
      simp only [hq, Option.map_some, Option.some.injEq, Prod.mk.injEq] at h
      exact ⟨i, rfl, h.1, h.2.1, h.2.2⟩
  obtain ⟨i, h1, h2, h3, h4⟩ := hi
  have hk := hown.kept (World.grownBy_alloc w (.cells #[.int .u8 x.toNat] 5) none) (by cases v.ownBlock <;> simp)
  obtain ⟨v', w', r1, r2, r3, _, r5⟩ := run_append_own_at (P := Tryz.prog) _ base 73 73 5 i (.int .u8 0) 1 1 under28 h1 h4 h2 h3 rfl (by decide) v n _ hk ⟨w.heap.size, 0, none⟩ 1 1 [bv x] rfl (fun j u hu => by
      rw [Addr.add_mid, Nat.zero_add]
      refine (Has.newA w #[.int .u8 x.toNat] 5).cellv j _ ?_
      match j, hu with
      | 0, hu => exact hu
      | j + 1, hu => simp at hu) (fun u hu => by simp at hu; subst hu; rfl) (by unfold maxLen; omega) (by omega) (by rw [heap1]; omega)
  have e : xs.map bv ++ [bv x] = (xs ++ [x]).map bv := by simp
  rw [e] at r2
  obtain ⟨a', c', rfl, _, _⟩ := own_bytes r2
  rw [heap1] at r5
  exact ⟨a', c', w', r1, r2, r3, r5⟩
/-- where MacHmac's loop stands: i bytes in both rows -/
structure HR (w0 w' : World) (K : List UInt8) (vi vo : Value) (i : Nat) : Prop where
  oi : w'.ownsRow w0.heap.size 5 1 vi i ((Mac.kx 54 (K.take i)).map bv)
  oo : w'.ownsRow w0.heap.size 5 1 vo i ((Mac.kx 92 (K.take i)).map bv)
  ne : ∀ b, vi.ownBlock = some b → vo.ownBlock ≠ some b
  g : w0.grownBy w' none
set_option maxRecDepth 100000 in
theorem kx_snoc (K : List UInt8) (x y : UInt8) (i : Nat) (hy : K[i]? = some y) : Mac.kx x (K.take i) ++ [y ^^^ x] = Mac.kx x (K.take (i + 1)) := by
  obtain ⟨h1, e1⟩ := List.getElem?_eq_some_iff.1 hy
  rw [List.take_succ_eq_append_getElem h1, e1, Mac.kx, Mac.kx, List.map_append]; rfl
set_option maxRecDepth 100000 in
theorem HR.appI {w0 w' : World} {K : List UInt8} {vi vo : Value} {i : Nat} (h : HR w0 w' K vi vo i) (hi : i < 64) (y : UInt8) (hy : K[i]? = some y) (v : UInt8) (hv : y ^^^ 54 = v) :
    ∃ a' c' w2, (Builtin.append_ #[73, 73] 73 #[vi, .slice (some ⟨w'.heap.size, 0, none⟩) 1 1]).run Tryz.prog (w'.alloc (.cells #[.int .u8 v.toNat] 5)) = .ok (.slice a' (i + 1) c') w2 ∧
      w2.ownsRow w0.heap.size 5 1 (.slice a' (i + 1) c') (i + 1) ((Mac.kx 54 (K.take (i + 1))).map bv) ∧ w2.ownsRow w0.heap.size 5 1 vo i ((Mac.kx 92 (K.take i)).map bv) ∧ (∀ b, (Value.slice a' (i + 1) c').ownBlock = some b → vo.ownBlock ≠ some b) ∧ w0.grownBy w2 none := by
  obtain ⟨a', c', w2, r1, r2, r3, r5⟩ := app1 w' w0.heap.size vi i _ v h.oi (by omega) h.g.size
  rw [← hv, kx_snoc K 54 y i hy] at r2
  have ga := World.grownBy_alloc w' (.cells #[.int .u8 v.toNat] 5) none
  have ko := h.oo.kept ga (by cases vo.ownBlock <;> simp)
  refine ⟨a', c', w2, r1, r2, ko.kept r3 ?_, fun b hb hb2 => ?_, gr_row (h.g.trans ga) r3 (fun j hj => (h.oi.lt j hj).1)⟩
  · cases hvo : vo.ownBlock with
    | none => exact .inl rfl
    | some b => exact .inr (fun e => h.ne b e.symm hvo)
  · rcases r5 with e | e
    · rw [e] at hb; exact h.ne b hb hb2
    · rw [e] at hb
      have := (h.oo.lt b hb2).2
      have e2 := Option.some.inj hb
      omega
set_option maxRecDepth 100000 in
theorem HR.appO {w0 w2 : World} {K : List UInt8} {vi vo : Value} {i : Nat} (hI : w2.ownsRow w0.heap.size 5 1 vi (i + 1) ((Mac.kx 54 (K.take (i + 1))).map bv)) (hO : w2.ownsRow w0.heap.size 5 1 vo i ((Mac.kx 92 (K.take i)).map bv)) (hne : ∀ b, vi.ownBlock = some b → vo.ownBlock ≠ some b) (hg : w0.grownBy w2 none) (hi : i < 64) (y : UInt8) (hy : K[i]? = some y) (v : UInt8) (hv : y ^^^ 92 = v) :
    ∃ a' c' w3, (Builtin.append_ #[73, 73] 73 #[vo, .slice (some ⟨w2.heap.size, 0, none⟩) 1 1]).run Tryz.prog (w2.alloc (.cells #[.int .u8 v.toNat] 5)) = .ok (.slice a' (i + 1) c') w3 ∧ HR w0 w3 K vi (.slice a' (i + 1) c') (i + 1) := by
  obtain ⟨a', c', w3, r1, r2, r3, r5⟩ := app1 w2 w0.heap.size vo i _ v hO (by omega) hg.size
  rw [← hv, kx_snoc K 92 y i hy] at r2
  have ga := World.grownBy_alloc w2 (.cells #[.int .u8 v.toNat] 5) none
  have ki := hI.kept ga (by cases vi.ownBlock <;> simp)
  refine ⟨a', c', w3, r1, ki.kept r3 ?_, r2, fun b hb hb2 => ?_, gr_row (hg.trans ga) r3 (fun j hj => (hO.lt j hj).1)⟩
  · cases hvi : vi.ownBlock with
    | none => exact .inl rfl
    | some b => exact .inr (fun e => hne b hvi e.symm)
  · rcases r5 with e | e
    · rw [e] at hb2; exact hne b hb hb2
    · rw [e] at hb2
      have := (hI.lt b hb).2
      have e2 := Option.some.inj hb2
      omega

set_option maxRecDepth 100000 in
theorem HR.bytes {w0 w' : World} {K : List UInt8} {ai ao : Option Addr} {ci co : Nat} (h : HR w0 w' K (.slice ai 64 ci) (.slice ao 64 co) 64) (hK : K.length = 64) : BytesOf w' ai 64 ci (Mac.kx 54 K) ∧ BytesOf w' ao 64 co (Mac.kx 92 K) ∧ ai ≠ none ∧ ao ≠ none := by
  obtain ⟨oi, oo, _, _⟩ := h
  rw [List.take_of_length_le (by omega)] at oi oo
  obtain ⟨a1, c1, e1, b1, n1⟩ := own_bytes oi
  obtain ⟨a2, c2, e2, b2, n2⟩ := own_bytes oo
  injection e1 with x1 x2 x3
  injection e2 with y1 y2 y3
  subst x1 x3 y1 y3
  refine ⟨b1, b2, fun e => ?_, fun e => ?_⟩
  · obtain ⟨B, o, e', _⟩ := b1.at_ (by decide)
    rw [e] at e'; cases e'
  · obtain ⟨B, o, e', _⟩ := b2.at_ (by decide)
    rw [e] at e'; cases e'
set_option maxRecDepth 100000 in
theorem key_at (kb : ByteArray) (h : kb.size ≤ 64) (i : Nat) (hi : i < 64) : ∃ y, (Mac.keyOf (sl kb))[i]? = some y ∧ (i < kb.size → (sl kb)[i]? = some y) ∧ (¬ i < kb.size → y = 0) := by
  have hl := sl_len kb
  unfold Mac.keyOf
  rw [if_pos (by omega)]
  by_cases hk : i < kb.size
  · refine ⟨kb[i], ?_, fun _ => sl_at kb i hk, fun h => absurd hk h⟩
    rw [List.getElem?_append_left (by omega), sl_at kb i hk]
  · refine ⟨0, ?_, fun h => absurd h hk, fun _ => rfl⟩
    rw [List.getElem?_append_right (by omega), List.getElem?_replicate, if_pos (by omega)]
end Go.Proofs.YtkdjcknikhgfkabGreatDoor

