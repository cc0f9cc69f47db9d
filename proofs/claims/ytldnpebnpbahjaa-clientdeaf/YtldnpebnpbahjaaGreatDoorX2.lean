import Derived.Test.YtldnpebnpbahjaaGreatDoorX1
import Derived.Lib.ConvBytes
namespace Go.Proofs.YtldnpebnpbahjaaGreatDoor
namespace Mac

def kx (x : UInt8) (l : List UInt8) : List UInt8 := l.map (· ^^^ x)
def keyOf (k : List UInt8) : List UInt8 := if k.length ≤ 64 then k ++ List.replicate (64 - k.length) 0 else Sha.sha k ++ List.replicate 32 0
def hmac (k t : List UInt8) : List UInt8 := Sha.sha (kx 92 (keyOf k) ++ Sha.sha (kx 54 (keyOf k) ++ t))
def len8 (n : Nat) : List UInt8 := [UInt8.ofNat (n / 2 ^ 56), UInt8.ofNat (n / 2 ^ 48), UInt8.ofNat (n / 2 ^ 40), UInt8.ofNat (n / 2 ^ 32), UInt8.ofNat (n / 2 ^ 24), UInt8.ofNat (n / 2 ^ 16), UInt8.ofNat (n / 2 ^ 8), UInt8.ofNat n]
def flat (ps : List (List UInt8)) : List UInt8 := ps.flatMap fun p => len8 p.length ++ p
def said (use : List UInt8) (ps : List (List UInt8)) : List UInt8 := use ++ 0 :: flat ps

set_option maxRecDepth 100000 in
theorem sha_len (T : List UInt8) : (Sha.sha T).length = 32 := by
  rw [Sha.sha, out_len, Sha.fold_len]; rfl
set_option maxRecDepth 100000 in
theorem keyOf_len (k : List UInt8) : (keyOf k).length = 64 := by
  unfold keyOf
  split
  · simp; omega
  · simp [sha_len]
set_option maxRecDepth 100000 in
theorem kx_len (x : UInt8) (l : List UInt8) : (kx x l).length = l.length := by simp [kx]
set_option maxRecDepth 100000 in
theorem hmac_len (k t : List UInt8) : (hmac k t).length = 32 := sha_len _
set_option maxRecDepth 100000 in
theorem len8_len (n : Nat) : (len8 n).length = 8 := rfl
set_option maxRecDepth 100000 in
theorem keyOf_sum (k : List UInt8) (h : 64 < k.length) : keyOf (Sha.sha k) = keyOf k := by
  unfold keyOf
  rw [if_pos (by rw [sha_len]; omega), if_neg (by omega), sha_len]
set_option maxRecDepth 100000 in
theorem keyOf_zeros (k : List UInt8) (n : Nat) (h : k.length + n ≤ 64) : keyOf (k ++ List.replicate n 0) = keyOf k := by
  unfold keyOf
  rw [if_pos (by simp <;> omega), if_pos (by omega), List.append_assoc, List.replicate_append_replicate]
  congr 2
  simp; omega

set_option maxRecDepth 100000 in
theorem len8_inj {m n : Nat} (hm : m < 2 ^ 64) (hn : n < 2 ^ 64) (h : len8 m = len8 n) : m = n := by
  simp only [len8, List.cons.injEq, and_true] at h
  obtain ⟨h7, h6, h5, h4, h3, h2, h1, h0⟩ := h
  have f : ∀ a b : Nat, UInt8.ofNat a = UInt8.ofNat b → a % 256 = b % 256 := fun a b e => by
    have := congrArg UInt8.toNat e
    simpa using this
  have h7 := f _ _ h7
  have h6 := f _ _ h6
  have h5 := f _ _ h5
  have h4 := f _ _ h4
  have h3 := f _ _ h3
  have h2 := f _ _ h2
  have h1 := f _ _ h1
  have h0 := f _ _ h0
  clear f
  simp only [Nat.reducePow] at *
  omega
set_option maxRecDepth 100000 in
theorem flat_inj : ∀ (ps qs : List (List UInt8)), (∀ p ∈ ps, p.length < 2 ^ 64) → (∀ p ∈ qs, p.length < 2 ^ 64) → flat ps = flat qs → ps = qs
  | [], [], _, _, _ => rfl
  | [], q :: qs, _, _, h => by
    have := congrArg List.length h
    simp only [flat, List.flatMap_cons, List.flatMap_nil, List.length_append, List.length_nil, len8_len] at this
    omega
  | p :: ps, [], _, _, h => by
    have := congrArg List.length h
    simp only [flat, List.flatMap_cons, List.flatMap_nil, List.length_append, List.length_nil, len8_len] at this
    omega
  | p :: ps, q :: qs, hp, hq, h => by
    simp only [flat, List.flatMap_cons, List.append_assoc] at h
    obtain ⟨h1, h2⟩ := List.append_inj h (by rw [len8_len, len8_len])
    have hl := len8_inj (hp p (by simp)) (hq q (by simp)) h1
    obtain ⟨h3, h4⟩ := List.append_inj h2 hl
    rw [h3, flat_inj ps qs (fun x hx => hp x (by simp [hx])) (fun x hx => hq x (by simp [hx])) h4]
set_option maxRecDepth 100000 in
theorem said_inj (use : List UInt8) (ps qs : List (List UInt8)) (hp : ∀ p ∈ ps, p.length < 2 ^ 64) (hq : ∀ p ∈ qs, p.length < 2 ^ 64) : said use ps = said use qs ↔ ps = qs := by
  constructor
  · intro h
    unfold said at h
    have := List.append_cancel_left h
    exact flat_inj ps qs hp hq (by simpa using this)
  · intro h; rw [h]
set_option maxRecDepth 100000 in
theorem flat_snoc (ps : List (List UInt8)) (i : Nat) (hi : i < ps.length) : flat (ps.take (i + 1)) = flat (ps.take i) ++ (len8 (ps[i]).length ++ ps[i]) := by
  rw [List.take_succ_eq_append_getElem hi, flat, List.flatMap_append]; simp only [flat, List.flatMap_cons, List.flatMap_nil, List.append_nil]
set_option maxRecDepth 100000 in
theorem flat_le (ps : List (List UInt8)) (i : Nat) : (flat (ps.take i)).length ≤ (flat ps).length := by
  have e : flat ps = flat (ps.take i) ++ flat (ps.drop i) := by
    simp only [flat]; rw [← List.flatMap_append, List.take_append_drop]
  rw [e, List.length_append]; omega
end Mac
end Go.Proofs.YtldnpebnpbahjaaGreatDoor

namespace Go.Proofs.YtldnpebnpbahjaaGreatDoor
open Go Go.RowKit

def zero512 : Array Value := ((List.replicate 512 (0 : UInt8)).map bv).toArray
set_option maxRecDepth 100000 in
theorem zero65 : ∀ W : World, (zeroValue 178).run Tryz.prog W = .ok (.agg zero512) W :=
  (zero_of_info (P := Tryz.prog) (t := 178) (v := .agg zero512) (n := 512) (by kernel_rfl)).1
set_option maxRecDepth 100000 in
theorem zero512_list : zero512.toList = (List.replicate 512 (0 : UInt8)).map bv := rfl
set_option maxRecDepth 100000 in
theorem copy_str (w : World) (ty : TypeId) (b o dLen dCap m : Nat) (t : ByteArray) (hm : m = Nat.min t.size dLen) (hth : w.there b o m) :
    (Builtin.copy_ #[60, 9] ty #[.slice (some ⟨b, o, none⟩) dLen dCap, .string t]).run Tryz.prog w = .ok (.int .i64 m) (w.setCells b o (((sl t).take m).map bv)) := by
  have hl : (((sl t).take m).map bv).length = m := by
    rw [List.length_map, List.length_take, sl_len, hm]
    exact Nat.min_eq_left (Nat.min_le_left _ _)
  have hst := run_storeCells_cells (P := Tryz.prog) b o (((sl t).take m).map bv) 0 w (by rw [hl]; intro j hj; simpa using (hth j hj).1) (by rw [hl]; intro j hj; simpa using (hth j hj).2) (by
    intro v hv
    obtain ⟨x, _, rfl⟩ := List.mem_map.1 hv
    rfl)
  have hz : ∀ w, (Go.sizeOf 5).run Tryz.prog w = .ok 1 w := fun w => by kernel_rfl
  simp only [Nat.add_zero] at hst
  have e : (sl t).map bv = t.data.toList.map (fun b : UInt8 => Value.int IntKind.u8 (b.toNat : Int)) := rfl
  simp [Builtin.copy_, run_underlying under28, Builtin.lenOf, Builtin.firstCells, hz, ← hm]
  rw [← e, ← List.map_take]
  rw [hst]
  rfl

set_option maxRecDepth 100000 in
theorem wpList_copy_eq {P : Program} (w : World) {ops : Array Oper} {rest : List Oper} {o : Oper} {a : Act} {Q : Exit → Act → World → Prop} (hgd : o.guard = none) (d s : Operand) (t t' : TypeId)
    (ho : o.op = .call { callee := .builtin .copy, args := #[d, s], argTypes := #[t, t'] }) (v u : Value) (hd : a.eval d = v) (hs : a.eval s = u) {v' : Value} {w' : World}
    (hr : (Builtin.copy_ #[t, t'] o.type #[v, u]).run P w = .ok v' w') (h : wpList P ops Q rest (a.put o.dst v') w') : wpList P ops Q (o :: rest) a w :=
  wpList_plain hgd fun _ hK => by
    unfold Oper.wp execOp
    simp only [ho, resolve, invoke, builtin, Sem.run_bind, Sem.run_pure, Result.andThen_ok, List.map_toArray, List.map_cons, List.map_nil, hd, hs, hr]
    exact hK _ _ h
set_option maxRecDepth 100000 in
theorem slice65 (b : Nat) (n : Nat) (hn : n ≤ 512) (W : World) :
    (Instr.sliceAt 178 (.pointer (some ⟨b, 0, none⟩)) none (some (.int .i64 (n : Int))) none).run Tryz.prog W = .ok (.slice (some ⟨b, 0, none⟩) n 512) W := by
  have z : (sizeOf (Tryz.prog.elem 178)).run Tryz.prog W = .ok 1 W := by kernel_rfl
  have l : Tryz.prog.arrayLen 178 = 512 := by kernel_rfl
  rw [run_sliceAt_array_h W 178 _ (by kernel_rfl) .i64 n (by omega) (by rw [l]; omega), z, l]
  rfl
/-- where a write stands: T written, t left -/
structure MW (w w' : World) (b : Nat) (all T : List UInt8) (t : ByteArray) : Prop where
  all_ : T ++ sl t = all
  h : HashOf w' b T
  p : ∃ P : List UInt8, P.length = 512 ∧ Has w' w.heap.size (P.map bv) 178
  g : w.grownBy w' (some b)
set_option maxRecDepth 100000 in
theorem MW.copied {w wr : World} {b : Nat} {all T : List UInt8} {t : ByteArray} (h : MW w wr b all T t) (hb : b < w.heap.size) (m : Nat) (hm : m = Nat.min t.size 512) :
    ∃ w2, (∀ ty, (Builtin.copy_ #[60, 9] ty #[.slice (some ⟨w.heap.size, 0, none⟩) 512 512, .string t]).run Tryz.prog wr = .ok (.int .i64 m) w2) ∧ MW w w2 b all T t ∧ Bytes b w2 (some ⟨w.heap.size, 0, none⟩) m 512 ((sl t).take m) := by
  obtain ⟨P, hP, hhas⟩ := h.p
  have hm1 : m ≤ t.size := by rw [hm]; exact Nat.min_le_left _ _
  have hm2 : m ≤ 512 := by rw [hm]; exact Nat.min_le_right _ _
  have hlt : ((sl t).take m).length = m := by rw [List.length_take, sl_len]; omega
  have hth : wr.there w.heap.size 0 m := hhas.there 0 m (by rw [List.length_map, hP]; omega)
  refine ⟨_, fun ty => copy_str wr ty w.heap.size 0 512 512 m t hm hth, ?_, ?_⟩
  · have hne : some b ≠ some w.heap.size := by simp; omega
    have h2 := hhas.setCells (((sl t).take m).map bv) 0
    rw [over_eq _ _ _ (by rw [List.length_map, List.length_map, hlt, hP]; omega), ← List.map_take, ← List.map_drop, ← List.map_append, ← List.map_append] at h2
    refine ⟨h.all_, h.h.kept (gr_sets _ _ _ _) hne, ⟨_, ?_, h2⟩, gr_new h.g (gr_sets _ _ _ _) (Nat.le_refl _)⟩
    simp [hP]; rw [sl_len]; omega
  · refine ⟨hlt, hm2, fun _ => ⟨_, 0, rfl, by omega, fun j x hx => ?_⟩⟩
    have h2 := hhas.setCells (((sl t).take m).map bv) 0
    rw [over_eq _ _ _ (by rw [List.length_map, List.length_map, hlt, hP]; omega)] at h2
    rw [Nat.zero_add, h2.cell]
    have hj : j < m := by rw [← hlt]; exact (List.getElem?_eq_some_iff.1 hx).1
    rw [List.take_zero, List.nil_append, List.getElem?_append_left (by rw [List.length_map, hlt]; exact hj), List.getElem?_map, hx]
    rfl
set_option maxRecDepth 100000 in
theorem MW.wrote {w w2 w3 : World} {b : Nat} {all T : List UInt8} {t : ByteArray} {m : Nat} (h : MW w w2 b all T t) (hb : b < w.heap.size) (h3 : HashOf w3 b (T ++ (sl t).take m)) (g3 : w2.grownBy w3 (some b)) : MW w w3 b all (T ++ (sl t).take m) (t.extract m t.size) := by
  obtain ⟨P, hP, hhas⟩ := h.p
  refine ⟨?_, h3, ⟨P, hP, hhas.kept g3 (by simp <;> omega)⟩, h.g.trans g3⟩
  rw [sl_extract, List.append_assoc, List.take_append_drop]; exact h.all_

set_option maxRecDepth 100000 in
set_option maxHeartbeats 4000000 in
theorem mwrite_gen (b : Nat) (T : List UInt8) (s : ByteArray) (w : World) (hh : HashOf w b T) (hk : Kc w) (hb0 : 1 ≠ b) (hs0 : s.size ≤ 9223372036854775807) :
    Calls Tryz.prog 68 #[.pointer (some ⟨b, 0, none⟩), .string s] w fun e w' => e = .returned (.tuple #[]) ∧ HashOf w' b (T ++ sl s) ∧ w.grownBy w' (some b) := by
  have hbw := hh.lt
  have H0 : Keep (MW w (w.alloc (.cells zero512 178)) b (T ++ sl s) T s) := ⟨rfl, hh.kept (World.grownBy_alloc _ _ none) (by simp), ⟨List.replicate 512 0, by simp, by have := Has.newA w zero512 178; rw [zero512_list] at this; exact this⟩, World.grownBy_alloc _ _ _⟩
  have HK : Keep (Kc w) := ⟨hk⟩
  have hz := zero65
  generalize T ++ sl s = all at *
  clear hh hk
  go_enter Tryz.func68, Tryz.ntmps68
  go_wp2
  go_loopw [1] (fun v w' => ∃ (t : ByteArray), t.size ≤ 9223372036854775807 ∧ v = .string t ∧ Keep (∃ T, MW w w' b all T t)) (fun v _ => strSize v)
  case atStart => exact ⟨s, hs0, rfl, ⟨_, H0.out⟩⟩
  case round =>
    obtain ⟨t, hts, rfl, hrel⟩ := hrel
    by_cases hn : 0 < t.size
    · obtain ⟨T, hW⟩ := hrel.out
      obtain ⟨m, hm⟩ : ∃ m, m = Nat.min t.size 512 := ⟨_, rfl⟩
      obtain ⟨w2, hcp, h2, hby⟩ := hW.copied hbw m hm
      have hm1 : m ≤ t.size := by rw [hm]; exact Nat.min_le_left _ _
      have hm2 : m ≤ 512 := by rw [hm]; exact Nat.min_le_right _ _
      have hm0 : 0 < m := by rw [hm]; simp only [Nat.min_def]; split <;> omega
      have hcp3 := hcp 3
      have hs65 := slice65 w.heap.size m hm2
      have H2 : Keep (MW w w2 b all T t ∧ Bytes b w2 (some ⟨w.heap.size, 0, none⟩) m 512 ((sl t).take m) ∧ Kc w2) := ⟨h2, hby, HK.out.kept h2.g (by simpa using hb0)⟩
      clear hrel hW hcp h2 hby hm
      go_wp2_with (
          (go_at_call 69; refine (write_gen b _ m 512 T ((sl t).take m) w2 H2.out.1.h H2.out.2.2 hb0 H2.out.2.1 (by omega)).mono ?_; rintro e w3 ⟨rfl, h3, g3⟩; have H3 : Keep (MW w w3 b all (T ++ (sl t).take m) (t.extract m t.size)) := ⟨H2.out.1.wrote hbw h3 g3⟩; clear h3 g3))
      refine ⟨⟨_, by rw [ByteArray.size_extract]; omega, rfl, ⟨_, H3.out⟩⟩, ?_⟩
      simp only [strSize, ByteArray.size_extract]; omega
    · have HE : Keep (HashOf wr b all ∧ w.grownBy wr (some b)) := ⟨by
        obtain ⟨T, hW⟩ := hrel.out
        have ht : sl t = [] := List.length_eq_zero_iff.1 (by rw [sl_len]; omega)
        have ha := hW.all_
        rw [ht, List.append_nil] at ha
        rw [← ha]
        exact ⟨hW.h, hW.g⟩⟩
      clear hrel
      go_wp2
      go_end0
      exact ⟨rfl, HE.out⟩
set_option maxRecDepth 100000 in
theorem mwrite_any (b : Nat) (T : List UInt8) (s : ByteArray) (w : World) (hh : HashOf w b T) (hk : Kc w) (hb0 : 1 ≠ b) (hT : T.length + s.size ≤ 4611686018427387904) :
    Calls Tryz.prog 68 #[.pointer (some ⟨b, 0, none⟩), .string s] w fun e w' => e = .returned (.tuple #[]) ∧ HashOf w' b (T ++ sl s) ∧ w.grownBy w' (some b) :=
  mwrite_gen b T s w hh hk hb0 (by omega)
end Go.Proofs.YtldnpebnpbahjaaGreatDoor

namespace Go.Proofs.YtldnpebnpbahjaaGreatDoor
open Go Go.RowKit

structure BG (w w' : World) (k : List UInt8) (x : UInt8) (i : Nat) : Prop where
  k : Has w' w.heap.size ((Mac.kx x (k.take i) ++ k.drop i).map bv) 111
  g : w.grownBy w' none
set_option maxRecDepth 100000 in
theorem kx_step (k : List UInt8) (x y : UInt8) (i : Nat) (hy : k[i]? = some y) : (Mac.kx x (k.take i) ++ k.drop i).set i (y ^^^ x) = Mac.kx x (k.take (i + 1)) ++ k.drop (i + 1) := by
  obtain ⟨h1, e1⟩ := List.getElem?_eq_some_iff.1 hy
  have hl : (Mac.kx x (k.take i)).length = i := by rw [Mac.kx_len, List.length_take]; omega
  rw [List.set_append_right _ _ (by omega), hl, Nat.sub_self, List.drop_eq_getElem_cons h1, List.set_cons_zero, List.take_succ_eq_append_getElem h1, e1, Mac.kx, Mac.kx, List.map_append]
  simp
set_option maxRecDepth 100000 in
theorem kx_at (k : List UInt8) (x y : UInt8) (i : Nat) (hy : k[i]? = some y) : (Mac.kx x (k.take i) ++ k.drop i)[i]? = some y := by
  obtain ⟨h1, e1⟩ := List.getElem?_eq_some_iff.1 hy
  have hl : (Mac.kx x (k.take i)).length = i := by rw [Mac.kx_len, List.length_take]; omega
  rw [List.getElem?_append_right (by omega), hl, Nat.sub_self, List.getElem?_drop, Nat.add_zero, hy]

set_option maxRecDepth 100000 in
set_option maxHeartbeats 4000000 in
theorem begin_any (k : List UInt8) (A : Array Value) (x : UInt8) (w : World) (hA : Keep (A = (k.map bv).toArray)) (h64 : k.length = 64) (hk : Kc w) :
    Calls Tryz.prog 67 #[.agg A, .int .u8 x.toNat] w fun e w' => ∃ b, e = .returned (.pointer (some ⟨b, 0, none⟩)) ∧ HashOf w' b (Mac.kx x k) ∧ w.grownBy w' none ∧ w.heap.size ≤ b := by
  have HK : Keep (Kc w) := ⟨hk⟩
  clear hk
  go_enter Tryz.func67, Tryz.ntmps67
  go_wp2
  go_loopw [7] (fun t w' => ∃ i : Nat, i ≤ 64 ∧ t = .int .i64 i ∧ Keep (BG w w' k x i)) (fun t _ => 64 - (intOf t).toNat)
  case atStart => exact ⟨0, by omega, rfl, ⟨by rw [hA.out]; exact Has.new _ _ _, World.grownBy_alloc _ _ _⟩⟩
  case round =>
    obtain ⟨i, hi, rfl, hrel⟩ := hrel
    by_cases hli : i < 64
    · obtain ⟨y, hy⟩ : ∃ y, k[i]? = some y := ⟨_, List.getElem?_eq_getElem (by omega)⟩
      obtain ⟨v, hv⟩ : ∃ v, y ^^^ x = v := ⟨_, rfl⟩
      have hc : wr.cell? ⟨w.heap.size, i, none⟩ = some (.int .u8 y.toNat) := hrel.out.k.cellv i _ (by rw [List.getElem?_map, kx_at k x y i hy]; rfl)
      have hf := hrel.out.k.frozen i
      have c1 := c_xor y x
      rw [hv] at c1
      have H2 : Keep (BG w (wr.setCell ⟨w.heap.size, i, none⟩ (.int .u8 v.toNat)) k x (i + 1)) := ⟨by
        have := hrel.out.k.setCell i (bv v)
        rw [← List.map_set, ← hv, kx_step k x y i hy, hv] at this
        exact this, gr_new hrel.out.g (gr_set _ _ _ _) (Nat.le_refl _)⟩
      clear hrel hy hv
      go_wp2
      refine ⟨⟨i + 1, by omega, by go_num, H2⟩, ?_⟩
      simp [intOf]; omega
    · have HE : Keep (Has wr w.heap.size ((Mac.kx x k).map bv) 111 ∧ w.grownBy wr none ∧ Kc wr) := ⟨by
        obtain rfl : i = 64 := by omega
        have h := hrel.out.k
        rw [List.take_of_length_le (by omega), List.drop_of_length_le (by omega), List.append_nil] at h
        exact ⟨h, hrel.out.g, HK.out.kept hrel.out.g (by simp)⟩⟩
      clear hrel
      go_wp2_with (first
        | (go_at_call 127; refine (new_any _).mono ?_; rintro e w1 ⟨rfl, h1, g1⟩
           have H1 : Keep (HashOf w1 wr.heap.size [] ∧ Bytes wr.heap.size w1 (some ⟨w.heap.size, 0, none⟩) 64 64 (Mac.kx x k) ∧ w.grownBy w1 none ∧ Kc w1 ∧ w.heap.size ≤ wr.heap.size ∧ 1 ≠ wr.heap.size) := ⟨h1, by
             refine ⟨by rw [Mac.kx_len, h64], Nat.le_refl _, fun _ => ⟨_, 0, rfl, by have := HE.out.1.lt; omega, fun j y hy => ?_⟩⟩
             rw [Nat.zero_add]
             exact (HE.out.1.kept g1 (by simp)).cellv j _ (by rw [List.getElem?_map, hy]; rfl), HE.out.2.1.trans g1, HE.out.2.2.kept g1 (by simp), HE.out.2.1.size, by have := HE.out.2.2.lt; omega⟩
           clear h1 g1)
        | (go_at_call 69; refine (write_any _ _ 64 64 [] (Mac.kx x k) w1 H1.out.1 H1.out.2.2.2.1 H1.out.2.2.2.2.2 H1.out.2.1 (by rw [Mac.kx_len, h64]; decide)).mono ?_; rintro e w3 ⟨rfl, h3, g3⟩; have H3 : Keep (HashOf w3 wr.heap.size (Mac.kx x k) ∧ w.grownBy w3 none) := ⟨h3, gr_new H1.out.2.2.1 g3 H1.out.2.2.2.2.1⟩; clear h3 g3))
      go_ret
      exact ⟨_, rfl, H3.out.1, H3.out.2, H1.out.2.2.2.2.1⟩
end Go.Proofs.YtldnpebnpbahjaaGreatDoor

namespace Go.Proofs.YtldnpebnpbahjaaGreatDoor
open Go Go.RowKit

def zl64 : List Value := (List.replicate 64 (0 : UInt8)).map bv
def zero64 : Array Value := zl64.toArray
set_option maxRecDepth 100000 in
theorem zero47 : ∀ W : World, (zeroValue 111).run Tryz.prog W = .ok (.agg zero64) W :=
  (zero_of_info (P := Tryz.prog) (t := 111) (v := .agg zero64) (n := 64) (by kernel_rfl)).1
set_option maxRecDepth 100000 in
theorem zero64_list : zero64.toList = (List.replicate 64 (0 : UInt8)).map bv := rfl

/-- two new pads -/
structure PD (w w' : World) (q : List UInt8) : Prop where
  r : Has w' w.heap.size ((List.replicate 64 (0 : UInt8)).map bv) 111
  p : Has w' (w.heap.size + 1) (q.map bv) 111
  g : w.grownBy w' none
set_option maxRecDepth 100000 in
theorem PD.start (w : World) : PD w ((w.alloc (.cells zero64 111)).alloc (.cells zero64 111)) (List.replicate 64 0) :=
  ⟨(Has.newA w zero64 111).alloc _, by have := Has.newA (w.alloc (.cells zero64 111)) zero64 111; rw [heap1] at this; exact this, (World.grownBy_alloc _ _ _).trans (World.grownBy_alloc _ _ _)⟩
set_option maxRecDepth 100000 in
theorem PD.grow {w w' w2 : World} {q : List UInt8} (h : PD w w' q) (hg : w'.grownBy w2 none) : PD w w2 q := ⟨h.r.kept hg (by simp), h.p.kept hg (by simp), h.g.trans hg⟩
set_option maxRecDepth 100000 in
theorem PD.sets {w w' : World} (h : PD w w' (List.replicate 64 0)) (q : List UInt8) (hq : q.length ≤ 64) : PD w (w'.setCells (w.heap.size + 1) 0 (q.map bv)) (q ++ List.replicate (64 - q.length) 0) := by
  refine ⟨h.r.kept (gr_sets _ _ _ _) (by simp), ?_, gr_new h.g (gr_sets _ _ _ _) (by omega)⟩
  have := h.p.setCells (q.map bv) 0
  rw [over_eq _ _ _ (by simp <;> omega), ← List.map_take, ← List.map_drop, ← List.map_append, ← List.map_append] at this
  rw [List.take_zero, List.nil_append, List.drop_replicate, List.length_map, Nat.zero_add] at this
  exact this
set_option maxRecDepth 100000 in
theorem PD.copied {w w' : World} (h : PD w w' (List.replicate 64 0)) (key : ByteArray) (hq : key.size ≤ 64) :
    ∃ w2, (Builtin.copy_ #[60, 9] 3 #[.slice (some ⟨w.heap.size + 1, 0, none⟩) 64 64, .string key]).run Tryz.prog w' = .ok (.int .i64 key.size) w2 ∧ PD w w2 (Mac.keyOf (sl key)) := by
  refine ⟨_, copy_str w' 3 (w.heap.size + 1) 0 64 64 key.size key (Nat.min_eq_left hq).symm (h.p.there 0 _ (by simp <;> omega)), ?_⟩
  rw [List.take_of_length_le (by rw [sl_len]; omega), Mac.keyOf, if_pos (by rw [sl_len]; omega)]
  exact h.sets (sl key) (by rw [sl_len]; exact hq)
set_option maxRecDepth 100000 in
theorem PD.copied2 {w w' : World} (h : PD w w' (List.replicate 64 0)) (B : Nat) (S : List UInt8) (hS : S.length = 32) (hb : Has w' B (S.map bv) 176) :
    ∃ w2, (Builtin.copy_ #[60, 60] 3 #[.slice (some ⟨w.heap.size + 1, 0, none⟩) 64 64, .slice (some ⟨B, 0, none⟩) 32 32]).run Tryz.prog w' = .ok (.int .i64 32) w2 ∧ PD w w2 (S ++ List.replicate 32 0) := by
  have hl : (S.map bv).length = 32 := by rw [List.length_map, hS]
  have hth := h.p.there 0 32 (by simp)
  have := run_copy_cells (P := Tryz.prog) w' 60 60 3 5 (w.heap.size + 1) 0 64 64 ⟨B, 0, none⟩ 32 32 (S.map bv) under28 (by kernel_rfl) (by rw [hl]; rfl)
    (fun j v hv => by rw [Addr.add_mid]; exact hb.cellv _ _ (by rw [Nat.zero_add]; exact hv)) (fun j hj => (hth j (by omega)).1) (fun j hj => (hth j (by omega)).2)
    (fun v hv => by obtain ⟨x, _, rfl⟩ := List.mem_map.1 hv; rfl)
  rw [hl] at this
  refine ⟨_, this, ?_⟩
  have h2 := h.sets S (by omega)
  rw [hS] at h2
  exact h2

/-- a new variable that holds a sum -/
theorem sumVar (w3 : World) (C : Array Value) (hC : C.size = 32) (S : List UInt8) (hS : S.length = 32) (w4 : World) (h : (w3.alloc (.cells C 176)).setCells w3.heap.size 0 (S.map bv) = w4) : Has w4 w3.heap.size (S.map bv) 176 ∧ w3.grownBy w4 none := by
  subst h
  refine ⟨(Has.newA w3 C 176).setAll _ (by simp [hC, hS]), gr_new (World.grownBy_alloc _ _ _) (gr_sets _ _ _ _) (Nat.le_refl _)⟩
set_option maxRecDepth 100000 in
theorem info36 (S : List UInt8) (hS : S.length = 32) : (Tryz.prog.info? 176).map (·.size) = some (S.map bv).toArray.size := by
  rw [List.size_toArray, List.length_map, hS]; exact size25

set_option maxRecDepth 100000 in
set_option maxHeartbeats 4000000 in
theorem mpad_any (key : ByteArray) (w : World) (hk : Kc w) (hsz : key.size ≤ 4611686018427387904) :
    Calls Tryz.prog 66 #[.string key] w fun e w' => e = .returned (.agg ((Mac.keyOf (sl key)).map bv).toArray) ∧ w.grownBy w' none := by
  have HK : Keep (Kc w) := ⟨hk⟩
  have hz := zero47
  have HL : Keep (((Mac.keyOf (sl key)).map bv).length = 64 ∧ (Tryz.prog.info? 111).map (·.size) = some ((Mac.keyOf (sl key)).map bv).length) := ⟨by
    have : ((Mac.keyOf (sl key)).map bv).length = 64 := by rw [List.length_map, Mac.keyOf_len]
    rw [this]; exact ⟨rfl, size41⟩⟩
  clear hk
  go_enter Tryz.func66, Tryz.ntmps66
  by_cases hl : key.size ≤ 64
  · obtain ⟨w2, hcp, h2⟩ := (PD.start w).copied key hl
    have H2 : Keep (PD w w2 (Mac.keyOf (sl key))) := ⟨h2⟩
    generalize Mac.keyOf (sl key) = q at H2 HL ⊢
    clear h2
    go_wp2_with (first
      | (refine wpList_load_mid rfl 111 _ rfl _ _ rfl _ _ H2.out.p.range under41 rfl HL.out.2 ?_)
      | (refine wpList_store_mid rfl 111 _ _ rfl _ _ _ rfl rfl (H2.out.r.there 0 _ (by rw [List.size_toArray, HL.out.1]; simp)) HL.out.2 (bytes_one _) ?_))
    refine ret_cell (b := w.heap.size) (cs := q.map bv) (t := 111) rfl rfl ?_ under41 rfl HL.out.2 rfl ⟨rfl, ?_⟩
    · exact H2.out.r.setAll _ (by rw [HL.out.1]; simp)
    · exact gr_new H2.out.g (gr_sets _ _ _ _) (Nat.le_refl _)
  · go_wp2_with (first
      | (go_at_call 127; refine (new_any _).mono ?_; rintro e w1 ⟨rfl, h1, g1⟩
         rw [heap1, heap1] at h1 ⊢
         have H1 : Keep (HashOf w1 (w.heap.size + 1 + 1) [] ∧ PD w w1 (List.replicate 64 0) ∧ Kc w1 ∧ 1 ≠ w.heap.size + 1 + 1) := ⟨h1, (PD.start w).grow g1, HK.out.kept ((PD.start w).grow g1).g (by simp), by have := HK.out.lt; omega⟩
         clear h1 g1)
      | (go_at_call 68; refine (mwrite_any _ [] key _ H1.out.1 H1.out.2.2.1 H1.out.2.2.2 (by simpa using hsz)).mono ?_; rintro e w2 ⟨rfl, h2, g2⟩
         have H2 : Keep (HashOf w2 (w.heap.size + 1 + 1) (sl key) ∧ PD w w2 (List.replicate 64 0) ∧ Kc w2) := ⟨h2, ⟨H1.out.2.1.r.kept g2 (by simp <;> omega), H1.out.2.1.p.kept g2 (by simp), gr_new H1.out.2.1.g g2 (by omega)⟩, H1.out.2.2.1.kept g2 (by simp)⟩
         clear h2 g2)
      | (go_at_call 128; refine (sum_any _ (sl key) _ H2.out.1 H2.out.2.2 (by rw [sl_len]; omega)).mono ?_; rintro e w3 ⟨rfl, g3⟩
         have H3 : Keep (PD w w3 (List.replicate 64 0)) := ⟨H2.out.2.1.grow g3⟩
         have HQ : Keep (Mac.keyOf (sl key) = Sha.sha (sl key) ++ List.replicate 32 0 ∧ (Sha.sha (sl key)).length = 32) := ⟨by rw [Mac.keyOf, if_neg (by rw [sl_len]; omega)], Mac.sha_len _⟩
         generalize Sha.sha (sl key) = S at HQ ⊢
         clear g3)
      | (refine wpList_store_mid rfl 176 _ _ rfl _ _ _ rfl rfl ((Has.newA w3 _ 176).there 0 _ (by rw [List.size_toArray, List.length_map, HQ.out.2]; decide)) (info36 S HQ.out.2) (bytes_one _) ?_
         generalize hw4 : World.setCells _ _ _ _ = w4
         obtain ⟨h4, g4⟩ := sumVar w3 _ rfl S HQ.out.2 w4 hw4
         obtain ⟨w5, hcp, h5⟩ := PD.copied2 (w' := w4.drew) (H3.out.grow (g4.trans (gr_drewN w4 1 none))) w3.heap.size S HQ.out.2 h4
         have H5 : Keep (PD w w5 (Mac.keyOf (sl key))) := ⟨by rw [HQ.out.1]; exact h5⟩
         clear h4 g4 h5 hw4
         generalize hqq : Mac.keyOf (sl key) = q at H5 HL HQ
         have HQQ : Keep (Mac.keyOf (sl key) = q) := ⟨hqq⟩
         clear hqq))
    go_region
    go_wp2_with (first
      | (refine wpList_load_mid rfl 111 _ rfl _ _ rfl _ _ H5.out.p.range under41 rfl HL.out.2 ?_)
      | (refine wpList_store_mid rfl 111 _ _ rfl _ _ _ rfl rfl (H5.out.r.there 0 _ (by rw [List.size_toArray, HL.out.1]; simp)) HL.out.2 (bytes_one _) ?_))
    refine ret_cell (b := w.heap.size) (cs := q.map bv) (t := 111) rfl rfl ?_ under41 rfl HL.out.2 rfl ⟨by rw [HQQ.out], ?_⟩
    · exact H5.out.r.setAll _ (by rw [HL.out.1]; simp)
    · exact gr_new H5.out.g (gr_sets _ _ _ _) (Nat.le_refl _)
end Go.Proofs.YtldnpebnpbahjaaGreatDoor

namespace Go.Proofs.YtldnpebnpbahjaaGreatDoor
open Go Go.RowKit

set_option maxRecDepth 100000 in
theorem len8_get (n i : Nat) (hi : i < 8) : (Mac.len8 n)[i]? = some (UInt8.ofNat (n / 2 ^ (56 - 8 * i))) := by
  match i, hi with
  | 0, _ => rfl
  | 1, _ => rfl
  | 2, _ => rfl
  | 3, _ => rfl
  | 4, _ => rfl
  | 5, _ => rfl
  | 6, _ => rfl
  | 7, _ => simp [Mac.len8]
/-- the first i bytes laid, zeros behind -/
def l8To (n i : Nat) : List UInt8 := (Mac.len8 n).take i ++ List.replicate (8 - i) 0
set_option maxRecDepth 100000 in
theorem l8To_step (n i : Nat) (hi : i < 8) : (l8To n i).set i (UInt8.ofNat (n / 2 ^ (56 - 8 * i))) = l8To n (i + 1) := by
  match i, hi with
  | 0, _ => rfl
  | 1, _ => rfl
  | 2, _ => rfl
  | 3, _ => rfl
  | 4, _ => rfl
  | 5, _ => rfl
  | 6, _ => rfl
  | 7, _ => simp [l8To, Mac.len8]
set_option maxRecDepth 100000 in
theorem gr_weak {a c : World} (h : a.grownBy c none) (row : Option Nat) : a.grownBy c row := ⟨h.os, h.tape, h.output, h.size, fun i hi _ => h.block i hi (by simp)⟩
structure WN (w w' : World) (b n : Nat) (T : List UInt8) (i : Nat) : Prop where
  h : HashOf w' b T
  p : Has w' w.heap.size ((l8To n i).map bv) 66
  g : w.grownBy w' none

set_option maxRecDepth 100000 in
theorem str_back (w : World) (b : Nat) (S : List UInt8) (h32 : S.length = 32) (h : Has w b (S.map bv) 176) : (convert 60 9 (.slice (some ⟨b, 0, none⟩) 32 32)).run Tryz.prog w = .ok (.string ⟨S.toArray⟩) w := by
  have := run_convert_bytes_back (P := Tryz.prog) w 60 9 5 ⟨b, 0, none⟩ 32 S under28 (by kernel_rfl) (by kernel_rfl) (fun j hj => by
    rw [Addr.add_mid, Nat.zero_add]
    exact h.cellv j _ (by rw [List.getElem?_map, List.getElem?_eq_getElem hj]; rfl))
  rw [h32] at this
  exact this
set_option maxRecDepth 100000 in
theorem Has.by32 {w : World} {b b' : Nat} {S : List UInt8} (h : Has w b (S.map bv) 176) (h32 : S.length = 32) (hne : b ≠ b') : Bytes b' w (some ⟨b, 0, none⟩) 32 32 S :=
  ⟨h32, Nat.le_refl _, fun _ => ⟨_, 0, rfl, hne, fun j x hx => by rw [Nat.zero_add]; exact h.cellv j _ (by rw [List.getElem?_map, hx]; rfl)⟩⟩

set_option maxRecDepth 100000 in
set_option maxHeartbeats 4000000 in
theorem end_gen (k : List UInt8) (A : Array Value) (b : Nat) (T : List UInt8) (w : World) (hA : Keep (A = (k.map bv).toArray)) (h64 : k.length = 64) (hh : HashOf w b T) (hk : Kc w) :
    Calls Tryz.prog 71 #[.agg A, .pointer (some ⟨b, 0, none⟩)] w fun e w' => e = .returned (.string ⟨(Sha.sha (Mac.kx 92 k ++ Sha.sha T)).toArray⟩) ∧ w.grownBy w' none := by
  have HK : Keep (Kc w) := ⟨hk⟩
  have HH : Keep (HashOf w b T) := ⟨hh⟩
  have HSL : Keep ((Sha.sha T).length = 32 ∧ ∀ S : List UInt8, (Sha.sha S).length = 32) := ⟨Mac.sha_len _, Mac.sha_len⟩
  have HB : Keep (Has (w.alloc (.cells A 111)) w.heap.size (k.map bv) 111 ∧ (Tryz.prog.info? 111).map (·.size) = some (k.map bv).length) := ⟨by rw [hA.out]; exact ⟨Has.new _ _ _, by rw [List.length_map, h64]; exact size41⟩⟩
  clear hk hh
  generalize hsv : Sha.sha T = S at HSL
  have HSV : Keep (Sha.sha T = S) := ⟨hsv⟩
  clear hsv
  go_enter Tryz.func71, Tryz.ntmps71
  go_wp2_with (first
    | (go_at_call 128; refine (sum_gen _ T _ (HH.out.kept (World.grownBy_alloc _ _ none) (by simp)) (HK.out.kept (World.grownBy_alloc _ _ none) (by simp))).mono ?_; rintro e w1 ⟨rfl, g1⟩
       have H1 : Keep (w.grownBy w1 none ∧ Has w1 w.heap.size (k.map bv) 111) := ⟨(World.grownBy_alloc _ _ _).trans g1, HB.out.1.kept g1 (by simp)⟩
       rw [HSV.out]
       clear g1)
    | (refine wpList_store_mid rfl 176 _ _ rfl _ _ _ rfl rfl ((Has.newA w1 _ 176).there 0 _ (by rw [List.size_toArray, List.length_map, HSL.out.1]; decide)) (info36 S HSL.out.1) (bytes_one _) ?_
       generalize hw2 : World.setCells _ _ _ _ = w2
       obtain ⟨h2, g2⟩ := sumVar w1 _ rfl S HSL.out.1 w2 hw2
       have H2 : Keep (Has w2 w1.heap.size (S.map bv) 176 ∧ w.grownBy w2 none ∧ Has w2 w.heap.size (k.map bv) 111 ∧ Kc w2) := ⟨h2, H1.out.1.trans g2, H1.out.2.kept g2 (by simp), HK.out.kept (H1.out.1.trans g2) (by simp)⟩
       clear h2 g2 hw2)
    | (refine wpList_load_mid rfl 111 _ rfl _ _ rfl _ _ H2.out.2.2.1.range under41 rfl HB.out.2 ?_))
  refine (begin_any k _ 92 w2 ⟨rfl⟩ h64 H2.out.2.2.2).mono ?_
  rintro e w3 ⟨bo, rfl, h3, g3, hbo⟩
  have H3 : Keep (HashOf w3 bo (Mac.kx 92 k) ∧ Bytes bo w3 (some ⟨w1.heap.size, 0, none⟩) 32 32 S ∧ w.grownBy w3 none ∧ Kc w3 ∧ 1 ≠ bo ∧ w.heap.size ≤ bo) := ⟨h3, (H2.out.1.kept g3 (by simp)).by32 HSL.out.1 (by have := H2.out.1.lt; omega), H2.out.2.1.trans g3, H2.out.2.2.2.kept g3 (by simp), by have := H2.out.2.2.2.lt; omega, by have := H2.out.2.1.size; omega⟩
  have HL : Keep ((Mac.kx 92 k).length + S.length ≤ 4611686018427387904) := ⟨by rw [Mac.kx_len, h64, HSL.out.1]; decide⟩
  generalize hsv2 : Mac.kx 92 k = K2 at H3 HL
  have HS2 : Keep (Mac.kx 92 k = K2) := ⟨hsv2⟩
  clear h3 g3 hbo hsv2
  go_wp2_with (first
    | (go_at_call 69; refine (write_any bo _ 32 32 K2 S w3 H3.out.1 H3.out.2.2.2.1 H3.out.2.2.2.2.1 H3.out.2.1 HL.out).mono ?_; rintro e w4 ⟨rfl, h4, g4⟩
       have H4 : Keep (HashOf w4 bo (K2 ++ S) ∧ w.grownBy w4 none ∧ Kc w4) := ⟨h4, gr_new H3.out.2.2.1 g4 H3.out.2.2.2.2.2, H3.out.2.2.2.1.kept g4 (by simpa using H3.out.2.2.2.2.1)⟩
       clear h4 g4)
    | (go_at_call 128; refine (sum_any bo (K2 ++ S) w4 H4.out.1 H4.out.2.2 (by have := HL.out; rw [List.length_append]; omega)).mono ?_; rintro e w5 ⟨rfl, g5⟩
       have H5 : Keep (w.grownBy w5 none) := ⟨H4.out.2.1.trans g5⟩
       have HS3 : Keep ((Sha.sha (K2 ++ S)).length = 32) := ⟨HSL.out.2 _⟩
       generalize hs4 : Sha.sha (K2 ++ S) = S4 at HS3 ⊢
       have HS4 : Keep (Sha.sha (K2 ++ S) = S4) := ⟨hs4⟩
       clear g5 hs4)
    | (refine wpList_store_mid rfl 176 _ _ rfl _ _ _ rfl rfl ((Has.newA w5 _ 176).there 0 _ (by rw [List.size_toArray, List.length_map, HS3.out]; decide)) (info36 S4 HS3.out) (bytes_one _) ?_
       generalize hw6 : World.setCells _ _ _ _ = w6
       obtain ⟨h6, g6⟩ := sumVar w5 _ rfl S4 HS3.out w6 hw6
       have hcv := str_back w6 w5.heap.size S4 HS3.out h6
       have H6 : Keep (w.grownBy w6 none) := ⟨H5.out.trans g6⟩
       clear h6 g6 hw6))
  go_ret
  exact ⟨by rw [HS2.out, HS4.out]; rfl, H6.out⟩
set_option maxRecDepth 100000 in
theorem end_any (k : List UInt8) (A : Array Value) (b : Nat) (T : List UInt8) (w : World) (hA : Keep (A = (k.map bv).toArray)) (h64 : k.length = 64) (hh : HashOf w b T) (hk : Kc w) (_hT : T.length < 18446744073709551616) :
    Calls Tryz.prog 71 #[.agg A, .pointer (some ⟨b, 0, none⟩)] w fun e w' => e = .returned (.string ⟨(Sha.sha (Mac.kx 92 k ++ Sha.sha T)).toArray⟩) ∧ w.grownBy w' none := end_gen k A b T w hA h64 hh hk
end Go.Proofs.YtldnpebnpbahjaaGreatDoor

namespace Go.Proofs.YtldnpebnpbahjaaGreatDoor
open Go Go.RowKit

def hmacB (key text : ByteArray) : ByteArray := ⟨(Mac.hmac (sl key) (sl text)).toArray⟩
set_option maxRecDepth 100000 in
theorem hmacB_sl (key text : ByteArray) : sl (hmacB key text) = Mac.hmac (sl key) (sl text) := sl_mk _

/-- a new variable that holds a key's pad -/
theorem keyVar (w3 : World) (C : Array Value) (hC : C.size = 64) (S : List UInt8) (hS : S.length = 64) (w4 : World) (h : (w3.alloc (.cells C 111)).setCells w3.heap.size 0 (S.map bv) = w4) : Has w4 w3.heap.size (S.map bv) 111 ∧ w3.grownBy w4 none := by
  subst h
  refine ⟨(Has.newA w3 C 111).setAll _ (by simp [hC, hS]), gr_new (World.grownBy_alloc _ _ _) (gr_sets _ _ _ _) (Nat.le_refl _)⟩
set_option maxRecDepth 100000 in
theorem info47 (S : List UInt8) (hS : S.length = 64) : (Tryz.prog.info? 111).map (·.size) = some (S.map bv).length := by
  rw [List.length_map, hS]; exact size41
/-- where a tag stands: the pad in N, what was written to the inner sum in bo -/
structure TS (w w' : World) (N bo : Nat) (q T : List UInt8) : Prop where
  k : Has w' N (q.map bv) 111
  h : HashOf w' bo T
  g : w.grownBy w' none
  kc : Kc w'
  n2 : 1 ≠ bo
  hb : w.heap.size ≤ bo
  ne : N ≠ bo
set_option maxRecDepth 100000 in
theorem TS.wrote {w w' w2 : World} {N bo : Nat} {q T x : List UInt8} (h : TS w w' N bo q T) (h2 : HashOf w2 bo (T ++ x)) (g : w'.grownBy w2 (some bo)) : TS w w2 N bo q (T ++ x) :=
  ⟨h.k.kept g (by simpa using h.ne), h2, gr_new h.g g h.hb, h.kc.kept g (by simpa using h.n2), h.n2, h.hb, h.ne⟩
set_option maxRecDepth 100000 in
theorem TS.grow {w w' w2 : World} {N bo : Nat} {q T : List UInt8} (h : TS w w' N bo q T) (g : w'.grownBy w2 none) : TS w w2 N bo q T :=
  ⟨h.k.kept g (by simp), h.h.kept g (by simp), h.g.trans g, h.kc.kept g (by simp), h.n2, h.hb, h.ne⟩
set_option maxRecDepth 100000 in
theorem TS.start {w w2 w3 : World} {N bo : Nat} {q T : List UInt8} (hk : Has w2 N (q.map bv) 111) (g2 : w.grownBy w2 none) (kc : Kc w2) (h3 : HashOf w3 bo T) (g3 : w2.grownBy w3 none) (hbo : w2.heap.size ≤ bo) : TS w w3 N bo q T :=
  ⟨hk.kept g3 (by simp), h3, g2.trans g3, kc.kept g3 (by simp), by have := kc.lt; omega, by have := g2.size; omega, by have := hk.lt; omega⟩

set_option maxRecDepth 100000 in
set_option maxHeartbeats 4000000 in
theorem tag_any (key text : ByteArray) (w : World) (hk : Kc w) (h1 : key.size ≤ 2305843009213693952) (h2 : text.size ≤ 2305843009213693952) :
    Calls Tryz.prog 42 #[.string key, .string text] w fun e w' => e = .returned (.string (hmacB key text)) ∧ w.grownBy w' none := by
  have HK : Keep (Kc w) := ⟨hk⟩
  have HL : Keep ((Mac.keyOf (sl key)).length = 64 ∧ (Mac.kx 54 (Mac.keyOf (sl key))).length = 64 ∧ (sl text).length ≤ 2305843009213693952) := ⟨Mac.keyOf_len _, by rw [Mac.kx_len, Mac.keyOf_len], by rw [sl_len]; exact h2⟩
  clear hk
  go_enter Tryz.func42, Tryz.ntmps42
  go_wp2_with (first
    | (go_at_call 66; refine (mpad_any key _ HK.out (by omega)).mono ?_; rintro e w1 ⟨rfl, g1⟩
       have H1 : Keep (w.grownBy w1 none ∧ Kc w1) := ⟨g1, HK.out.kept g1 (by simp)⟩
       generalize hq : Mac.keyOf (sl key) = q at HL ⊢
       have HQ : Keep (Mac.keyOf (sl key) = q) := ⟨hq⟩
       clear g1 hq)
    | (refine wpList_store_mid rfl 111 _ _ rfl _ _ _ rfl rfl ((Has.newA w1 _ 111).there 0 _ (by rw [List.size_toArray, List.length_map, HL.out.1]; decide)) (info47 q HL.out.1) (bytes_one _) ?_
       generalize hw2 : World.setCells _ _ _ _ = w2
       obtain ⟨h2, g2⟩ := keyVar w1 _ rfl q HL.out.1 w2 hw2
       have H2 : Keep (Has w2 w1.heap.size (q.map bv) 111 ∧ w.grownBy w2 none ∧ Kc w2) := ⟨h2, H1.out.1.trans g2, H1.out.2.kept g2 (by simp)⟩
       clear h2 g2 hw2)
    | (refine wpList_load_mid rfl 111 _ rfl _ _ rfl _ _ H2.out.1.range under41 rfl (info47 q HL.out.1) ?_))
  refine (begin_any q _ 54 w2 ⟨rfl⟩ HL.out.1 H2.out.2.2).mono ?_
  rintro e w3 ⟨bo, rfl, h3, g3, hbo⟩
  have H3 : Keep (TS w w3 w1.heap.size bo q (Mac.kx 54 q)) := ⟨TS.start H2.out.1 H2.out.2.1 H2.out.2.2 h3 g3 hbo⟩
  clear h3 g3 hbo
  go_wp2_with (first
    | (go_at_call 68; refine (mwrite_any bo _ text w3 H3.out.h H3.out.kc H3.out.n2 (by rw [HL.out.2.1]; omega)).mono ?_; rintro e w4 ⟨rfl, h4, g4⟩
       have H4 : Keep (TS w w4 w1.heap.size bo q (Mac.kx 54 q ++ sl text)) := ⟨H3.out.wrote h4 g4⟩
       clear h4 g4)
    | (refine wpList_load_mid rfl 111 _ rfl _ _ rfl _ _ H4.out.k.range under41 rfl (info47 q HL.out.1) ?_)
    | (go_at_call 71; refine (end_any q _ bo _ w4 ⟨rfl⟩ HL.out.1 H4.out.h H4.out.kc (by have := HL.out.2; rw [List.length_append]; omega)).mono ?_; rintro e w5 ⟨rfl, g5⟩
       have H5 : Keep (w.grownBy w5 none) := ⟨H4.out.g.trans g5⟩
       clear g5))
  go_ret
  exact ⟨by rw [hmacB, Mac.hmac, HQ.out]; rfl, H5.out⟩

def jefe : ByteArray := { data := #[74, 101, 102, 101] }
def what : ByteArray := { data := #[119, 104, 97, 116, 32, 100, 111, 32, 121, 97, 32, 119, 97, 110, 116, 32, 102, 111, 114, 32, 110, 111, 116, 104, 105, 110, 103, 63] }
def rfc2 : ByteArray := { data := #[91, 220, 193, 70, 191, 96, 117, 78, 106, 4, 36, 38, 8, 149, 117, 199, 90, 0, 63, 8, 157, 39, 57, 131, 157, 236, 88, 185, 100, 236, 56, 67] }
set_option maxRecDepth 100000 in
theorem rfc2_eq : hmacB jefe what = rfc2 := by kernel_rfl

end Go.Proofs.YtldnpebnpbahjaaGreatDoor

namespace Go.Proofs.YtldnpebnpbahjaaGreatDoor
open Go Go.RowKit

set_option maxRecDepth 100000 in
theorem under5 : Tryz.prog.underlying 5 = some (.int .u8) := by kernel_rfl
set_option maxRecDepth 100000 in
theorem under9 : Tryz.prog.underlying 9 = some .string := by kernel_rfl
set_option maxRecDepth 100000 in
theorem beqL (a b : ByteArray) : (a.toList == b.toList) = decide (sl a = sl b) := by
  rw [ByteArray.toList_eq, ByteArray.toList_eq]
  by_cases h : sl a = sl b
  · rw [decide_eq_true h]; unfold sl at h; rw [h]; simp
  · rw [decide_eq_false h]; unfold sl at h; simpa using h
set_option maxRecDepth 100000 in
theorem addS (a b : ByteArray) (h : a.size + b.size ≤ 9223372036854775807) (W : World) : (Op.stringOp .add a b).run Tryz.prog W = .ok (.string (a ++ b)) W := by
  simp only [Op.stringOp]
  rw [if_neg (by have : IntKind.i64.max = 9223372036854775807 := by decide
                 omega)]
  rfl
/-- '[]byte(s)' -/
theorem cvt (s : ByteArray) (W : World) : (convert 9 60 (.string s)).run Tryz.prog W = .ok (.slice (some ⟨W.heap.size, 0, none⟩) s.size (grownCap W s.size 0 5)) (Lib.bytesWorld W 5 s) :=
  Lib.run_convert_string_bytes (P := Tryz.prog) W 9 60 5 s (u := .string) under9 under28 under5
set_option maxRecDepth 100000 in
theorem gr_bytes (W : World) (s : ByteArray) : W.grownBy (Lib.bytesWorld W 5 s) none :=
  ⟨rfl, rfl, rfl, by rw [Lib.bytesWorld_size]; omega, fun k hk _ => Lib.bytesWorld_at_old _ _ _ _ hk⟩
set_option maxRecDepth 100000 in
theorem bytes_cells (W : World) (s : ByteArray) (j : Nat) (x : UInt8) (hx : (sl s)[j]? = some x) : (Lib.bytesWorld W 5 s).cell? ⟨W.heap.size, j, none⟩ = some (bv x) := by
  have hj : j < s.size := by rw [← sl_len]; exact (List.getElem?_eq_some_iff.1 hx).1
  rw [Lib.bytesWorld_cell _ _ _ j hj]
  unfold sl at hx
  simp [List.getD, hx]
set_option maxRecDepth 100000 in
theorem bytes_of (W : World) (s : ByteArray) (c : Nat) (hc : s.size ≤ c) : BytesOf (Lib.bytesWorld W 5 s) (some ⟨W.heap.size, 0, none⟩) s.size c (sl s) :=
  ⟨sl_len s, hc, fun _ => ⟨_, 0, rfl, fun j x hx => by rw [Nat.zero_add]; exact bytes_cells W s j x hx⟩⟩
/-- 'string(b)' -/
theorem cvt_back (w : World) (a : Option Addr) (n c : Nat) (q : List UInt8) (h : BytesOf w a n c q) (ha : a ≠ none) : (convert 60 9 (.slice a n c)).run Tryz.prog w = .ok (.string ⟨q.toArray⟩) w := by
  have key : ∀ ad : Addr, (∀ j x, q[j]? = some x → w.cell? (ad.add j) = some (bv x)) → (convert 60 9 (.slice (some ad) n c)).run Tryz.prog w = .ok (.string ⟨q.toArray⟩) w := fun ad hc => by
    have := run_convert_bytes_back (P := Tryz.prog) w 60 9 5 ad c q under28 under5 under9 (fun j hj => hc j _ (List.getElem?_eq_getElem hj))
    rw [h.len] at this
    exact this
  cases a with
  | none => exact absurd rfl ha
  | some ad =>
    refine key ad fun j x hx => ?_
    have hn : 0 < n := by rw [← h.len]; have := (List.getElem?_eq_some_iff.1 hx).1; omega
    obtain ⟨B, o, e, h3⟩ := h.at_ hn
    obtain rfl := Option.some.inj e
    rw [Addr.add_mid]; exact h3 j x hx
set_option maxRecDepth 100000 in
theorem sl_back (s : ByteArray) : (⟨(sl s).toArray⟩ : ByteArray) = s := by
  apply ByteArray.ext; simp [sl]
set_option maxRecDepth 100000 in
theorem cvt_cvt (s : ByteArray) (W : World) (c : Nat) (hc : s.size ≤ c) : (convert 60 9 (.slice (some ⟨W.heap.size, 0, none⟩) s.size c)).run Tryz.prog (Lib.bytesWorld W 5 s) = .ok (.string s) (Lib.bytesWorld W 5 s) := by
  have := cvt_back _ _ _ _ _ (bytes_of W s c hc) (by simp)
  rwa [sl_back] at this
end Go.Proofs.YtldnpebnpbahjaaGreatDoor

namespace Go.Proofs.YtldnpebnpbahjaaGreatDoor
open Go Go.RowKit

structure WN8 (w w' : World) (b n : Nat) (T : List UInt8) (i : Nat) : Prop where
  h : HashOf w' b T
  p : Has w' w.heap.size ((l8To n i).map bv) 183
  g : w.grownBy w' none

set_option maxRecDepth 100000 in
set_option maxHeartbeats 4000000 in
theorem wnum_gen (b n : Nat) (T : List UInt8) (w : World) (hh : HashOf w b T) (hk : Kc w) (hb0 : 1 ≠ b) :
    Calls Tryz.prog 70 #[.pointer (some ⟨b, 0, none⟩), .int .u64 n] w fun e w' => e = .returned (.tuple #[]) ∧ HashOf w' b (T ++ Mac.len8 n) ∧ w.grownBy w' (some b) := by
  have HK : Keep (Kc w) := ⟨hk⟩
  have HH : Keep (HashOf w b T) := ⟨hh⟩
  have hbw := hh.lt
  clear hk hh
  go_enter Tryz.func70, Tryz.ntmps70
  go_wp2
  go_loopw [6] (fun t w' => ∃ i : Nat, i ≤ 8 ∧ t = .int .i64 i ∧ Keep (WN8 w w' b n T i)) (fun t _ => 8 - (intOf t).toNat)
  case atStart => exact ⟨0, by omega, rfl, ⟨HH.out.kept (World.grownBy_alloc _ _ none) (by simp), Has.newA _ _ _, World.grownBy_alloc _ _ _⟩⟩
  case round =>
    obtain ⟨i, hi, rfl, hrel⟩ := hrel
    by_cases hli : i < 8
    · obtain ⟨v, hv⟩ : ∃ v, UInt8.ofNat (n / 2 ^ (56 - 8 * i)) = v := ⟨_, rfl⟩
      have H2 : Keep (WN8 w (wr.setCell ⟨w.heap.size, i, none⟩ (.int .u8 v.toNat)) b n T (i + 1)) := ⟨hrel.out.h.kept (gr_set _ _ _ _) (by simp <;> omega), by
        have := hrel.out.p.setCell i (bv v)
        rw [← List.map_set, ← hv, l8To_step n i hli, hv] at this
        exact this, gr_new hrel.out.g (gr_set _ _ _ _) (Nat.le_refl _)⟩
      have hf := hrel.out.p.frozen i
      have hcl : (wr.cell? ⟨w.heap.size, i, none⟩).isSome = true := (hrel.out.p.there i 1 (by rw [List.length_map]; simp [l8To, Mac.len8]; omega) 0 (by decide)).1
      obtain ⟨y0, hc⟩ := Option.isSome_iff_exists.1 hcl
      have hv2 : (n : Int) / 2 ^ (56 - 8 * i) % 256 = (v.toNat : Int) := by
        rw [← hv]; simp
      clear hrel hv hcl
      go_wp2
      refine ⟨⟨i + 1, by omega, by go_num, H2⟩, ?_⟩
      simp [intOf]; omega
    · have HE : Keep (HashOf wr b T ∧ Bytes b wr (some ⟨w.heap.size, 0, none⟩) 8 8 (Mac.len8 n) ∧ w.grownBy wr none ∧ Kc wr) := ⟨by
        obtain rfl : i = 8 := by omega
        have h := hrel.out.p
        refine ⟨hrel.out.h, ⟨rfl, Nat.le_refl _, fun _ => ⟨_, 0, rfl, by omega, fun j x hx => ?_⟩⟩, hrel.out.g, HK.out.kept hrel.out.g (by simp)⟩
        rw [Nat.zero_add]
        exact h.cellv j _ (by rw [List.getElem?_map, show l8To n 8 = Mac.len8 n from rfl, hx]; rfl)⟩
      clear hrel
      go_wp2_with (go_at_call 69; refine (write_gen b _ 8 8 T (Mac.len8 n) wr HE.out.1 HE.out.2.2.2 hb0 HE.out.2.1 (by decide)).mono ?_; rintro e w3 ⟨rfl, h3, g3⟩; have H3 : Keep (HashOf w3 b (T ++ Mac.len8 n) ∧ w.grownBy w3 (some b)) := ⟨h3, (gr_weak HE.out.2.2.1 _).trans g3⟩; clear h3 g3)
      go_end0
      exact ⟨rfl, H3.out⟩

/-- a list of strings -/
structure Strs (w : World) (a : Option Addr) (n : Nat) (ps : List ByteArray) : Prop where
  len : ps.length = n
  at_ : 0 < n → ∃ B o, a = some ⟨B, o, none⟩ ∧ ∀ j p, ps[j]? = some p → w.cell? ⟨B, o + j, none⟩ = some (.string p)
set_option maxRecDepth 100000 in
theorem Strs.kept {w w' : World} {a : Option Addr} {n : Nat} {ps : List ByteArray} (h : Strs w a n ps) (hg : w.grownBy w' none) : Strs w' a n ps := by
  refine ⟨h.len, fun hn => ?_⟩
  obtain ⟨B, o, h1, h3⟩ := h.at_ hn
  exact ⟨B, o, h1, fun j x hx => hg.cell (h3 j x hx) (by simp)⟩
set_option maxRecDepth 100000 in
theorem bytes_row (w : World) (bo : Nat) (x : UInt8) (hb : bo < w.heap.size) : Bytes bo (w.alloc (.cells #[.int .u8 x.toNat] 5)) (some ⟨w.heap.size, 0, none⟩) 1 1 [x] :=
  ⟨rfl, Nat.le_refl _, fun _ => ⟨_, 0, rfl, by omega, fun j y hy => by
    rw [Nat.zero_add]
    refine (Has.newA w #[.int .u8 x.toNat] 5).cellv j _ ?_
    match j, hy with
    | 0, hy => obtain rfl : x = y := by simpa using hy
               rfl
    | j + 1, hy => simp at hy⟩⟩
set_option maxRecDepth 100000 in
theorem said_step (use : List UInt8) (ps : List (List UInt8)) (i : Nat) (hi : i < ps.length) : Mac.said use (ps.take (i + 1)) = Mac.said use (ps.take i) ++ Mac.len8 (ps[i]).length ++ ps[i] := by
  rw [Mac.said, Mac.flat_snoc ps i hi, Mac.said]; simp
set_option maxRecDepth 100000 in
theorem said_le (use : List UInt8) (ps : List (List UInt8)) (i : Nat) : (Mac.said use (ps.take i)).length ≤ (Mac.said use ps).length := by
  have := Mac.flat_le ps i
  simp only [Mac.said, List.length_append, List.length_cons]; omega
set_option maxRecDepth 100000 in
theorem flat_many (ps : List (List UInt8)) : 8 * ps.length ≤ (Mac.flat ps).length := by
  induction ps with
  | nil => simp
  | cons p r ih => simp only [Mac.flat, List.flatMap_cons, List.length_append, Mac.len8_len, List.length_cons] at *; omega
def deriveB (key use : ByteArray) (ps : List ByteArray) : ByteArray := ⟨(Mac.hmac (sl key) (Mac.said (sl use) (ps.map sl))).toArray⟩

set_option maxRecDepth 100000 in
set_option maxHeartbeats 4000000 in
theorem derive_gen (key use : ByteArray) (a : Option Addr) (n c : Nat) (ps : List ByteArray) (w : World) (hk : Kc w) (hp : Strs w a n ps) (h1 : key.size ≤ 2305843009213693952) (hu : use.size ≤ 2305843009213693952) (hn : n ≤ 2305843009213693952) (hps : ∀ (j : Nat) (p : ByteArray), ps[j]? = some p → p.size ≤ 9223372036854775807) :
    Calls Tryz.prog 32 #[.string key, .string use, .slice a n c] w fun e w' => e = .returned (.string (deriveB key use ps)) ∧ w.grownBy w' none := by
  have HK : Keep (Kc w) := ⟨hk⟩
  have HP : Keep (Strs w a n ps) := ⟨hp⟩
  have HL : Keep ((Mac.keyOf (sl key)).length = 64 ∧ (Mac.kx 54 (Mac.keyOf (sl key))).length = 64) := ⟨Mac.keyOf_len _, by rw [Mac.kx_len, Mac.keyOf_len]⟩
  have HPS : Keep (∀ (j : Nat) (p : ByteArray), ps[j]? = some p → p.size ≤ 9223372036854775807) := ⟨hps⟩
  clear hk hp hps
  go_enter Tryz.func32, Tryz.ntmps32
  go_wp2_with (first
    | (go_at_call 66; refine (mpad_any key _ HK.out (by omega)).mono ?_; rintro e w1 ⟨rfl, g1⟩
       have H1 : Keep (w.grownBy w1 none ∧ Kc w1) := ⟨g1, HK.out.kept g1 (by simp)⟩
       generalize hq : Mac.keyOf (sl key) = q at HL ⊢
       have HQ : Keep (Mac.keyOf (sl key) = q) := ⟨hq⟩
       clear g1 hq)
    | (refine wpList_store_mid rfl 111 _ _ rfl _ _ _ rfl rfl ((Has.newA w1 _ 111).there 0 _ (by rw [List.size_toArray, List.length_map, HL.out.1]; decide)) (info47 q HL.out.1) (bytes_one _) ?_
       generalize hw2 : World.setCells _ _ _ _ = w2
       obtain ⟨h2, g2⟩ := keyVar w1 _ rfl q HL.out.1 w2 hw2
       have H2 : Keep (Has w2 w1.heap.size (q.map bv) 111 ∧ w.grownBy w2 none ∧ Kc w2) := ⟨h2, H1.out.1.trans g2, H1.out.2.kept g2 (by simp)⟩
       clear h2 g2 hw2)
    | (refine wpList_load_mid rfl 111 _ rfl _ _ rfl _ _ H2.out.1.range under41 rfl (info47 q HL.out.1) ?_))
  refine (begin_any q _ 54 w2 ⟨rfl⟩ HL.out.1 H2.out.2.2).mono ?_
  rintro e w3 ⟨bo, rfl, h3, g3, hbo⟩
  have H3 : Keep (TS w w3 w1.heap.size bo q (Mac.kx 54 q)) := ⟨TS.start H2.out.1 H2.out.2.1 H2.out.2.2 h3 g3 hbo⟩
  clear h3 g3 hbo
  go_wp2_with (first
    | (go_at_call 68; refine (mwrite_gen bo _ use w3 H3.out.h H3.out.kc H3.out.n2 (by omega)).mono ?_; rintro e w4 ⟨rfl, h4, g4⟩
       have H4 : Keep (TS w w4 w1.heap.size bo q (Mac.kx 54 q ++ sl use)) := ⟨H3.out.wrote h4 g4⟩
       clear h4 g4))
  refine (write_gen bo _ 1 1 _ [0] _ (H4.out.grow (World.grownBy_alloc _ _ none)).h (H4.out.grow (World.grownBy_alloc _ _ none)).kc H4.out.n2 (bytes_row w4 bo 0 H4.out.h.lt) (by decide)).mono ?_
  rintro e w5 ⟨rfl, h5, g5⟩
  have H5 : Keep (TS w w5 w1.heap.size bo q (Mac.kx 54 q ++ Mac.said (sl use) ((ps.map sl).take 0))) := ⟨by
    have := (H4.out.grow (World.grownBy_alloc _ _ none)).wrote h5 g5
    rw [List.append_assoc] at this
    exact this⟩
  clear h5 g5
  go_wp2
  go_loopw [23] (fun t w' => ∃ i : Nat, i ≤ n ∧ t = .int .i64 i ∧ Keep (TS w w' w1.heap.size bo q (Mac.kx 54 q ++ Mac.said (sl use) ((ps.map sl).take i)))) (fun t _ => n - (intOf t).toNat)
  case atStart => exact ⟨0, by omega, rfl, H5⟩
  case round =>
    obtain ⟨i, hi, rfl, hrel⟩ := hrel
    have hpl := HP.out.len
    by_cases hli : i < n
    · obtain ⟨B, o, rfl, hat⟩ := HP.out.at_ (by omega)
      obtain ⟨p, hp⟩ : ∃ p, ps[i]? = some p := ⟨_, List.getElem?_eq_getElem (by omega)⟩
      have hc : wr.cell? ⟨B, o + i, none⟩ = some (.string p) := hrel.out.g.cell (hat i p hp) (by simp)
      have hil : i < (ps.map sl).length := by rw [List.length_map, hpl]; exact hli
      have hpi : (ps.map sl)[i] = sl p := by
        rw [List.getElem_map]; congr 1
        exact (List.getElem?_eq_some_iff.1 hp).2
      have hst := said_step (sl use) (ps.map sl) i hil
      rw [hpi, sl_len] at hst
      have HST : Keep (Mac.said (sl use) ((ps.map sl).take (i + 1)) = Mac.said (sl use) ((ps.map sl).take i) ++ Mac.len8 p.size ++ sl p) := ⟨hst⟩
      have hps : p.size ≤ 9223372036854775807 := HPS.out i p hp
      clear hat hp hil hpi hst
      go_wp2_with (first
        | (go_at_call 70; refine (wnum_gen bo p.size _ wr hrel.out.h hrel.out.kc hrel.out.n2).mono ?_; rintro e w6 ⟨rfl, h6, g6⟩
           have H6 : Keep (TS w w6 w1.heap.size bo q (Mac.kx 54 q ++ (Mac.said (sl use) ((ps.map sl).take i) ++ Mac.len8 p.size))) := ⟨by rw [← List.append_assoc]; exact hrel.out.wrote h6 g6⟩
           clear h6 g6)
        | (go_at_call 68; refine (mwrite_gen bo _ p w6 H6.out.h H6.out.kc H6.out.n2 hps).mono ?_; rintro e w7 ⟨rfl, h7, g7⟩
           have H7 : Keep (TS w w7 w1.heap.size bo q (Mac.kx 54 q ++ Mac.said (sl use) ((ps.map sl).take (i + 1)))) := ⟨by rw [HST.out, ← List.append_assoc]; exact H6.out.wrote h7 g7⟩
           clear h7 g7))
      refine ⟨⟨i + 1, by omega, by go_num, H7⟩, ?_⟩
      simp [intOf]; omega
    · have H8 : Keep (TS w wr w1.heap.size bo q (Mac.kx 54 q ++ Mac.said (sl use) (ps.map sl))) := ⟨by
        have := hrel.out
        rwa [List.take_of_length_le (by rw [List.length_map, hpl]; omega)] at this⟩
      clear hrel
      go_wp2_with (first
        | (refine wpList_load_mid rfl 111 _ rfl _ _ rfl _ _ H8.out.k.range under41 rfl (info47 q HL.out.1) ?_)
        | (go_at_call 71; refine (end_gen q _ bo _ wr ⟨rfl⟩ HL.out.1 H8.out.h H8.out.kc).mono ?_; rintro e w9 ⟨rfl, g9⟩
           have H9 : Keep (w.grownBy w9 none) := ⟨H8.out.g.trans g9⟩
           clear g9))
      go_ret
      exact ⟨by rw [deriveB, Mac.hmac, HQ.out]; rfl, H9.out⟩
set_option maxRecDepth 100000 in
theorem derive_any (key use : ByteArray) (a : Option Addr) (n c : Nat) (ps : List ByteArray) (w : World) (hk : Kc w) (hp : Strs w a n ps) (h1 : key.size ≤ 2305843009213693952) (h2 : (Mac.said (sl use) (ps.map sl)).length ≤ 2305843009213693952) :
    Calls Tryz.prog 32 #[.string key, .string use, .slice a n c] w fun e w' => e = .returned (.string (deriveB key use ps)) ∧ w.grownBy w' none := by
  refine derive_gen key use a n c ps w hk hp h1 ?_ ?_ (fun j p hpj => ?_)
  · simp only [Mac.said, List.length_append, List.length_cons, sl_len] at h2
    omega
  · have := flat_many (ps.map sl)
    simp only [Mac.said, List.length_append, List.length_cons] at h2
    rw [List.length_map, hp.len] at this; omega
  · have hjl := (List.getElem?_eq_some_iff.1 hpj).1
    have h3 := said_le (sl use) (ps.map sl) (j + 1)
    rw [said_step (sl use) (ps.map sl) j (by rw [List.length_map]; exact hjl), List.length_append, List.getElem_map, (List.getElem?_eq_some_iff.1 hpj).2, sl_len] at h3
    omega
end Go.Proofs.YtldnpebnpbahjaaGreatDoor

