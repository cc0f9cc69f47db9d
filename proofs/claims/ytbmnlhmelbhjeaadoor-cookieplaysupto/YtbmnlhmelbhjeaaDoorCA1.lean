/- cookie: secrets (an epoch's 8 bytes and a key's 32): key, epoch, of; '==' of two of them -/
import Derived.Test.YtbmnlhmelbhjeaaDoorMaS0
import Derived.ChangeKeysEq
import Derived.Deep.MidRow
namespace Go.Proofs.YtbmnlhmelbhjeaaDoor
open Go Go.RowKit

/-- the number that bytes are, the highest first -/
def beN (l : List UInt8) : Nat := l.foldl (fun n b => n * 256 + b.toNat) 0
theorem beN_snoc (l : List UInt8) (b : UInt8) : beN (l ++ [b]) = beN l * 256 + b.toNat := by simp [beN, List.foldl_append]
theorem beN_step (l : List UInt8) (i : Nat) (b : UInt8) (hb : l[i]? = some b) : beN (l.take (i + 1)) = beN (l.take i) * 256 + b.toNat := by
  obtain ⟨h1, rfl⟩ := List.getElem?_eq_some_iff.1 hb
  rw [List.take_succ_eq_append_getElem h1, beN_snoc]
theorem beN_lt (l : List UInt8) : ∀ i, i ≤ l.length → beN (l.take i) < 256 ^ i
  | 0, _ => by simp [beN]
  | i + 1, h => by
    rw [beN_step l i _ (List.getElem?_eq_getElem (by omega)), Nat.pow_succ]
    have h1 := beN_lt l i (by omega)
    have h2 : l[i].toNat < 256 := l[i].toNat_lt
    omega
theorem beN_len8 (n : Nat) (h : n < 18446744073709551616) : beN (Mac.len8 n) = n := by
  simp only [beN, Mac.len8, List.foldl_cons, List.foldl_nil, UInt8.toNat_ofNat']
  omega
theorem or_add (x : Nat) (b : UInt8) (hx : x < 72057594037927936) : bits .or .u64 ((x * 256 : Nat) : Int) ((b.toNat : Nat) : Int) = ((x * 256 + b.toNat : Nat) : Int) := by
  have hb : b.toNat < 256 := b.toNat_lt
  rw [u64_or_nat _ _ (by omega) (by omega)]
  congr 1
  have := Nat.two_pow_add_eq_or_of_lt (i := 8) hb x
  rw [Nat.mul_comm] at this
  exact this.symm

set_option maxRecDepth 100000 in
theorem under52 : Tryd.prog.underlying 52 = some (.array 40 5) := by kernel_rfl
set_option maxRecDepth 100000 in
theorem size52 : (Tryd.prog.info? 52).map (·.size) = some 40 := by kernel_rfl
theorem info52 (S : List UInt8) (hS : S.length = 40) : (Tryd.prog.info? 52).map (·.size) = some (S.map bv).length := by
  rw [List.length_map, hS]; exact size52
theorem elem52 (W : World) : (sizeOf (Tryd.prog.elem 52)).run Tryd.prog W = .ok 1 W := by kernel_rfl
theorem len52 : Tryd.prog.arrayLen 52 = 40 := by kernel_rfl

/-- 's[8:]' -/
theorem slice52h (b : Nat) (W : World) : (Instr.sliceAt 52 (.pointer (some ⟨b, 0, none⟩)) (some (.int .i64 8)) none none).run Tryd.prog W = .ok (.slice (some ⟨b, 8, none⟩) 32 32) W := by
  have e : (⟨b, 0, none⟩ : Addr).add 8 = ⟨b, 8, none⟩ := Addr.add_mid b 0 8
  rw [run_sliceAt_array_l W 52 _ (by kernel_rfl) .i64 8 (by omega) (by rw [len52]; omega), elem52, len52]
  simp only [Result.andThen, slicedAt]
  rw [show (8 : Int).toNat * 1 = 8 from rfl, e]
  rfl
/-- 's[:8]' -/
theorem slice52l (b : Nat) (W : World) : (Instr.sliceAt 52 (.pointer (some ⟨b, 0, none⟩)) none (some (.int .i64 8)) none).run Tryd.prog W = .ok (.slice (some ⟨b, 0, none⟩) 8 40) W := by
  have e : (⟨b, 0, none⟩ : Addr).add 0 = ⟨b, 0, none⟩ := Addr.add_mid b 0 0
  rw [run_sliceAt_array_h W 52 _ (by kernel_rfl) .i64 8 (by omega) (by rw [len52]; omega), elem52, len52]
  simp only [Result.andThen, slicedAt]
  rw [show 0 * 1 = 0 from rfl, e]
  rfl

theorem has_bytes {w : World} {b o n c : Nat} {S : List UInt8} {t : TypeId} (h : Has w b (S.map bv) t) (q : List UInt8) (hq : q = (S.drop o).take n) (hn : o + n ≤ S.length) (hc : n ≤ c) : BytesOf w (some ⟨b, o, none⟩) n c q := by
  subst hq
  refine ⟨by rw [List.length_take, List.length_drop]; omega, hc, fun _ => ⟨_, o, rfl, fun j x hx => ?_⟩⟩
  refine h.cellv _ _ ?_
  rw [List.getElem?_map]
  rw [List.getElem?_take] at hx
  split at hx
  · rw [List.getElem?_drop] at hx; rw [hx]; rfl
  · cases hx

set_option maxRecDepth 100000 in
set_option maxHeartbeats 4000000 in
theorem key_c (s : List UInt8) (A : Array Value) (w : World) (hA : Keep (A = (s.map bv).toArray)) (h40 : s.length = 40) :
    Calls Tryd.prog 26 #[.agg A] w fun e w' => e = .returned (.string ⟨(s.drop 8).toArray⟩) ∧ w.grownBy w' none := by
  have hs := slice52h w.heap.size
  have hb : Has (w.alloc (.cells A 52)) w.heap.size (s.map bv) 52 := by rw [hA.out]; exact Has.new _ _ _
  have hcv := cvt_back (w.alloc (.cells A 52)) (some ⟨w.heap.size, 8, none⟩) 32 32 (s.drop 8) (has_bytes hb _ (by rw [List.take_of_length_le (by rw [List.length_drop]; omega)]) (by omega) (by omega)) (by simp)
  clear hb
  go_enter Tryd.func26, Tryd.ntmps26
  go_wp2
  go_ret
  exact ⟨rfl, World.grownBy_alloc _ _ _⟩

set_option maxRecDepth 100000 in
set_option maxHeartbeats 4000000 in
theorem epoch_c (s : List UInt8) (A : Array Value) (w : World) (hA : Keep (A = (s.map bv).toArray)) (h40 : s.length = 40) :
    Calls Tryd.prog 33 #[.agg A] w fun e w' => e = .returned (.int .u64 (beN (s.take 8) : Nat)) ∧ w.grownBy w' none := by
  have hs := slice52l w.heap.size
  have HB : Keep (Has (w.alloc (.cells A 52)) w.heap.size (s.map bv) 52) := ⟨by rw [hA.out]; exact Has.new _ _ _⟩
  go_enter Tryd.func33, Tryd.ntmps33
  go_wp2
  go_loopw [3, 8] (fun v t w' => ∃ i : Nat, i ≤ 8 ∧ t = .int .i64 i ∧ v = .int .u64 (beN (s.take i) : Nat) ∧ Keep (w.grownBy w' none ∧ Has w' w.heap.size (s.map bv) 52)) (fun _ t _ => 8 - (intOf t).toNat)
  case atStart => exact ⟨0, by omega, rfl, rfl, ⟨World.grownBy_alloc _ _ _, HB.out⟩⟩
  case round =>
    obtain ⟨i, hi, rfl, rfl, hrel⟩ := hrel
    by_cases hli : i < 8
    · obtain ⟨b, hb⟩ : ∃ b, s[i]? = some b := ⟨_, List.getElem?_eq_getElem (by omega)⟩
      have hc : wr.cell? ⟨w.heap.size, i, none⟩ = some (.int .u8 b.toNat) := hrel.out.2.cellv i _ (by rw [List.getElem?_map, hb]; rfl)
      have hst := beN_step s i b hb
      have hlt := beN_lt s i (by omega)
      have hx : beN (s.take i) < 72057594037927936 := Nat.lt_of_lt_of_le hlt (by
        calc 256 ^ i ≤ 256 ^ 7 := Nat.pow_le_pow_right (by omega) (by omega)
          _ ≤ 72057594037927936 := by decide)
      have hbb : b.toNat < 256 := b.toNat_lt
      generalize beN (s.take i) = x at hst hx ⊢
      obtain ⟨y, hy⟩ : ∃ y, y = beN (s.take (i + 1)) := ⟨_, rfl⟩
      rw [← hy] at hst
      have HO : Keep (bits .or .u64 ((x : Int) * 256) (b.toNat : Int) = (y : Int)) := ⟨by
        have := or_add x b hx
        rw [hst]; simpa using this⟩
      clear hlt hb
      have HY : Keep (y = beN (s.take (i + 1))) := ⟨hy⟩
      clear hy
      go_wp2
      refine ⟨⟨i + 1, by omega, by go_num, by rw [HO.out, ← HY.out], hrel⟩, ?_⟩
      simp [intOf]; omega
    · obtain rfl : i = 8 := by omega
      have H8 : Keep (w.grownBy wr none) := ⟨hrel.out.1⟩
      clear hrel
      go_wp2
      go_ret
      exact ⟨rfl, H8.out⟩

/-- '==' of two rows of bytes -/
theorem eq_items (xs ys : List UInt8) (w : World) : ∀ is : List Nat, (∀ i ∈ is, i < xs.length ∧ i < ys.length) →
    (Op.eqItems 9999 5 1 (xs.map bv).toArray (ys.map bv).toArray is).run Tryd.prog w = .ok (decide (∀ i ∈ is, xs[i]? = ys[i]?)) w := by
  intro is
  induction is with
  | nil => intro _; simp [Op.eqItems]
  | cons i is ih =>
    intro h
    obtain ⟨hx, hy⟩ := h i (by simp)
    have ih := ih (fun j hj => h j (by simp [hj]))
    have p1 : (part 5 (xs.map bv).toArray (i * 1)).run Tryd.prog w = .ok (bv xs[i]) w :=
      run_part_plain w (by kernel_rfl) (by simp [hx])
    have p2 : (part 5 (ys.map bv).toArray (i * 1)).run Tryd.prog w = .ok (bv ys[i]) w :=
      run_part_plain w (by kernel_rfl) (by simp [hy])
    have p3 : (Op.equalIn 9999 5 (bv xs[i]) (bv ys[i])).run Tryd.prog w = .ok (decide (xs[i] = ys[i])) w := by
      rw [show (9999 : Nat) = 9998 + 1 from rfl, bv, bv, run_equalIn_int w 9998 5 .u8 .u8 _ _ under5]
      congr 1
      by_cases e : xs[i] = ys[i]
      · simp [e]
      · have h1 : ¬ ((xs[i].toNat : Nat) : Int) = ((ys[i].toNat : Nat) : Int) := fun h => e (UInt8.toNat_inj.1 (Int.ofNat.inj h))
        rw [decide_eq_false e]
        exact beq_eq_false_iff_ne.2 h1
    simp only [Op.eqItems, Sem.run_bind, p1, p2, p3, Result.andThen_ok]
    by_cases e : xs[i] = ys[i]
    · rw [decide_eq_true e]
      simp only [Bool.not_true, Bool.false_eq_true, if_false, ih]
      congr 1
      simp [List.getElem?_eq_getElem hx, List.getElem?_eq_getElem hy, e]
    · rw [decide_eq_false e]
      simp [List.getElem?_eq_getElem hx, List.getElem?_eq_getElem hy, e]
theorem eq52 (xs ys : List UInt8) (hx : xs.length = 40) (hy : ys.length = 40) (w : World) : (Op.equalIn 10000 52 (.agg (xs.map bv).toArray) (.agg (ys.map bv).toArray)).run Tryd.prog w = .ok (decide (xs = ys)) w := by
  obtain ⟨i, hi, _⟩ : ∃ i, Tryd.prog.info? 5 = some i ∧ True := by
    cases hq : Tryd.prog.info? 5 with
    | none =>
      have h : (Tryd.prog.info? 5).map (·.size) = some 1 := by kernel_rfl
      rw [hq] at h; cases h
    | some i => exact ⟨i, rfl, trivial⟩
  rw [show (10000 : Nat) = 9999 + 1 from rfl, run_equalIn_array w 9999 _ _ under52 hi, show Tryd.prog.cellsOf 5 = 1 by kernel_rfl, eq_items xs ys w _ (fun i h => by have := List.mem_range.1 h; omega)]
  congr 1
  rw [decide_eq_decide]
  constructor
  · intro h
    apply List.ext_getElem?
    intro i
    by_cases hl : i < 40
    · exact h i (List.mem_range.2 hl)
    · rw [List.getElem?_eq_none (by omega), List.getElem?_eq_none (by omega)]
  · rintro rfl _ _; rfl

def zl40 : List UInt8 := List.replicate 40 0
def zero40 : Array Value := (zl40.map bv).toArray
set_option maxRecDepth 100000 in
theorem zero52 : ∀ W : World, (zeroValue 52).run Tryd.prog W = .ok (.agg zero40) W :=
  (zero_of_info (P := Tryd.prog) (t := 52) (v := .agg zero40) (n := 40) (by kernel_rfl)).1
/-- where 'of' stands: the result's variable, s -/
structure OF (w w' : World) (q : List UInt8) : Prop where
  r : Has w' w.heap.size (zl40.map bv) 52
  p : Has w' (w.heap.size + 1) (q.map bv) 52
  g : w.grownBy w' none
def l8Z (n i : Nat) : List UInt8 := (Mac.len8 n).take i ++ List.replicate (40 - i) 0
theorem l8Z_step (n i : Nat) (hi : i < 8) : (l8Z n i).set i (UInt8.ofNat (n / 2 ^ (56 - 8 * i))) = l8Z n (i + 1) := by
  have h := len8_get n i hi
  obtain ⟨h1, e1⟩ := List.getElem?_eq_some_iff.1 h
  rw [l8Z, l8Z, List.take_succ_eq_append_getElem h1, e1, List.append_assoc]
  rw [List.set_append_right _ _ (by rw [List.length_take]; omega)]
  congr 1
  rw [List.length_take, Nat.min_eq_left (by omega), Nat.sub_self, show 40 - i = (40 - (i + 1)) + 1 by omega, List.replicate_succ]
  rfl
theorem l8Z_len (n i : Nat) (hi : i ≤ 8) : (l8Z n i).length = 40 := by
  rw [l8Z, List.length_append, List.length_take, Mac.len8_len, List.length_replicate]; omega
theorem OF.start (w : World) : OF w ((w.alloc (.cells zero40 52)).alloc (.cells zero40 52)) zl40 :=
  ⟨(Has.newA w zero40 52).alloc _, by have := Has.newA (w.alloc (.cells zero40 52)) zero40 52; rw [heap1] at this; exact this, (World.grownBy_alloc _ _ _).trans (World.grownBy_alloc _ _ _)⟩
theorem OF.step {w w' : World} {n i : Nat} (h : OF w w' (l8Z n i)) (hi : i < 8) (v : UInt8) (hv : UInt8.ofNat (n / 2 ^ (56 - 8 * i)) = v) : OF w (w'.setCell ⟨w.heap.size + 1, i, none⟩ (.int .u8 v.toNat)) (l8Z n (i + 1)) := by
  refine ⟨h.r.kept (gr_set _ _ _ _) (by simp), ?_, gr_new h.g (gr_set _ _ _ _) (by omega)⟩
  have := h.p.setCell i (bv v)
  rw [← List.map_set, ← hv, l8Z_step n i hi, hv] at this
  exact this
theorem OF.copied {w w' : World} {n : Nat} (h : OF w w' (l8Z n 8)) (key : ByteArray) (hq : key.size = 32) :
    ∃ w2, (Builtin.copy_ #[67, 9] 3 #[.slice (some ⟨w.heap.size + 1, 8, none⟩) 32 32, .string key]).run Tryd.prog w' = .ok (.int .i64 32) w2 ∧ OF w w2 (Mac.len8 n ++ sl key) := by
  refine ⟨_, copy_str w' 3 (w.heap.size + 1) 8 32 32 32 key (by rw [hq]; rfl) (h.p.there 8 _ (by rw [List.length_map, l8Z_len n 8 (by omega)]; omega)), ?_⟩
  rw [List.take_of_length_le (by rw [sl_len]; omega)]
  refine ⟨h.r.kept (gr_sets _ _ _ _) (by simp), ?_, gr_new h.g (gr_sets _ _ _ _) (by omega)⟩
  have := h.p.setCells ((sl key).map bv) 8
  rw [over_eq _ _ _ (by rw [List.length_map, List.length_map, l8Z_len n 8 (by omega), sl_len]; omega), ← List.map_take, ← List.map_drop, ← List.map_append, ← List.map_append] at this
  rw [show (l8Z n 8).take 8 = Mac.len8 n from rfl, List.drop_of_length_le (by rw [List.length_map, l8Z_len n 8 (by omega), sl_len]; omega), List.append_nil] at this
  exact this

set_option maxRecDepth 100000 in
set_option maxHeartbeats 4000000 in
theorem of_c (n : Nat) (key : ByteArray) (w : World) (hk : key.size = 32) :
    Calls Tryd.prog 21 #[.int .u64 n, .string key] w fun e w' => e = .returned (.agg ((Mac.len8 n ++ sl key).map bv).toArray) ∧ w.grownBy w' none := by
  have hz := zero52
  have hs := slice52h (w.heap.size + 1)
  have HL : Keep ((Mac.len8 n ++ sl key).length = 40) := ⟨by rw [List.length_append, Mac.len8_len, sl_len, hk]⟩
  go_enter Tryd.func21, Tryd.ntmps21
  go_wp2
  go_loopw [7] (fun t w' => ∃ i : Nat, i ≤ 8 ∧ t = .int .i64 i ∧ Keep (OF w w' (l8Z n i))) (fun t _ => 8 - (intOf t).toNat)
  case atStart => exact ⟨0, by omega, rfl, ⟨OF.start w⟩⟩
  case round =>
    obtain ⟨i, hi, rfl, hrel⟩ := hrel
    by_cases hli : i < 8
    · obtain ⟨kk, hkk⟩ : ∃ kk : Nat, kk + 8 * i = 56 := ⟨56 - 8 * i, by omega⟩
      obtain ⟨v, hv⟩ : ∃ v, UInt8.ofNat (n / 2 ^ (56 - 8 * i)) = v := ⟨_, rfl⟩
      have hv2 : (n : Int) / 2 ^ kk % 256 = (v.toNat : Int) := by
        rw [← hv, show 56 - 8 * i = kk by omega]; simp
      have ek : (8 : Int) * (7 - (i : Int)) = (kk : Int) := by omega
      have H2 : Keep (OF w (wr.setCell ⟨w.heap.size + 1, i, none⟩ (.int .u8 v.toNat)) (l8Z n (i + 1))) := ⟨hrel.out.step hli v hv⟩
      have hf := hrel.out.p.frozen i
      have hcl : (wr.cell? ⟨w.heap.size + 1, i, none⟩).isSome = true := (hrel.out.p.there i 1 (by rw [List.length_map, l8Z_len n i hi]; omega) 0 (by decide)).1
      obtain ⟨y0, hc⟩ := Option.isSome_iff_exists.1 hcl
      clear hrel hv hcl
      go_wp2
      refine ⟨⟨i + 1, by omega, by go_num, H2⟩, ?_⟩
      simp [intOf]; omega
    · obtain rfl : i = 8 := by omega
      obtain ⟨w2, hcp, h2⟩ := hrel.out.copied key hk
      have H2 : Keep (OF w w2 (Mac.len8 n ++ sl key)) := ⟨h2⟩
      generalize hq : Mac.len8 n ++ sl key = q at H2 HL ⊢
      have HQ : Keep (Mac.len8 n ++ sl key = q) := ⟨hq⟩
      clear h2 hrel hq
      go_wp2_with (first
        | (refine wpList_load_mid rfl 52 _ rfl _ _ rfl _ _ H2.out.p.range under52 rfl (info52 q HL.out) ?_)
        | (refine wpList_store_mid rfl 52 _ _ rfl _ _ _ rfl rfl (H2.out.r.there 0 _ (by rw [List.size_toArray, List.length_map, HL.out]; decide)) (info52 q HL.out) (bytes_one _) ?_))
      refine ret_cell (b := w.heap.size) (cs := q.map bv) (t := 52) rfl rfl ?_ under52 rfl (info52 q HL.out) rfl ⟨by rw [HQ.out], ?_⟩
      · exact H2.out.r.setAll _ (by rw [List.length_map, List.length_map, HL.out]; decide)
      · exact gr_new H2.out.g (gr_sets _ _ _ _) (Nat.le_refl _)
end Go.Proofs.YtbmnlhmelbhjeaaDoor
