import Derived.Test.YtbmnlhmelbhjeaaDoorMaA7
namespace Go.Proofs.YtbmnlhmelbhjeaaDoor
open Go Go.RowKit

set_option maxRecDepth 100000 in
theorem new_cells : (((((((((zero73.setIfInBounds 0 (Value.int IntKind.u32 1779033703)).setIfInBounds 1 (Value.int IntKind.u32 3144134277)).setIfInBounds 2 (Value.int IntKind.u32 1013904242)).setIfInBounds 3 (Value.int IntKind.u32 2773480762)).setIfInBounds 4 (Value.int IntKind.u32 1359893119)).setIfInBounds 5 (Value.int IntKind.u32 2600822924)).setIfInBounds 6 (Value.int IntKind.u32 528734635)).setIfInBounds 7 (Value.int IntKind.u32 1541459225))).toList = hcs Sha.iv (List.replicate 64 0) 0 := by kernel_rfl

set_option maxRecDepth 100000 in
set_option maxHeartbeats 1000000 in
theorem new_any (w : World) :
    Calls Tryd.prog 39 #[] w fun e w' => e = .returned (.pointer (some ⟨w.heap.size, 0, none⟩)) ∧ HashOf w' w.heap.size [] ∧ w.grownBy w' none := by
  have hz := zero44
  go_enter Tryd.func39, Tryd.ntmps39
  go_wp2
  go_ret
  refine ⟨rfl, ⟨_, _, Sha.HP.start, ?_⟩, World.grownBy_alloc _ _ _⟩
  have h2 : ∀ X : Array Value, X.toList = hcs Sha.iv (List.replicate 64 0) 0 → Has (w.alloc (.cells X 82)) w.heap.size (hcs Sha.iv (List.replicate 64 0) 0) 82 := fun X hX => by
    rw [← hX]; exact Has.newA w X 82
  exact h2 _ new_cells

/-- the bytes of a slice, in another block than b -/
structure Bytes (b : Nat) (w : World) (a : Option Addr) (n c : Nat) (q : List UInt8) : Prop where
  len : q.length = n
  cap : n ≤ c
  at_ : 0 < n → ∃ B o, a = some ⟨B, o, none⟩ ∧ B ≠ b ∧ ∀ j x, q[j]? = some x → w.cell? ⟨B, o + j, none⟩ = some (bv x)
def sliceLen : Value → Nat
  | .slice _ n _ => n
  | _ => 0
theorem Bytes.kept {b : Nat} {w w' : World} {a : Option Addr} {n c : Nat} {q : List UInt8} (h : Bytes b w a n c q) (hg : w.grownBy w' (some b)) : Bytes b w' a n c q := by
  refine ⟨h.len, h.cap, fun hn => ?_⟩
  obtain ⟨B, o, h1, h2, h3⟩ := h.at_ hn
  exact ⟨B, o, h1, h2, fun j x hx => hg.cell (h3 j x hx) (by simpa using h2)⟩
theorem Bytes.drop {b : Nat} {w : World} {B o : Nat} {n c : Nat} {q : List UInt8} (h : Bytes b w (some ⟨B, o, none⟩) n c q) (m : Nat) (hm : m ≤ n) (a : Option Addr) (ha : m < n → a = some ⟨B, o + m, none⟩) : Bytes b w a (n - m) (c - m) (q.drop m) := by
  refine ⟨by rw [List.length_drop, h.len], by have := h.cap; omega, fun hn => ?_⟩
  obtain ⟨B', o', h1, h2, h3⟩ := h.at_ (by omega)
  have e : B = B' ∧ o = o' := by simpa using h1
  obtain ⟨rfl, rfl⟩ := e
  refine ⟨B, o + m, ha (by omega), h2, fun j x hx => ?_⟩
  rw [List.getElem?_drop] at hx
  rw [Nat.add_assoc]
  exact h3 _ _ hx

theorem HS.setLen {w0 w : World} {b : Nat} {ws : List UInt32} {blk : List UInt8} {len : Nat} (h : HS w0 w b ws blk len) (hb0 : 0 ≠ b) (n : Nat) (v : Value) (hv : v = .int .u64 n) (w' : World) (hw : w.setCell ⟨b, 72, none⟩ v = w') : HS w0 w' b ws blk n := by
  subst hw hv
  refine ⟨h.h8, h.h64, ?_, h.gr.trans (gr_set _ _ _ _), h.kc.kept (gr_set _ _ _ _) (by simpa using hb0)⟩
  have := h.has.setCell 72 (.int .u64 n)
  rwa [hcs_setl _ _ _ _ h.h8 h.h64] at this
theorem HS.drewN {w0 w : World} {b : Nat} {ws : List UInt32} {blk : List UInt8} {len : Nat} (h : HS w0 w b ws blk len) (n : Nat) : HS w0 (w.drewN n) b ws blk len :=
  ⟨h.h8, h.h64, h.has, h.gr.trans (gr_drewN _ _ _), h.kc⟩

/-- copy into the block: its run, whatever was drawn -/
theorem copy28 {w0 w : World} {b : Nat} {ws : List UInt32} {blk : List UInt8} {len : Nat} (h : HS w0 w b ws blk len) (hb0 : 0 ≠ b) (r n c m B o : Nat) (q : List UInt8) (hq : Bytes b w (some ⟨B, o, none⟩) n c q) (hr : r < 64) (hm : m = Nat.min n (64 - r)) :
    ∃ w2, (∀ ty, (Builtin.copy_ #[67, 67] ty #[.slice (some ⟨b, 8 + r, none⟩) (64 - r) (64 - r), .slice (some ⟨B, o, none⟩) n c]).run Tryd.prog w.drew = .ok (.int .i64 m) w2) ∧
      HS w0 w2 b ws (blk.take r ++ q.take m ++ blk.drop (r + (q.take m).length)) len ∧ w.grownBy w2 (some b) := by
  have hmn : m ≤ n := by rw [hm]; exact Nat.min_le_left _ _
  have hmr : m ≤ 64 - r := by rw [hm]; exact Nat.min_le_right _ _
  have hl : (q.take m).length = m := by rw [List.length_take, hq.len]; omega
  have hd : HS w0 w.drew b ws blk len := h.drewN 1
  refine ⟨w.drew.setCells b (8 + r) ((q.take m).map bv), fun ty => ?_, ?_, ?_⟩
  · have := run_copy_cells (P := Tryd.prog) w.drew 67 67 ty 5 b (8 + r) (64 - r) (64 - r) ⟨B, o, none⟩ n c ((q.take m).map bv) under28 (by kernel_rfl) (by rw [List.length_map, hl, hm]) (fun j v hv => by
        rw [List.getElem?_map, List.getElem?_take] at hv
        split at hv
        · have hn : 0 < n := by omega
          obtain ⟨B', o', h1, h2, h3⟩ := hq.at_ hn
          have e : B = B' ∧ o = o' := by simpa using h1
          obtain ⟨rfl, rfl⟩ := e
          rw [Addr.add_mid]
          cases hx : q[j]? with
          | none => rw [hx] at hv; cases hv
          | some x =>
            rw [hx] at hv
            obtain rfl := Option.some.inj hv
            exact h3 j x hx
        · cases hv)
      (fun j hj => (hd.has.there (8 + r) m (by rw [hcs_length _ _ _ h.h8 h.h64]; omega) j (by rw [List.length_map, hl] at hj; exact hj)).1)
      (fun j hj => (hd.has.there (8 + r) m (by rw [hcs_length _ _ _ h.h8 h.h64]; omega) j (by rw [List.length_map, hl] at hj; exact hj)).2)
      (fun v hv => by obtain ⟨x, _, rfl⟩ := List.mem_map.1 hv; rfl)
    rw [this, List.length_map, hl]
    rfl
  · exact hd.sets hb0 r (q.take m) (by rw [hl]; omega) _ rfl
  · exact (gr_drewN w 1 _).trans (gr_sets _ _ _ _)

/-- where a Write stands -/
structure WR (w w' : World) (b : Nat) (all : List UInt8) (a : Option Addr) (n c : Nat) (T rest : List UInt8) : Prop where
  all_ : T ++ rest = all
  hs : ∃ ws blk, Sha.HP T ws blk ∧ HS w w' b ws blk (L64 T)
  by_ : Bytes b w' a n c rest

theorem WR.next {w wr w3 : World} {b : Nat} {all : List UInt8} {B o n c : Nat} {T rest : List UInt8} (h : WR w wr b all (some ⟨B, o, none⟩) n c T rest) (m len len2 : Nat) (hm : m ≤ n) (hlen : L64 T = len) (hl2 : (len + m) % 18446744073709551616 = len2) (ws3 : List UInt32) (blk3 : List UInt8)
    (hP : Sha.HP (T ++ rest.take m) ws3 blk3) (hS : HS w w3 b ws3 blk3 len2) (g : wr.grownBy w3 (some b)) (a' : Option Addr) (c' : Nat) (hc : c' = c - m) (ha : m < n → a' = some ⟨B, o + m, none⟩) : ∃ T' rest', WR w w3 b all a' (n - m) c' T' rest' := by
  subst hc
  have hl : (rest.take m).length = m := by rw [List.length_take, h.by_.len]; omega
  refine ⟨T ++ rest.take m, rest.drop m, ?_, ⟨ws3, blk3, hP, ?_⟩, (h.by_.kept g).drop m hm a' ha⟩
  · rw [List.append_assoc, List.take_append_drop]; exact h.all_
  · have e : L64 (T ++ rest.take m) = len2 := by
      unfold L64 at hlen ⊢
      rw [List.length_append, hl]
      omega
    rw [e]; exact hS

set_option maxRecDepth 100000 in
set_option maxHeartbeats 8000000 in
theorem write_gen (b : Nat) (a : Option Addr) (n c : Nat) (T q : List UInt8) (w : World) (hh : HashOf w b T) (hk : Kc w) (hb0 : 0 ≠ b) (hq : Bytes b w a n c q) (hn0 : n ≤ 4611686018427387904) :
    Calls Tryd.prog 30 #[.pointer (some ⟨b, 0, none⟩), .slice a n c] w fun e w' => e = .returned (.tuple #[]) ∧ HashOf w' b (T ++ q) ∧ w.grownBy w' (some b) := by
  have H0 : Keep (WR w w b (T ++ q) a n c T q) := ⟨rfl, by
    obtain ⟨ws, blk, h1, h2⟩ := hh
    exact ⟨ws, blk, h1, HP8 h1, h1.2.1, h2, World.grownBy.refl _ _, hk⟩, hq⟩
  generalize T ++ q = all at *
  clear hh hk hq
  go_enter Tryd.func30, Tryd.ntmps30
  go_wp2
  go_loopw [1] (fun v w' => ∃ (a : Option Addr) (n c : Nat), n ≤ 4611686018427387904 ∧ v = .slice a n c ∧ Keep (∃ T rest, WR w w' b all a n c T rest)) (fun v _ => sliceLen v)
  case atStart => exact ⟨a, n, c, hn0, rfl, ⟨_, _, H0.out⟩⟩
  case round =>
    obtain ⟨a, n, c, hlen, rfl, hrel⟩ := hrel
    by_cases hn : 0 < n
    · obtain ⟨T, rest, hW⟩ := hrel.out
      obtain ⟨ws, blk, hP, hS⟩ := hW.hs
      obtain ⟨B, o, rfl, hB, hcell⟩ := hW.by_.at_ hn
      obtain ⟨r, hr⟩ : ∃ r, T.length % 64 = r := ⟨_, rfl⟩
      obtain ⟨m, hm⟩ : ∃ m, m = Nat.min n (64 - r) := ⟨_, rfl⟩
      obtain ⟨w2, hcp, h2, g2⟩ := copy28 hS hb0 r n c m B o rest hW.by_ (by omega) hm
      have hLm := L64_mod T
      have hr' : ((L64 T : Nat) : Int) % 64 = (r : Int) := by omega
      have hs := slice41 .u64 b 8 (r : Int) r rfl (by omega)
      have hlc := hS.len
      have hlc2 := h2.len
      have hf2 := h2.has.frozen 72
      have hmn : m ≤ n := by rw [hm]; exact Nat.min_le_left _ _
      have hmr : r + m ≤ 64 := by have : m ≤ 64 - r := by { rw [hm]; exact Nat.min_le_right _ _ }; omega
      have hm0 : 0 < m := by rw [hm]; simp only [Nat.min_def]; split <;> omega
      have hcap := hW.by_.cap
      have HR : Keep (T.length % 64 = r) := ⟨hr⟩
      have HW : Keep (WR w wr b all (some ⟨B, o, none⟩) n c T rest) := ⟨hW⟩
      have HPP : Keep (Sha.HP T ws blk) := ⟨hP⟩
      have H2 : Keep (HS w w2 b ws (blk.take r ++ rest.take m ++ blk.drop (r + (rest.take m).length)) (L64 T) ∧ wr.grownBy w2 (some b)) := ⟨h2, g2⟩
      have hLl := L64_lt T
      obtain ⟨len, hlen'⟩ : ∃ x, L64 T = x := ⟨_, rfl⟩
      rw [hlen'] at hr' hlc hlc2 hLl
      have HLEN : Keep (L64 T = len) := ⟨hlen'⟩
      have hll : len < 18446744073709551616 := hLl
      obtain ⟨len2, hl2⟩ : ∃ x, (len + m) % 18446744073709551616 = x := ⟨_, rfl⟩
      have HL2 : Keep ((len + m) % 18446744073709551616 = len2) := ⟨hl2⟩
      have el2 : ((len : Int) + (m : Int)) % 18446744073709551616 = (len2 : Int) := by omega
      have ew2 : IntKind.u64.wrap ((len : Int) + (m : Int)) = (len2 : Int) := by rw [← el2]; simp [IntKind.wrap, IntKind.bits, IntKind.signed]
      have em2 : (len2 : Int) % 64 = ((r : Int) + (m : Int)) % 64 := by omega
      have hl2l : len2 < 18446744073709551616 := by omega
      have EM : Keep ((len2 : Int) % 64 = ((r : Int) + (m : Int)) % 64) := ⟨em2⟩
      rw [hlen'] at H2
      clear hrel hW hS hP hcell hm hr h2 g2 hlen' hl2 hLm hLl em2
      go_wp2
      go_region
      have H3 : Keep (HS w (w2.setCell ⟨b, 72, none⟩ (.int .u64 (len2 : Int))) b ws (blk.take r ++ rest.take m ++ blk.drop (r + (rest.take m).length)) len2 ∧ wr.grownBy (w2.setCell ⟨b, 72, none⟩ (.int .u64 (len2 : Int))) (some b)) :=
        ⟨H2.out.1.setLen hb0 len2 _ rfl _ rfl, H2.out.2.trans (gr_set _ _ _ _)⟩
      have hm64 : (m : Int) ≤ (n : Int) := by omega
      have HM : Keep ((rest.take m).length = m) := ⟨by rw [List.length_take, HW.out.by_.len]; omega⟩
      by_cases hfull : r + m = 64
      · have ht : ((len2 : Int) % 64 == 0) = true := by rw [beq_iff_eq, EM.out]; omega
        have HPN : Keep (Sha.HP (T ++ rest.take m) (Sha.mixW ws (blk.take r ++ rest.take m ++ blk.drop (r + (rest.take m).length))) (blk.take r ++ rest.take m ++ blk.drop (r + (rest.take m).length))) := ⟨by
          have := HPP.out.full (rest.take m) (by rw [HR.out, HM.out]; exact hfull)
          rwa [HR.out] at this⟩
        clear hfull
        by_cases hmc : m = c
        · have hnm : n = m := by omega
          subst hmc
          subst hnm
          have HX : Keep (n < n → some (⟨B, o, none⟩ : Addr) = some ⟨B, o + n, none⟩) := ⟨fun h => by omega⟩
          have HY : Keep (0 = n - n) := ⟨by omega⟩
          go_wp2_with (go_at_call 41; refine (mix_any _ _ len2 b _ H3.out.1.h8 H3.out.1.h64 H3.out.1.has H3.out.1.kc).mono ?_; rintro e w5 ⟨rfl, h5, g5⟩; have H5 : Keep (HS w w5 b (Sha.mixW ws (blk.take r ++ rest.take n ++ blk.drop (r + (rest.take n).length))) (blk.take r ++ rest.take n ++ blk.drop (r + (rest.take n).length)) len2 ∧ wr.grownBy w5 (some b)) := ⟨H3.out.1.mixed hb0 h5 g5, H3.out.2.trans g5⟩; clear h5 g5)
          all_goals (refine ⟨⟨_, 0, 0, by omega, rfl, ⟨by have := HW.out.next n len len2 (Nat.le_refl _) HLEN.out HL2.out _ _ HPN.out H5.out.1 H5.out.2 _ _ HY.out HX.out; rw [Nat.sub_self] at this; exact this⟩⟩, ?_⟩; simp only [sliceLen]; omega)
        · go_wp2_with (go_at_call 41; refine (mix_any _ _ len2 b _ H3.out.1.h8 H3.out.1.h64 H3.out.1.has H3.out.1.kc).mono ?_; rintro e w5 ⟨rfl, h5, g5⟩; have H5 : Keep (HS w w5 b (Sha.mixW ws (blk.take r ++ rest.take m ++ blk.drop (r + (rest.take m).length))) (blk.take r ++ rest.take m ++ blk.drop (r + (rest.take m).length)) len2 ∧ wr.grownBy w5 (some b)) := ⟨H3.out.1.mixed hb0 h5 g5, H3.out.2.trans g5⟩; clear h5 g5)
          all_goals (refine ⟨⟨_, n - m, _, by omega, rfl, ⟨HW.out.next m len len2 hmn HLEN.out HL2.out _ _ HPN.out H5.out.1 H5.out.2 _ _ rfl (fun _ => rfl)⟩⟩, ?_⟩; simp only [sliceLen]; omega)
      · have ht : ((len2 : Int) % 64 == 0) = false := by rw [beq_eq_false_iff_ne, EM.out]; omega
        have HPN : Keep (Sha.HP (T ++ rest.take m) ws (blk.take r ++ rest.take m ++ blk.drop (r + (rest.take m).length))) := ⟨by
          have := HPP.out.part (rest.take m) (by rw [HR.out, HM.out]; omega)
          rwa [HR.out] at this⟩
        clear hfull
        by_cases hmc : m = c
        · have hnm : n = m := by omega
          subst hmc
          subst hnm
          have HX : Keep (n < n → some (⟨B, o, none⟩ : Addr) = some ⟨B, o + n, none⟩) := ⟨fun h => by omega⟩
          have HY : Keep (0 = n - n) := ⟨by omega⟩
          go_wp2
          all_goals (refine ⟨⟨_, 0, 0, by omega, rfl, ⟨by have := HW.out.next n len len2 (Nat.le_refl _) HLEN.out HL2.out _ _ HPN.out H3.out.1 H3.out.2 _ _ HY.out HX.out; rw [Nat.sub_self] at this; exact this⟩⟩, ?_⟩; simp only [sliceLen]; omega)
        · go_wp2
          all_goals (refine ⟨⟨_, n - m, _, by omega, rfl, ⟨HW.out.next m len len2 hmn HLEN.out HL2.out _ _ HPN.out H3.out.1 H3.out.2 _ _ rfl (fun _ => rfl)⟩⟩, ?_⟩; simp only [sliceLen]; omega)
    · have HE : Keep (HashOf wr b all ∧ w.grownBy wr (some b)) := ⟨by
        obtain ⟨T, rest, hW⟩ := hrel.out
        obtain ⟨ws, blk, hP, hS⟩ := hW.hs
        have hr : rest = [] := List.length_eq_zero_iff.1 (by rw [hW.by_.len]; omega)
        have ha := hW.all_
        rw [hr, List.append_nil] at ha
        rw [← ha]
        exact ⟨⟨ws, blk, hP, hS.has⟩, hS.gr⟩⟩
      clear hrel
      go_wp2
      go_end0
      exact ⟨rfl, HE.out⟩
theorem write_any (b : Nat) (a : Option Addr) (n c : Nat) (T q : List UInt8) (w : World) (hh : HashOf w b T) (hk : Kc w) (hb0 : 0 ≠ b) (hq : Bytes b w a n c q) (hT : T.length + q.length ≤ 4611686018427387904) :
    Calls Tryd.prog 30 #[.pointer (some ⟨b, 0, none⟩), .slice a n c] w fun e w' => e = .returned (.tuple #[]) ∧ HashOf w' b (T ++ q) ∧ w.grownBy w' (some b) :=
  write_gen b a n c T q w hh hk hb0 hq (by have := hq.len; omega)
end Go.Proofs.YtbmnlhmelbhjeaaDoor
