import Derived.Test.YtldnpebnpbahjaaGreatDoorX2
import Derived.Lib.ConvBytes
import Derived.Laws.MakeOwn
set_option maxRecDepth 100000
set_option maxHeartbeats 8000000
namespace Go.Proofs.YtldnpebnpbahjaaGreatDoor
open Go Go.RowKit Go.Proofs.Tryz
theorem new_cells : (((((((((zero73.setIfInBounds 0 (Value.int IntKind.u32 1779033703)).setIfInBounds 1 (Value.int IntKind.u32 3144134277)).setIfInBounds 2 (Value.int IntKind.u32 1013904242)).setIfInBounds 3 (Value.int IntKind.u32 2773480762)).setIfInBounds 4 (Value.int IntKind.u32 1359893119)).setIfInBounds 5 (Value.int IntKind.u32 2600822924)).setIfInBounds 6 (Value.int IntKind.u32 528734635)).setIfInBounds 7 (Value.int IntKind.u32 1541459225))).toList = hcs Sha.iv (List.replicate 64 0) 0 := by kernel_rfl
theorem new_any (w : World) :
    Calls prog 127 #[] w fun e w' => e = .returned (.pointer (some ⟨w.heap.size, 0, none⟩)) ∧ HashOf w' w.heap.size [] ∧ w.grownBy w' none := by
  have hz := zero44; go_enter func127, ntmps127
  go_wp2
  go_ret; refine ⟨rfl, ⟨_, _, Sha.HP.start, ?_⟩, gAl _ _ _⟩
  have h2 : ∀ X : Array Value, X.toList = hcs Sha.iv (List.replicate 64 0) 0 → Has (w.alloc (.cells X 182)) w.heap.size (hcs Sha.iv (List.replicate 64 0) 0) 182 := fun X hX => by
    rw [← hX]; exact Has.newA w X 182
  exact h2 _ new_cells
structure Bytes (b : Nat) (w : World) (a : Option Addr) (n c : Nat) (q : List UInt8) : Prop where
  len : q.length = n
  cap : n ≤ c
  at_ : 0 < n → ∃ B o, a = some ⟨B, o, none⟩ ∧ B ≠ b ∧ ∀ j x, q[j]? = some x → w.cell? ⟨B, o + j, none⟩ = some (bv x)
def sliceLen : Value → Nat
  | .slice _ n _ => n
  | _ => 0
theorem Bytes.kept {b : Nat} {w w' : World} {a : Option Addr} {n c : Nat} {q : List UInt8} (h : Bytes b w a n c q) (hg : w.grownBy w' (some b)) : Bytes b w' a n c q := by
  refine ⟨h.len, h.cap, fun hn => ?_⟩; obtain ⟨B, o, h1, h2, h3⟩ := h.at_ hn; exact ⟨B, o, h1, h2, fun j x hx => hg.cell (h3 j x hx) (by simpa using h2)⟩
theorem Bytes.drop {b : Nat} {w : World} {B o : Nat} {n c : Nat} {q : List UInt8} (h : Bytes b w (some ⟨B, o, none⟩) n c q) (m : Nat) (hm : m ≤ n) (a : Option Addr) (ha : m < n → a = some ⟨B, o + m, none⟩) : Bytes b w a (n - m) (c - m) (q.drop m) := by
  refine ⟨by rw [List.length_drop, h.len], by have := h.cap; omega, fun hn => ?_⟩; obtain ⟨B', o', h1, h2, h3⟩ := h.at_ (by omega); have e : B = B' ∧ o = o' := by simpa using h1
  obtain ⟨rfl, rfl⟩ := e; refine ⟨B, o + m, ha (by omega), h2, fun j x hx => ?_⟩; rw [List.getElem?_drop] at hx; rw [Nat.add_assoc]; exact h3 _ _ hx
theorem HS.setLen {w0 w : World} {b : Nat} {ws : List UInt32} {blk : List UInt8} {len : Nat} (h : HS w0 w b ws blk len) (hb0 : 1 ≠ b) (n : Nat) (v : Value) (hv : v = .int .u64 n) (w' : World) (hw : w.setCell ⟨b, 72, none⟩ v = w') : HS w0 w' b ws blk n := by
  subst hw hv; refine ⟨h.h8, h.h64, ?_, h.gr.trans (gr_set _ _ _ _), h.kc.kept (gr_set _ _ _ _) (by simpa using hb0)⟩; have := h.has.setCell 72 (.int .u64 n)
  rwa [hcs_setl _ _ _ _ h.h8 h.h64] at this
theorem HS.drewN {w0 w : World} {b : Nat} {ws : List UInt32} {blk : List UInt8} {len : Nat} (h : HS w0 w b ws blk len) (n : Nat) : HS w0 (w.drewN n) b ws blk len :=
  ⟨h.h8, h.h64, h.has, h.gr.trans (gr_drewN _ _ _), h.kc⟩
theorem copy28 {w0 w : World} {b : Nat} {ws : List UInt32} {blk : List UInt8} {len : Nat} (h : HS w0 w b ws blk len) (hb0 : 1 ≠ b) (r n c m B o : Nat) (q : List UInt8) (hq : Bytes b w (some ⟨B, o, none⟩) n c q) (hr : r < 64) (hm : m = Nat.min n (64 - r)) :
    ∃ w2, (∀ ty, (Builtin.copy_ #[60, 60] ty #[.slice (some ⟨b, 8 + r, none⟩) (64 - r) (64 - r), .slice (some ⟨B, o, none⟩) n c]).run prog w.drew = .ok (.int .i64 m) w2) ∧
      HS w0 w2 b ws (blk.take r ++ q.take m ++ blk.drop (r + (q.take m).length)) len ∧ w.grownBy w2 (some b) := by
  have hmn : m ≤ n := by rw [hm]; exact Nat.min_le_left _ _
  have hmr : m ≤ 64 - r := by rw [hm]; exact Nat.min_le_right _ _
  have hl : (q.take m).length = m := by rw [List.length_take, hq.len]; omega
  have hd : HS w0 w.drew b ws blk len := h.drewN 1; refine ⟨w.drew.setCells b (8 + r) ((q.take m).map bv), fun ty => ?_, ?_, ?_⟩
  · have := run_copy_cells (P := prog) w.drew 60 60 ty 5 b (8 + r) (64 - r) (64 - r) ⟨B, o, none⟩ n c ((q.take m).map bv) under28 (by kernel_rfl) (by rw [List.length_map, hl, hm]) (fun j v hv => by
        rw [List.getElem?_map, List.getElem?_take] at hv; split at hv
        · (have hn : 0 < n := by omega); obtain ⟨B', o', h1, h2, h3⟩ := hq.at_ hn; (have e : B = B' ∧ o = o' := by simpa using h1); obtain ⟨rfl, rfl⟩ := e; rw [Addr.add_mid]; cases hx : q[j]? with
          | none => rw [hx] at hv; cases hv
          | some x =>
            rw [hx] at hv; obtain rfl := Option.some.inj hv; exact h3 j x hx
        · cases hv)
      (fun j hj => (hd.has.there (8 + r) m (by rw [hcs_length _ _ _ h.h8 h.h64]; omega) j (by rw [List.length_map, hl] at hj; exact hj)).1)
      (fun j hj => (hd.has.there (8 + r) m (by rw [hcs_length _ _ _ h.h8 h.h64]; omega) j (by rw [List.length_map, hl] at hj; exact hj)).2)
      (fun v hv => by obtain ⟨x, _, rfl⟩ := List.mem_map.1 hv; rfl)
    rw [this, List.length_map, hl]; rfl
  · exact hd.sets hb0 r (q.take m) (by rw [hl]; omega) _ rfl
  · exact (gr_drewN w 1 _).trans (gr_sets _ _ _ _)
structure WR (w w' : World) (b : Nat) (all : List UInt8) (a : Option Addr) (n c : Nat) (T rest : List UInt8) : Prop where
  all_ : T ++ rest = all
  hs : ∃ ws blk, Sha.HP T ws blk ∧ HS w w' b ws blk (L64 T)
  by_ : Bytes b w' a n c rest
theorem WR.next {w wr w3 : World} {b : Nat} {all : List UInt8} {B o n c : Nat} {T rest : List UInt8} (h : WR w wr b all (some ⟨B, o, none⟩) n c T rest) (m len len2 : Nat) (hm : m ≤ n) (hlen : L64 T = len) (hl2 : (len + m) % 18446744073709551616 = len2) (ws3 : List UInt32) (blk3 : List UInt8)
    (hP : Sha.HP (T ++ rest.take m) ws3 blk3) (hS : HS w w3 b ws3 blk3 len2) (g : wr.grownBy w3 (some b)) (a' : Option Addr) (c' : Nat) (hc : c' = c - m) (ha : m < n → a' = some ⟨B, o + m, none⟩) : ∃ T' rest', WR w w3 b all a' (n - m) c' T' rest' := by
  subst hc; have hl : (rest.take m).length = m := by rw [List.length_take, h.by_.len]; omega
  refine ⟨T ++ rest.take m, rest.drop m, ?_, ⟨ws3, blk3, hP, ?_⟩, (h.by_.kept g).drop m hm a' ha⟩
  · rw [List.append_assoc, List.take_append_drop]; exact h.all_
  · have e : L64 (T ++ rest.take m) = len2 := by
      unfold L64 at hlen ⊢; rw [List.length_append, hl]; omega
    rw [e]; exact hS
theorem write_gen (b : Nat) (a : Option Addr) (n c : Nat) (T q : List UInt8) (w : World) (hh : HashOf w b T) (hk : Kc w) (hb0 : 1 ≠ b) (hq : Bytes b w a n c q) (hn0 : n ≤ 4611686018427387904) :
    Calls prog 69 #[.pointer (some ⟨b, 0, none⟩), .slice a n c] w fun e w' => e = .returned (.tuple #[]) ∧ HashOf w' b (T ++ q) ∧ w.grownBy w' (some b) := by
  have H0 : Kp (WR w w b (T ++ q) a n c T q) := ⟨rfl, by
    obtain ⟨ws, blk, h1, h2⟩ := hh
    exact ⟨ws, blk, h1, HP8 h1, h1.2.1, h2, World.grownBy.refl _ _, hk⟩, hq⟩
  generalize T ++ q = all at *; clear hh hk hq; go_enter func69, ntmps69
  go_wp2
  go_loopw [1] (fun v w' => ∃ (a : Option Addr) (n c : Nat), n ≤ 4611686018427387904 ∧ v = .slice a n c ∧ Kp (∃ T rest, WR w w' b all a n c T rest)) (fun v _ => sliceLen v)
  case atStart => exact ⟨a, n, c, hn0, rfl, ⟨_, _, H0.out⟩⟩
  case round =>
    obtain ⟨a, n, c, hlen, rfl, hrel⟩ := hrel; by_cases hn : 0 < n
    · obtain ⟨T, rest, hW⟩ := hrel.out; obtain ⟨ws, blk, hP, hS⟩ := hW.hs; obtain ⟨B, o, rfl, hB, hcell⟩ := hW.by_.at_ hn; obtain ⟨r, hr⟩ : ∃ r, T.length % 64 = r := ⟨_, rfl⟩; obtain ⟨m, hm⟩ : ∃ m, m = Nat.min n (64 - r) := ⟨_, rfl⟩; obtain ⟨w2, hcp, h2, g2⟩ := copy28 hS hb0 r n c m B o rest hW.by_ (by omega) hm; have hLm := L64_mod T; (have hr' : ((L64 T : Nat) : Int) % 64 = (r : Int) := by omega); have hs := slice41 .u64 b 8 (r : Int) r rfl (by omega); have hlc := hS.len; have hlc2 := h2.len; have hf2 := h2.has.frozen 72; (have hmn : m ≤ n := by rw [hm]; exact Nat.min_le_left _ _); have hmr : r + m ≤ 64 := by have : m ≤ 64 - r := by { rw [hm]; exact Nat.min_le_right _ _ }; omega
      (have hm0 : 0 < m := by rw [hm]; simp only [Nat.min_def]; split <;> omega); have hcap := hW.by_.cap; have HR : Kp (T.length % 64 = r) := ⟨hr⟩; have HW : Kp (WR w wr b all (some ⟨B, o, none⟩) n c T rest) := ⟨hW⟩; have HPP : Kp (Sha.HP T ws blk) := ⟨hP⟩; have H2 : Kp (HS w w2 b ws (blk.take r ++ rest.take m ++ blk.drop (r + (rest.take m).length)) (L64 T) ∧ wr.grownBy w2 (some b)) := ⟨h2, g2⟩; have hLl := L64_lt T; obtain ⟨len, hlen'⟩ : ∃ x, L64 T = x := ⟨_, rfl⟩; rw [hlen'] at hr' hlc hlc2 hLl; have HLEN : Kp (L64 T = len) := ⟨hlen'⟩; have hll : len < 18446744073709551616 := hLl; obtain ⟨len2, hl2⟩ : ∃ x, (len + m) % 18446744073709551616 = x := ⟨_, rfl⟩; have HL2 : Kp ((len + m) % 18446744073709551616 = len2) := ⟨hl2⟩; (have el2 : ((len : Int) + (m : Int)) % 18446744073709551616 = (len2 : Int) := by omega); (have ew2 : IntKind.u64.wrap ((len : Int) + (m : Int)) = (len2 : Int) := by rw [← el2]; simp [IntKind.wrap, IntKind.bits, IntKind.signed]); (have em2 : (len2 : Int) % 64 = ((r : Int) + (m : Int)) % 64 := by omega); (have hl2l : len2 < 18446744073709551616 := by omega); have EM : Kp ((len2 : Int) % 64 = ((r : Int) + (m : Int)) % 64) := ⟨em2⟩; rw [hlen'] at H2; clear hrel hW hS hP hcell hm hr h2 g2 hlen' hl2 hLm hLl em2
      go_wp2
      go_region
      have H3 : Kp (HS w (w2.setCell ⟨b, 72, none⟩ (.int .u64 (len2 : Int))) b ws (blk.take r ++ rest.take m ++ blk.drop (r + (rest.take m).length)) len2 ∧ wr.grownBy (w2.setCell ⟨b, 72, none⟩ (.int .u64 (len2 : Int))) (some b)) :=
        ⟨H2.out.1.setLen hb0 len2 _ rfl _ rfl, H2.out.2.trans (gr_set _ _ _ _)⟩
      (have hm64 : (m : Int) ≤ (n : Int) := by omega); have HM : Kp ((rest.take m).length = m) := ⟨by rw [List.length_take, HW.out.by_.len]; omega⟩; by_cases hfull : r + m = 64
      · have ht : ((len2 : Int) % 64 == 0) = true := by rw [beq_iff_eq, EM.out]; omega
        have HPN : Kp (Sha.HP (T ++ rest.take m) (Sha.mixW ws (blk.take r ++ rest.take m ++ blk.drop (r + (rest.take m).length))) (blk.take r ++ rest.take m ++ blk.drop (r + (rest.take m).length))) := ⟨by
          have := HPP.out.full (rest.take m) (by rw [HR.out, HM.out]; exact hfull)
          rwa [HR.out] at this⟩
        clear hfull; by_cases hmc : m = c
        · (have hnm : n = m := by omega); subst hmc; subst hnm; have HX : Kp (n < n → some (⟨B, o, none⟩ : Addr) = some ⟨B, o + n, none⟩) := ⟨fun h => by omega⟩; have HY : Kp (0 = n - n) := ⟨by omega⟩
          go_wp2_with (go_at_call 129; refine (mix_any _ _ len2 b _ H3.out.1.h8 H3.out.1.h64 H3.out.1.has H3.out.1.kc).mono ?_; rintro e w5 ⟨rfl, h5, g5⟩; have H5 : Kp (HS w w5 b (Sha.mixW ws (blk.take r ++ rest.take n ++ blk.drop (r + (rest.take n).length))) (blk.take r ++ rest.take n ++ blk.drop (r + (rest.take n).length)) len2 ∧ wr.grownBy w5 (some b)) := ⟨H3.out.1.mixed hb0 h5 g5, H3.out.2.trans g5⟩; clear h5 g5)
          all_goals (refine ⟨⟨_, 0, 0, by omega, rfl, ⟨by have := HW.out.next n len len2 (Nat.le_refl _) HLEN.out HL2.out _ _ HPN.out H5.out.1 H5.out.2 _ _ HY.out HX.out; rw [Nat.sub_self] at this; exact this⟩⟩, ?_⟩; simp only [sliceLen]; omega)
        · go_wp2_with (go_at_call 129; refine (mix_any _ _ len2 b _ H3.out.1.h8 H3.out.1.h64 H3.out.1.has H3.out.1.kc).mono ?_; rintro e w5 ⟨rfl, h5, g5⟩; have H5 : Kp (HS w w5 b (Sha.mixW ws (blk.take r ++ rest.take m ++ blk.drop (r + (rest.take m).length))) (blk.take r ++ rest.take m ++ blk.drop (r + (rest.take m).length)) len2 ∧ wr.grownBy w5 (some b)) := ⟨H3.out.1.mixed hb0 h5 g5, H3.out.2.trans g5⟩; clear h5 g5)
          all_goals (refine ⟨⟨_, n - m, _, by omega, rfl, ⟨HW.out.next m len len2 hmn HLEN.out HL2.out _ _ HPN.out H5.out.1 H5.out.2 _ _ rfl (fun _ => rfl)⟩⟩, ?_⟩; simp only [sliceLen]; omega)
      · have ht : ((len2 : Int) % 64 == 0) = false := by rw [beq_eq_false_iff_ne, EM.out]; omega
        have HPN : Kp (Sha.HP (T ++ rest.take m) ws (blk.take r ++ rest.take m ++ blk.drop (r + (rest.take m).length))) := ⟨by
          have := HPP.out.part (rest.take m) (by rw [HR.out, HM.out]; omega)
          rwa [HR.out] at this⟩
        clear hfull; by_cases hmc : m = c
        · (have hnm : n = m := by omega); subst hmc; subst hnm; have HX : Kp (n < n → some (⟨B, o, none⟩ : Addr) = some ⟨B, o + n, none⟩) := ⟨fun h => by omega⟩; have HY : Kp (0 = n - n) := ⟨by omega⟩
          go_wp2
          all_goals (refine ⟨⟨_, 0, 0, by omega, rfl, ⟨by have := HW.out.next n len len2 (Nat.le_refl _) HLEN.out HL2.out _ _ HPN.out H3.out.1 H3.out.2 _ _ HY.out HX.out; rw [Nat.sub_self] at this; exact this⟩⟩, ?_⟩; simp only [sliceLen]; omega)
        · go_wp2
          all_goals (refine ⟨⟨_, n - m, _, by omega, rfl, ⟨HW.out.next m len len2 hmn HLEN.out HL2.out _ _ HPN.out H3.out.1 H3.out.2 _ _ rfl (fun _ => rfl)⟩⟩, ?_⟩; simp only [sliceLen]; omega)
    · have HE : Kp (HashOf wr b all ∧ w.grownBy wr (some b)) := ⟨by
        obtain ⟨T, rest, hW⟩ := hrel.out; obtain ⟨ws, blk, hP, hS⟩ := hW.hs; have hr : rest = [] := List.length_eq_zero_iff.1 (by rw [hW.by_.len]; omega); have ha := hW.all_; rw [hr, List.append_nil] at ha; rw [← ha]
        exact ⟨⟨ws, blk, hP, hS.has⟩, hS.gr⟩⟩
      clear hrel
      go_wp2
      go_end0
      exact ⟨rfl, HE.out⟩
theorem write_any (b : Nat) (a : Option Addr) (n c : Nat) (T q : List UInt8) (w : World) (hh : HashOf w b T) (hk : Kc w) (hb0 : 1 ≠ b) (hq : Bytes b w a n c q) (hT : T.length + q.length ≤ 4611686018427387904) :
    Calls prog 69 #[.pointer (some ⟨b, 0, none⟩), .slice a n c] w fun e w' => e = .returned (.tuple #[]) ∧ HashOf w' b (T ++ q) ∧ w.grownBy w' (some b) :=
  write_gen b a n c T q w hh hk hb0 hq (by have := hq.len; omega)
structure BytesOf (w : World) (a : Option Addr) (n c : Nat) (q : List UInt8) : Prop where
  len : q.length = n
  cap : n ≤ c
  at_ : 0 < n → ∃ B o, a = some ⟨B, o, none⟩ ∧ ∀ j x, q[j]? = some x → w.cell? ⟨B, o + j, none⟩ = some (bv x)
theorem BytesOf.kept {w w' : World} {a : Option Addr} {n c : Nat} {q : List UInt8} (h : BytesOf w a n c q) (hg : w.grownBy w' none) : BytesOf w' a n c q := by
  refine ⟨h.len, h.cap, fun hn => ?_⟩; obtain ⟨B, o, h1, h3⟩ := h.at_ hn; exact ⟨B, o, h1, fun j x hx => hg.cell (h3 j x hx) (by simp)⟩
structure Parts (w : World) (a : Option Addr) (n : Nat) (ps : List (List UInt8)) : Prop where
  len : ps.length = n
  at_ : 0 < n → ∃ B o, a = some ⟨B, o, none⟩ ∧ ∀ j q, ps[j]? = some q → ∃ a' n' c', w.cell? ⟨B, o + j, none⟩ = some (.slice a' n' c') ∧ BytesOf w a' n' c' q
theorem take_flat (ps : List (List UInt8)) (i : Nat) (hi : i < ps.length) : (ps.take (i + 1)).flatten = (ps.take i).flatten ++ ps[i] := by
  rw [List.take_succ_eq_append_getElem hi, List.flatten_append]; simp
theorem flat_le (ps : List (List UInt8)) (i : Nat) : (ps.take i).flatten.length ≤ ps.flatten.length := by
  have e : ps.flatten = (ps.take i).flatten ++ (ps.drop i).flatten := by rw [← List.flatten_append, List.take_append_drop]
  rw [e, List.length_append]; omega
def sl (s : ByteArray) : List UInt8 := s.data.toList
theorem sl_len (s : ByteArray) : (sl s).length = s.size := Array.length_toList
theorem sl_mk (l : List UInt8) : sl ⟨l.toArray⟩ = l := by simp [sl]
theorem sl_app (a b : ByteArray) : sl (a ++ b) = sl a ++ sl b := by simp [sl]
theorem sl_inj {a b : ByteArray} (h : sl a = sl b) : a = b := by
  apply ByteArray.ext; exact Array.toList_inj.1 h
theorem sl_extract (s : ByteArray) (m : Nat) : sl (s.extract m s.size) = (sl s).drop m := by
  simp only [sl, ByteArray.data_extract, Array.toList_extract, List.extract]; apply List.take_of_length_le; rw [List.length_drop, Array.length_toList]; exact Nat.le_refl _
def strSize : Value → Nat
  | .string s => s.size
  | _ => 0
theorem c_or (x y : UInt8) : bits .or .u8 (x.toNat : Int) (y.toNat : Int) = ((x ||| y).toNat : Int) := by
  rw [u8_or_nat _ _ (by exact x.toNat_lt) (by exact y.toNat_lt), UInt8.toNat_or]
theorem c_xor (x y : UInt8) : bits .xor .u8 (x.toNat : Int) (y.toNat : Int) = ((x ^^^ y).toNat : Int) := by
  rw [u8_xor_nat _ _ (by exact x.toNat_lt) (by exact y.toNat_lt), UInt8.toNat_xor]
theorem sl_at (s : ByteArray) (i : Nat) (h : i < s.size) : (sl s)[i]? = some s[i] := by
  unfold sl; rw [Array.getElem?_toList]; exact Array.getElem?_eq_getElem h
theorem idx9 (s : ByteArray) (i : Nat) (y : UInt8) (h : i < s.size) (hy : (sl s)[i]? = some y) (W : World) : (Instr.index 9 (.string s) (.int .i64 (i : Int))).run prog W = .ok (.int .u8 y.toNat) W := by
  rw [run_index_string W 9 s .i64 i (by kernel_rfl), dif_pos ⟨by omega, by omega⟩]; rw [sl_at s i h] at hy; simp only [Int.toNat_natCast, Option.some.inj hy]
theorem or_zero8 (x y : UInt8) : x ||| y = 0 ↔ x = 0 ∧ y = 0 := by
  constructor
  · intro h; have h1 := congrArg UInt8.toNat h; rw [UInt8.toNat_or] at h1; (have h2 : x.toNat = 0 ∧ y.toNat = 0 := by simpa using h1); exact ⟨UInt8.toNat_inj.1 (by simpa using h2.1), UInt8.toNat_inj.1 (by simpa using h2.2)⟩
  · rintro ⟨rfl, rfl⟩; rfl
theorem xor_zero8 (x y : UInt8) : x ^^^ y = 0 ↔ x = y := by
  constructor
  · intro h; (have h2 : x ^^^ y ^^^ y = 0 ^^^ y := by rw [h]); rw [UInt8.xor_assoc, UInt8.xor_self, UInt8.xor_zero, UInt8.zero_xor] at h2; exact h2
  · rintro rfl; exact UInt8.xor_self
theorem take_eq (p q : List UInt8) (i : Nat) (x y z : UInt8) (hx : p[i]? = some y) (hy : q[i]? = some z) (h : x = 0 ↔ p.take i = q.take i) : x ||| (y ^^^ z) = 0 ↔ p.take (i + 1) = q.take (i + 1) := by
  obtain ⟨h1, e1⟩ := List.getElem?_eq_some_iff.1 hx; obtain ⟨h2, e2⟩ := List.getElem?_eq_some_iff.1 hy; rw [or_zero8, xor_zero8, h, List.take_succ_eq_append_getElem h1, List.take_succ_eq_append_getElem h2, e1, e2]; constructor
  · rintro ⟨a, b⟩; rw [a, b]
  · intro e; have := List.append_inj e (by simp <;> omega); exact ⟨this.1, by simpa using this.2⟩
theorem same_any (a b : ByteArray) (w : World) (ha : a.size ≤ 4611686018427387904) (_hb : b.size ≤ 4611686018427387904) :
    CRt 41 #[.string a, .string b] w (.bool (decide (sl a = sl b))) := by
  go_enter func41, ntmps41; by_cases hl : a.size = b.size
  · go_wp2
    go_loopw [5, 14] (fun d t w' => ∃ (i : Nat) (x : UInt8), i ≤ b.size ∧ t = .int .i64 i ∧ d = .int .u8 x.toNat ∧ Kp ((x = 0 ↔ (sl a).take i = (sl b).take i) ∧ w.grownBy w' none)) (fun _ t _ => b.size - (intOf t).toNat)
    case atStart => exact ⟨0, 0, by omega, rfl, rfl, ⟨by simp, World.grownBy.refl _ _⟩⟩
    case round =>
      obtain ⟨i, x, hi, rfl, rfl, hrel⟩ := hrel; by_cases hli : i < b.size
      · (have hia : i < a.size := by omega); obtain ⟨y, hy⟩ : ∃ y, (sl a)[i]? = some y := ⟨_, sl_at a i hia⟩; obtain ⟨z, hz⟩ : ∃ z, (sl b)[i]? = some z := ⟨_, sl_at b i hli⟩; obtain ⟨v, hv⟩ : ∃ v, y ^^^ z = v := ⟨_, rfl⟩; obtain ⟨u, hu⟩ : ∃ u, x ||| v = u := ⟨_, rfl⟩; have HX : Kp (u = 0 ↔ (sl a).take (i + 1) = (sl b).take (i + 1)) := ⟨by rw [← hu, ← hv]; exact take_eq _ _ i x y z hy hz hrel.out.1⟩; have ix := idx9 a i y hia hy; have iy := idx9 b i z hli hz; have c1 := c_xor y z; have c2 := c_or x v; rw [hv] at c1; rw [hu] at c2; clear hy hz hu hv
        go_wp2
        go_region
        go_wp2
        refine ⟨⟨i + 1, u, by omega, by go_num, rfl, ⟨HX.out, hrel.out.2.trans (gr_drewN _ _ _)⟩⟩, ?_⟩; simp [intOf]; omega
      · have HE : Kp (Value.bool ((x.toNat : Int) == 0) = .bool (decide (sl a = sl b)) ∧ w.grownBy wr none) := ⟨by
          have e1 : (sl a).take i = sl a := List.take_of_length_le (by rw [sl_len]; omega); have e2 : (sl b).take i = sl b := List.take_of_length_le (by rw [sl_len]; omega); have h := hrel.out.1; rw [e1, e2] at h
          congr 1
          rw [Bool.eq_iff_iff, beq_iff_eq, decide_eq_true_iff, ← h, ← UInt8.toNat_inj]
          simp, hrel.out.2⟩
        clear hrel
        go_wp2
        go_ret; exact ⟨by rw [← HE.out.1]; rfl, HE.out.2⟩
  · have HN : Kp (decide (sl a = sl b) = false) := ⟨by
      rw [decide_eq_false_iff_not]; intro e
      exact hl (by rw [← sl_len, ← sl_len, e])⟩
    go_wp2
    go_ret; exact ⟨by rw [HN.out]; rfl, World.grownBy.refl _ _⟩
end Go.Proofs.YtldnpebnpbahjaaGreatDoor
namespace Go.Proofs.YtldnpebnpbahjaaGreatDoor
namespace Mac
def kx (x : UInt8) (l : List UInt8) : List UInt8 := l.map (· ^^^ x)
def keyOf (k : List UInt8) : List UInt8 := if k.length ≤ 64 then k ++ List.replicate (64 - k.length) 0 else Sha.sha k ++ List.replicate 32 0
def hmac (k t : List UInt8) : List UInt8 := Sha.sha (kx 92 (keyOf k) ++ Sha.sha (kx 54 (keyOf k) ++ t))
def len8 (n : Nat) : List UInt8 := [UInt8.ofNat (n / 2 ^ 56), UInt8.ofNat (n / 2 ^ 48), UInt8.ofNat (n / 2 ^ 40), UInt8.ofNat (n / 2 ^ 32), UInt8.ofNat (n / 2 ^ 24), UInt8.ofNat (n / 2 ^ 16), UInt8.ofNat (n / 2 ^ 8), UInt8.ofNat n]
def flat (ps : List (List UInt8)) : List UInt8 := ps.flatMap fun p => len8 p.length ++ p
def said (use : List UInt8) (ps : List (List UInt8)) : List UInt8 := use ++ 0 :: flat ps
theorem sha_len (T : List UInt8) : (Sha.sha T).length = 32 := by
  rw [Sha.sha, out_len, Sha.fold_len]; rfl
theorem keyOf_len (k : List UInt8) : (keyOf k).length = 64 := by
  unfold keyOf; split
  · simp; omega
  · simp [sha_len]
theorem kx_len (x : UInt8) (l : List UInt8) : (kx x l).length = l.length := by simp [kx]
theorem hmac_len (k t : List UInt8) : (hmac k t).length = 32 := sha_len _
theorem len8_len (n : Nat) : (len8 n).length = 8 := rfl
theorem keyOf_sum (k : List UInt8) (h : 64 < k.length) : keyOf (Sha.sha k) = keyOf k := by
  unfold keyOf; rw [if_pos (by rw [sha_len]; omega), if_neg (by omega), sha_len]
theorem flat_snoc (ps : List (List UInt8)) (i : Nat) (hi : i < ps.length) : flat (ps.take (i + 1)) = flat (ps.take i) ++ (len8 (ps[i]).length ++ ps[i]) := by
  rw [List.take_succ_eq_append_getElem hi, flat, List.flatMap_append]; simp only [flat, List.flatMap_cons, List.flatMap_nil, List.append_nil]
theorem flat_le (ps : List (List UInt8)) (i : Nat) : (flat (ps.take i)).length ≤ (flat ps).length := by
  have e : flat ps = flat (ps.take i) ++ flat (ps.drop i) := by
    simp only [flat]; rw [← List.flatMap_append, List.take_append_drop]
  rw [e, List.length_append]; omega
end Mac
open Go Go.RowKit Go.Proofs.Tryz
def zero512 : Array Value := ((List.replicate 512 (0 : UInt8)).map bv).toArray
theorem zero65 : ∀ W : World, (zeroValue 178).run prog W = .ok (.agg zero512) W :=
  (zero_of_info (P := prog) (t := 178) (v := .agg zero512) (n := 512) (by kernel_rfl)).1
theorem zero512_list : zero512.toList = (List.replicate 512 (0 : UInt8)).map bv := rfl
theorem copy_str (w : World) (ty : TypeId) (b o dLen dCap m : Nat) (t : ByteArray) (hm : m = Nat.min t.size dLen) (hth : w.there b o m) :
    (Builtin.copy_ #[60, 9] ty #[.slice (some ⟨b, o, none⟩) dLen dCap, .string t]).run prog w = .ok (.int .i64 m) (w.setCells b o (((sl t).take m).map bv)) := by
  have hl : (((sl t).take m).map bv).length = m := by
    rw [List.length_map, List.length_take, sl_len, hm]; exact Nat.min_eq_left (Nat.min_le_left _ _)
  have hst := run_storeCells_cells (P := prog) b o (((sl t).take m).map bv) 0 w (by rw [hl]; intro j hj; simpa using (hth j hj).1) (by rw [hl]; intro j hj; simpa using (hth j hj).2) (by
    intro v hv; obtain ⟨x, _, rfl⟩ := List.mem_map.1 hv
    rfl)
  have hz : ∀ w, (Go.sizeOf 5).run prog w = .ok 1 w := fun w => by kernel_rfl
  simp only [Nat.add_zero] at hst; have e : (sl t).map bv = t.data.toList.map (fun b : UInt8 => Value.int IntKind.u8 (b.toNat : Int)) := rfl; simp [Builtin.copy_, run_underlying under28, Builtin.lenOf, Builtin.firstCells, hz, ← hm]; rw [← e, ← List.map_take]; rw [hst]; rfl
theorem slice65 (b : Nat) (n : Nat) (hn : n ≤ 512) (W : World) :
    (Instr.sliceAt 178 (.pointer (some ⟨b, 0, none⟩)) none (some (.int .i64 (n : Int))) none).run prog W = .ok (.slice (some ⟨b, 0, none⟩) n 512) W := by
  have z : (sizeOf (prog.elem 178)).run prog W = .ok 1 W := by kernel_rfl
  have l : prog.arrayLen 178 = 512 := by kernel_rfl
  rw [run_sliceAt_array_h W 178 _ (by kernel_rfl) .i64 n (by omega) (by rw [l]; omega), z, l]; rfl
structure MW (w w' : World) (b : Nat) (all T : List UInt8) (t : ByteArray) : Prop where
  all_ : T ++ sl t = all
  h : HashOf w' b T
  p : ∃ P : List UInt8, P.length = 512 ∧ Has w' w.heap.size (P.map bv) 178
  g : w.grownBy w' (some b)
theorem MW.copied {w wr : World} {b : Nat} {all T : List UInt8} {t : ByteArray} (h : MW w wr b all T t) (hb : b < w.heap.size) (m : Nat) (hm : m = Nat.min t.size 512) :
    ∃ w2, (∀ ty, (Builtin.copy_ #[60, 9] ty #[.slice (some ⟨w.heap.size, 0, none⟩) 512 512, .string t]).run prog wr = .ok (.int .i64 m) w2) ∧ MW w w2 b all T t ∧ Bytes b w2 (some ⟨w.heap.size, 0, none⟩) m 512 ((sl t).take m) := by
  obtain ⟨P, hP, hhas⟩ := h.p; have hm1 : m ≤ t.size := by rw [hm]; exact Nat.min_le_left _ _
  have hm2 : m ≤ 512 := by rw [hm]; exact Nat.min_le_right _ _
  have hlt : ((sl t).take m).length = m := by rw [List.length_take, sl_len]; omega
  have hth : wr.there w.heap.size 0 m := hhas.there 0 m (by rw [List.length_map, hP]; omega); refine ⟨_, fun ty => copy_str wr ty w.heap.size 0 512 512 m t hm hth, ?_, ?_⟩
  · (have hne : some b ≠ some w.heap.size := by simp; omega); have h2 := hhas.setCells (((sl t).take m).map bv) 0; rw [over_eq _ _ _ (by rw [List.length_map, List.length_map, hlt, hP]; omega), ← List.map_take, ← List.map_drop, ← List.map_append, ← List.map_append] at h2; refine ⟨h.all_, h.h.kept (gr_sets _ _ _ _) hne, ⟨_, ?_, h2⟩, gr_new h.g (gr_sets _ _ _ _) (Nat.le_refl _)⟩; simp [hP]; rw [sl_len]; omega
  · refine ⟨hlt, hm2, fun _ => ⟨_, 0, rfl, by omega, fun j x hx => ?_⟩⟩; have h2 := hhas.setCells (((sl t).take m).map bv) 0; rw [over_eq _ _ _ (by rw [List.length_map, List.length_map, hlt, hP]; omega)] at h2; rw [Nat.zero_add, h2.cell]; (have hj : j < m := by rw [← hlt]; exact (List.getElem?_eq_some_iff.1 hx).1); rw [List.take_zero, List.nil_append, List.getElem?_append_left (by rw [List.length_map, hlt]; exact hj), List.getElem?_map, hx]; rfl
theorem MW.wrote {w w2 w3 : World} {b : Nat} {all T : List UInt8} {t : ByteArray} {m : Nat} (h : MW w w2 b all T t) (hb : b < w.heap.size) (h3 : HashOf w3 b (T ++ (sl t).take m)) (g3 : w2.grownBy w3 (some b)) : MW w w3 b all (T ++ (sl t).take m) (t.extract m t.size) := by
  obtain ⟨P, hP, hhas⟩ := h.p; refine ⟨?_, h3, ⟨P, hP, hhas.kept g3 (by simp <;> omega)⟩, h.g.trans g3⟩; rw [sl_extract, List.append_assoc, List.take_append_drop]; exact h.all_
theorem mwrite_gen (b : Nat) (T : List UInt8) (s : ByteArray) (w : World) (hh : HashOf w b T) (hk : Kc w) (hb0 : 1 ≠ b) (hs0 : s.size ≤ 9223372036854775807) :
    Calls prog 68 #[.pointer (some ⟨b, 0, none⟩), .string s] w fun e w' => e = .returned (.tuple #[]) ∧ HashOf w' b (T ++ sl s) ∧ w.grownBy w' (some b) := by
  have hbw := hh.lt; have H0 : Kp (MW w (w.alloc (.cells zero512 178)) b (T ++ sl s) T s) := ⟨rfl, hh.kept (gAl _ _ none) (by simp), ⟨List.replicate 512 0, by simp, by have := Has.newA w zero512 178; rw [zero512_list] at this; exact this⟩, gAl _ _ _⟩; have HK : Kp (Kc w) := ⟨hk⟩; have hz := zero65; generalize T ++ sl s = all at *; clear hh hk; go_enter func68, ntmps68
  go_wp2
  go_loopw [1] (fun v w' => ∃ (t : ByteArray), t.size ≤ 9223372036854775807 ∧ v = .string t ∧ Kp (∃ T, MW w w' b all T t)) (fun v _ => strSize v)
  case atStart => exact ⟨s, hs0, rfl, ⟨_, H0.out⟩⟩
  case round =>
    obtain ⟨t, hts, rfl, hrel⟩ := hrel; by_cases hn : 0 < t.size
    · obtain ⟨T, hW⟩ := hrel.out; obtain ⟨m, hm⟩ : ∃ m, m = Nat.min t.size 512 := ⟨_, rfl⟩; obtain ⟨w2, hcp, h2, hby⟩ := hW.copied hbw m hm; (have hm1 : m ≤ t.size := by rw [hm]; exact Nat.min_le_left _ _); (have hm2 : m ≤ 512 := by rw [hm]; exact Nat.min_le_right _ _); (have hm0 : 0 < m := by rw [hm]; simp only [Nat.min_def]; split <;> omega); have hcp3 := hcp 3; have hs65 := slice65 w.heap.size m hm2; have H2 : Kp (MW w w2 b all T t ∧ Bytes b w2 (some ⟨w.heap.size, 0, none⟩) m 512 ((sl t).take m) ∧ Kc w2) := ⟨h2, hby, HK.out.kept h2.g (by simpa using hb0)⟩; clear hrel hW hcp h2 hby hm
      go_wp2_with (
          (go_at_call 69; refine (write_gen b _ m 512 T ((sl t).take m) w2 H2.out.1.h H2.out.2.2 hb0 H2.out.2.1 (by omega)).mono ?_; rintro e w3 ⟨rfl, h3, g3⟩; have H3 : Kp (MW w w3 b all (T ++ (sl t).take m) (t.extract m t.size)) := ⟨H2.out.1.wrote hbw h3 g3⟩; clear h3 g3))
      refine ⟨⟨_, by rw [ByteArray.size_extract]; omega, rfl, ⟨_, H3.out⟩⟩, ?_⟩; simp only [strSize, ByteArray.size_extract]; omega
    · have HE : Kp (HashOf wr b all ∧ w.grownBy wr (some b)) := ⟨by
        obtain ⟨T, hW⟩ := hrel.out; have ht : sl t = [] := List.length_eq_zero_iff.1 (by rw [sl_len]; omega); have ha := hW.all_; rw [ht, List.append_nil] at ha; rw [← ha]
        exact ⟨hW.h, hW.g⟩⟩
      clear hrel
      go_wp2
      go_end0
      exact ⟨rfl, HE.out⟩
theorem mwrite_any (b : Nat) (T : List UInt8) (s : ByteArray) (w : World) (hh : HashOf w b T) (hk : Kc w) (hb0 : 1 ≠ b) (hT : T.length + s.size ≤ 4611686018427387904) :
    Calls prog 68 #[.pointer (some ⟨b, 0, none⟩), .string s] w fun e w' => e = .returned (.tuple #[]) ∧ HashOf w' b (T ++ sl s) ∧ w.grownBy w' (some b) :=
  mwrite_gen b T s w hh hk hb0 (by omega)
structure BG (w w' : World) (k : List UInt8) (x : UInt8) (i : Nat) : Prop where
  k : Has w' w.heap.size ((Mac.kx x (k.take i) ++ k.drop i).map bv) 111
  g : w.grownBy w' none
theorem kx_step (k : List UInt8) (x y : UInt8) (i : Nat) (hy : k[i]? = some y) : (Mac.kx x (k.take i) ++ k.drop i).set i (y ^^^ x) = Mac.kx x (k.take (i + 1)) ++ k.drop (i + 1) := by
  obtain ⟨h1, e1⟩ := List.getElem?_eq_some_iff.1 hy; have hl : (Mac.kx x (k.take i)).length = i := by rw [Mac.kx_len, List.length_take]; omega
  rw [List.set_append_right _ _ (by omega), hl, Nat.sub_self, List.drop_eq_getElem_cons h1, List.set_cons_zero, List.take_succ_eq_append_getElem h1, e1, Mac.kx, Mac.kx, List.map_append]; simp
theorem kx_at (k : List UInt8) (x y : UInt8) (i : Nat) (hy : k[i]? = some y) : (Mac.kx x (k.take i) ++ k.drop i)[i]? = some y := by
  obtain ⟨h1, e1⟩ := List.getElem?_eq_some_iff.1 hy; have hl : (Mac.kx x (k.take i)).length = i := by rw [Mac.kx_len, List.length_take]; omega
  rw [List.getElem?_append_right (by omega), hl, Nat.sub_self, List.getElem?_drop, Nat.add_zero, hy]
theorem begin_any (k : List UInt8) (A : Array Value) (x : UInt8) (w : World) (hA : Kp (A = (k.map bv).toArray)) (h64 : k.length = 64) (hk : Kc w) :
    Calls prog 67 #[.agg A, .int .u8 x.toNat] w fun e w' => ∃ b, e = .returned (.pointer (some ⟨b, 0, none⟩)) ∧ HashOf w' b (Mac.kx x k) ∧ w.grownBy w' none ∧ w.heap.size ≤ b := by
  have HK : Kp (Kc w) := ⟨hk⟩; clear hk; go_enter func67, ntmps67
  go_wp2
  go_loopw [7] (fun t w' => ∃ i : Nat, i ≤ 64 ∧ t = .int .i64 i ∧ Kp (BG w w' k x i)) (fun t _ => 64 - (intOf t).toNat)
  case atStart => exact ⟨0, by omega, rfl, ⟨by rw [hA.out]; exact Has.new _ _ _, gAl _ _ _⟩⟩
  case round =>
    obtain ⟨i, hi, rfl, hrel⟩ := hrel; by_cases hli : i < 64
    · obtain ⟨y, hy⟩ : ∃ y, k[i]? = some y := ⟨_, List.getElem?_eq_getElem (by omega)⟩; obtain ⟨v, hv⟩ : ∃ v, y ^^^ x = v := ⟨_, rfl⟩; have hc : wr.cell? ⟨w.heap.size, i, none⟩ = some (.int .u8 y.toNat) := hrel.out.k.cellv i _ (by rw [List.getElem?_map, kx_at k x y i hy]; rfl); have hf := hrel.out.k.frozen i; have c1 := c_xor y x; rw [hv] at c1
      have H2 : Kp (BG w (wr.setCell ⟨w.heap.size, i, none⟩ (.int .u8 v.toNat)) k x (i + 1)) := ⟨by
        have := hrel.out.k.setCell i (bv v); rw [← List.map_set, ← hv, kx_step k x y i hy, hv] at this
        exact this, gr_new hrel.out.g (gr_set _ _ _ _) (Nat.le_refl _)⟩
      clear hrel hy hv
      go_wp2
      refine ⟨⟨i + 1, by omega, by go_num, H2⟩, ?_⟩; simp [intOf]; omega
    · have HE : Kp (Has wr w.heap.size ((Mac.kx x k).map bv) 111 ∧ w.grownBy wr none ∧ Kc wr) := ⟨by
        (obtain rfl : i = 64 := by omega); have h := hrel.out.k; rw [List.take_of_length_le (by omega), List.drop_of_length_le (by omega), List.append_nil] at h
        exact ⟨h, hrel.out.g, HK.out.kept hrel.out.g (by simp)⟩⟩
      clear hrel
      go_wp2_with (first
        | (go_at_call 127; refine (new_any _).mono ?_; rintro e w1 ⟨rfl, h1, g1⟩
           have H1 : Kp (HashOf w1 wr.heap.size [] ∧ Bytes wr.heap.size w1 (some ⟨w.heap.size, 0, none⟩) 64 64 (Mac.kx x k) ∧ w.grownBy w1 none ∧ Kc w1 ∧ w.heap.size ≤ wr.heap.size ∧ 1 ≠ wr.heap.size) := ⟨h1, by
             refine ⟨by rw [Mac.kx_len, h64], Nat.le_refl _, fun _ => ⟨_, 0, rfl, by have := HE.out.1.lt; omega, fun j y hy => ?_⟩⟩; rw [Nat.zero_add]
             exact (HE.out.1.kept g1 (by simp)).cellv j _ (by rw [List.getElem?_map, hy]; rfl), HE.out.2.1.trans g1, HE.out.2.2.kept g1 (by simp), HE.out.2.1.size, by have := HE.out.2.2.lt; omega⟩
           clear h1 g1)
        | (go_at_call 69; refine (write_any _ _ 64 64 [] (Mac.kx x k) w1 H1.out.1 H1.out.2.2.2.1 H1.out.2.2.2.2.2 H1.out.2.1 (by rw [Mac.kx_len, h64]; decide)).mono ?_; rintro e w3 ⟨rfl, h3, g3⟩; have H3 : Kp (HashOf w3 wr.heap.size (Mac.kx x k) ∧ w.grownBy w3 none) := ⟨h3, gr_new H1.out.2.2.1 g3 H1.out.2.2.2.2.1⟩; clear h3 g3))
      go_ret; exact ⟨_, rfl, H3.out.1, H3.out.2, H1.out.2.2.2.2.1⟩
def zl64 : List Value := (List.replicate 64 (0 : UInt8)).map bv
def zero64 : Array Value := zl64.toArray
theorem zero47 : ∀ W : World, (zeroValue 111).run prog W = .ok (.agg zero64) W :=
  (zero_of_info (P := prog) (t := 111) (v := .agg zero64) (n := 64) (by kernel_rfl)).1
structure PD (w w' : World) (q : List UInt8) : Prop where
  r : Has w' w.heap.size ((List.replicate 64 (0 : UInt8)).map bv) 111
  p : Has w' (w.heap.size + 1) (q.map bv) 111
  g : w.grownBy w' none
theorem PD.start (w : World) : PD w ((w.alloc (.cells zero64 111)).alloc (.cells zero64 111)) (List.replicate 64 0) :=
  ⟨(Has.newA w zero64 111).alloc _, by have := Has.newA (w.alloc (.cells zero64 111)) zero64 111; rw [heap1] at this; exact this, (gAl _ _ _).trans (gAl _ _ _)⟩
theorem PD.grow {w w' w2 : World} {q : List UInt8} (h : PD w w' q) (hg : w'.grownBy w2 none) : PD w w2 q := ⟨h.r.kept hg (by simp), h.p.kept hg (by simp), h.g.trans hg⟩
theorem PD.sets {w w' : World} (h : PD w w' (List.replicate 64 0)) (q : List UInt8) (hq : q.length ≤ 64) : PD w (w'.setCells (w.heap.size + 1) 0 (q.map bv)) (q ++ List.replicate (64 - q.length) 0) := by
  refine ⟨h.r.kept (gr_sets _ _ _ _) (by simp), ?_, gr_new h.g (gr_sets _ _ _ _) (by omega)⟩; have := h.p.setCells (q.map bv) 0; rw [over_eq _ _ _ (by simp <;> omega), ← List.map_take, ← List.map_drop, ← List.map_append, ← List.map_append] at this; rw [List.take_zero, List.nil_append, List.drop_replicate, List.length_map, Nat.zero_add] at this; exact this
theorem PD.copied {w w' : World} (h : PD w w' (List.replicate 64 0)) (key : ByteArray) (hq : key.size ≤ 64) :
    ∃ w2, (Builtin.copy_ #[60, 9] 3 #[.slice (some ⟨w.heap.size + 1, 0, none⟩) 64 64, .string key]).run prog w' = .ok (.int .i64 key.size) w2 ∧ PD w w2 (Mac.keyOf (sl key)) := by
  refine ⟨_, copy_str w' 3 (w.heap.size + 1) 0 64 64 key.size key (Nat.min_eq_left hq).symm (h.p.there 0 _ (by simp <;> omega)), ?_⟩; rw [List.take_of_length_le (by rw [sl_len]; omega), Mac.keyOf, if_pos (by rw [sl_len]; omega)]; exact h.sets (sl key) (by rw [sl_len]; exact hq)
theorem PD.copied2 {w w' : World} (h : PD w w' (List.replicate 64 0)) (B : Nat) (S : List UInt8) (hS : S.length = 32) (hb : Has w' B (S.map bv) 176) :
    ∃ w2, (Builtin.copy_ #[60, 60] 3 #[.slice (some ⟨w.heap.size + 1, 0, none⟩) 64 64, .slice (some ⟨B, 0, none⟩) 32 32]).run prog w' = .ok (.int .i64 32) w2 ∧ PD w w2 (S ++ List.replicate 32 0) := by
  have hl : (S.map bv).length = 32 := by rw [List.length_map, hS]
  have hth := h.p.there 0 32 (by simp)
  have := run_copy_cells (P := prog) w' 60 60 3 5 (w.heap.size + 1) 0 64 64 ⟨B, 0, none⟩ 32 32 (S.map bv) under28 (by kernel_rfl) (by rw [hl]; rfl)
    (fun j v hv => by rw [Addr.add_mid]; exact hb.cellv _ _ (by rw [Nat.zero_add]; exact hv)) (fun j hj => (hth j (by omega)).1) (fun j hj => (hth j (by omega)).2)
    (fun v hv => by obtain ⟨x, _, rfl⟩ := List.mem_map.1 hv; rfl)
  rw [hl] at this; refine ⟨_, this, ?_⟩; have h2 := h.sets S (by omega); rw [hS] at h2; exact h2
theorem sumVar (w3 : World) (C : Array Value) (hC : C.size = 32) (S : List UInt8) (hS : S.length = 32) (w4 : World) (h : (w3.alloc (.cells C 176)).setCells w3.heap.size 0 (S.map bv) = w4) : Has w4 w3.heap.size (S.map bv) 176 ∧ w3.grownBy w4 none := by
  subst h; refine ⟨(Has.newA w3 C 176).setAll _ (by simp [hC, hS]), gr_new (gAl _ _ _) (gr_sets _ _ _ _) (Nat.le_refl _)⟩
theorem info36 (S : List UInt8) (hS : S.length = 32) : (prog.info? 176).map (·.size) = some (S.map bv).toArray.size := by
  rw [List.size_toArray, List.length_map, hS]; exact size25
theorem mpad_any (key : ByteArray) (w : World) (hk : Kc w) (hsz : key.size ≤ 4611686018427387904) :
    CRt 66 #[.string key] w (.agg ((Mac.keyOf (sl key)).map bv).toArray) := by
  have HK : Kp (Kc w) := ⟨hk⟩; have hz := zero47
  have HL : Kp (((Mac.keyOf (sl key)).map bv).length = 64 ∧ (prog.info? 111).map (·.size) = some ((Mac.keyOf (sl key)).map bv).length) := ⟨by
    have : ((Mac.keyOf (sl key)).map bv).length = 64 := by rw [List.length_map, Mac.keyOf_len]
    rw [this]; exact ⟨rfl, size41⟩⟩
  clear hk; go_enter func66, ntmps66; by_cases hl : key.size ≤ 64
  · obtain ⟨w2, hcp, h2⟩ := (PD.start w).copied key hl; have H2 : Kp (PD w w2 (Mac.keyOf (sl key))) := ⟨h2⟩; generalize Mac.keyOf (sl key) = q at H2 HL ⊢; clear h2
    go_wp2_with (first
      | (refine wpList_load_mid rfl 111 _ rfl _ _ rfl _ _ H2.out.p.range under41 rfl HL.out.2 ?_)
      | (refine wpList_store_mid rfl 111 _ _ rfl _ _ _ rfl rfl (H2.out.r.there 0 _ (by rw [List.size_toArray, HL.out.1]; simp)) HL.out.2 (bytes_one _) ?_))
    refine ret_cell (b := w.heap.size) (cs := q.map bv) (t := 111) rfl rfl ?_ under41 rfl HL.out.2 rfl ⟨rfl, ?_⟩
    · exact H2.out.r.setAll _ (by rw [HL.out.1]; simp)
    · exact gr_new H2.out.g (gr_sets _ _ _ _) (Nat.le_refl _)
  · go_wp2_with (first
      | (go_at_call 127; refine (new_any _).mono ?_; rintro e w1 ⟨rfl, h1, g1⟩
         rw [heap1, heap1] at h1 ⊢; have H1 : Kp (HashOf w1 (w.heap.size + 1 + 1) [] ∧ PD w w1 (List.replicate 64 0) ∧ Kc w1 ∧ 1 ≠ w.heap.size + 1 + 1) := ⟨h1, (PD.start w).grow g1, HK.out.kept ((PD.start w).grow g1).g (by simp), by have := HK.out.lt; omega⟩
         clear h1 g1)
      | (go_at_call 68; refine (mwrite_any _ [] key _ H1.out.1 H1.out.2.2.1 H1.out.2.2.2 (by simpa using hsz)).mono ?_; rintro e w2 ⟨rfl, h2, g2⟩
         have H2 : Kp (HashOf w2 (w.heap.size + 1 + 1) (sl key) ∧ PD w w2 (List.replicate 64 0) ∧ Kc w2) := ⟨h2, ⟨H1.out.2.1.r.kept g2 (by simp <;> omega), H1.out.2.1.p.kept g2 (by simp), gr_new H1.out.2.1.g g2 (by omega)⟩, H1.out.2.2.1.kept g2 (by simp)⟩
         clear h2 g2)
      | (go_at_call 128; refine (sum_any _ (sl key) _ H2.out.1 H2.out.2.2 (by rw [sl_len]; omega)).mono ?_; rintro e w3 ⟨rfl, g3⟩
         have H3 : Kp (PD w w3 (List.replicate 64 0)) := ⟨H2.out.2.1.grow g3⟩; have HQ : Kp (Mac.keyOf (sl key) = Sha.sha (sl key) ++ List.replicate 32 0 ∧ (Sha.sha (sl key)).length = 32) := ⟨by rw [Mac.keyOf, if_neg (by rw [sl_len]; omega)], Mac.sha_len _⟩; generalize Sha.sha (sl key) = S at HQ ⊢
         clear g3)
      | (refine wpList_store_mid rfl 176 _ _ rfl _ _ _ rfl rfl ((Has.newA w3 _ 176).there 0 _ (by rw [List.size_toArray, List.length_map, HQ.out.2]; decide)) (info36 S HQ.out.2) (bytes_one _) ?_
         generalize hw4 : World.setCells _ _ _ _ = w4; obtain ⟨h4, g4⟩ := sumVar w3 _ rfl S HQ.out.2 w4 hw4; obtain ⟨w5, hcp, h5⟩ := PD.copied2 (w' := w4.drew) (H3.out.grow (g4.trans (gr_drewN w4 1 none))) w3.heap.size S HQ.out.2 h4; have H5 : Kp (PD w w5 (Mac.keyOf (sl key))) := ⟨by rw [HQ.out.1]; exact h5⟩; clear h4 g4 h5 hw4; generalize hqq : Mac.keyOf (sl key) = q at H5 HL HQ; have HQQ : Kp (Mac.keyOf (sl key) = q) := ⟨hqq⟩
         clear hqq))
    go_region
    go_wp2_with (first
      | (refine wpList_load_mid rfl 111 _ rfl _ _ rfl _ _ H5.out.p.range under41 rfl HL.out.2 ?_)
      | (refine wpList_store_mid rfl 111 _ _ rfl _ _ _ rfl rfl (H5.out.r.there 0 _ (by rw [List.size_toArray, HL.out.1]; simp)) HL.out.2 (bytes_one _) ?_))
    refine ret_cell (b := w.heap.size) (cs := q.map bv) (t := 111) rfl rfl ?_ under41 rfl HL.out.2 rfl ⟨by rw [HQQ.out], ?_⟩
    · exact H5.out.r.setAll _ (by rw [HL.out.1]; simp)
    · exact gr_new H5.out.g (gr_sets _ _ _ _) (Nat.le_refl _)
theorem len8_get (n i : Nat) (hi : i < 8) : (Mac.len8 n)[i]? = some (UInt8.ofNat (n / 2 ^ (56 - 8 * i))) := by
  match i, hi with
  | 0, _ => rfl
  | 1, _ => rfl
  | 2, _ => rfl
  | 3, _ => rfl
  | 4, _ => rfl
  | 5, _ => rfl
  | 6, _ => rfl
  | 7, _ => simp [Mac.len8]
def l8To (n i : Nat) : List UInt8 := (Mac.len8 n).take i ++ List.replicate (8 - i) 0
theorem l8To_step (n i : Nat) (hi : i < 8) : (l8To n i).set i (UInt8.ofNat (n / 2 ^ (56 - 8 * i))) = l8To n (i + 1) := by
  match i, hi with
  | 0, _ => rfl
  | 1, _ => rfl
  | 2, _ => rfl
  | 3, _ => rfl
  | 4, _ => rfl
  | 5, _ => rfl
  | 6, _ => rfl
  | 7, _ => simp [l8To, Mac.len8]
theorem gr_weak {a c : World} (h : a.grownBy c none) (row : Option Nat) : a.grownBy c row := ⟨h.os, h.tape, h.output, h.size, fun i hi _ => h.block i hi (by simp)⟩
theorem str_back (w : World) (b : Nat) (S : List UInt8) (h32 : S.length = 32) (h : Has w b (S.map bv) 176) : (convert 60 9 (.slice (some ⟨b, 0, none⟩) 32 32)).run prog w = .ok (.string ⟨S.toArray⟩) w := by
  have := run_convert_bytes_back (P := prog) w 60 9 5 ⟨b, 0, none⟩ 32 S under28 (by kernel_rfl) (by kernel_rfl) (fun j hj => by
    rw [Addr.add_mid, Nat.zero_add]
    exact h.cellv j _ (by rw [List.getElem?_map, List.getElem?_eq_getElem hj]; rfl))
  rw [h32] at this; exact this
theorem Has.by32 {w : World} {b b' : Nat} {S : List UInt8} (h : Has w b (S.map bv) 176) (h32 : S.length = 32) (hne : b ≠ b') : Bytes b' w (some ⟨b, 0, none⟩) 32 32 S :=
  ⟨h32, Nat.le_refl _, fun _ => ⟨_, 0, rfl, hne, fun j x hx => by rw [Nat.zero_add]; exact h.cellv j _ (by rw [List.getElem?_map, hx]; rfl)⟩⟩
theorem end_gen (k : List UInt8) (A : Array Value) (b : Nat) (T : List UInt8) (w : World) (hA : Kp (A = (k.map bv).toArray)) (h64 : k.length = 64) (hh : HashOf w b T) (hk : Kc w) :
    CRt 71 #[.agg A, .pointer (some ⟨b, 0, none⟩)] w (.string ⟨(Sha.sha (Mac.kx 92 k ++ Sha.sha T)).toArray⟩) := by
  have HK : Kp (Kc w) := ⟨hk⟩; have HH : Kp (HashOf w b T) := ⟨hh⟩; have HSL : Kp ((Sha.sha T).length = 32 ∧ ∀ S : List UInt8, (Sha.sha S).length = 32) := ⟨Mac.sha_len _, Mac.sha_len⟩; have HB : Kp (Has (w.alloc (.cells A 111)) w.heap.size (k.map bv) 111 ∧ (prog.info? 111).map (·.size) = some (k.map bv).length) := ⟨by rw [hA.out]; exact ⟨Has.new _ _ _, by rw [List.length_map, h64]; exact size41⟩⟩; clear hk hh; generalize hsv : Sha.sha T = S at HSL; have HSV : Kp (Sha.sha T = S) := ⟨hsv⟩; clear hsv; go_enter func71, ntmps71
  go_wp2_with (first
    | (go_at_call 128; refine (sum_gen _ T _ (HH.out.kept (gAl _ _ none) (by simp)) (HK.out.kept (gAl _ _ none) (by simp))).mono ?_; rintro e w1 ⟨rfl, g1⟩
       have H1 : Kp (w.grownBy w1 none ∧ Has w1 w.heap.size (k.map bv) 111) := ⟨(gAl _ _ _).trans g1, HB.out.1.kept g1 (by simp)⟩; rw [HSV.out]
       clear g1)
    | (refine wpList_store_mid rfl 176 _ _ rfl _ _ _ rfl rfl ((Has.newA w1 _ 176).there 0 _ (by rw [List.size_toArray, List.length_map, HSL.out.1]; decide)) (info36 S HSL.out.1) (bytes_one _) ?_
       generalize hw2 : World.setCells _ _ _ _ = w2; obtain ⟨h2, g2⟩ := sumVar w1 _ rfl S HSL.out.1 w2 hw2; have H2 : Kp (Has w2 w1.heap.size (S.map bv) 176 ∧ w.grownBy w2 none ∧ Has w2 w.heap.size (k.map bv) 111 ∧ Kc w2) := ⟨h2, H1.out.1.trans g2, H1.out.2.kept g2 (by simp), HK.out.kept (H1.out.1.trans g2) (by simp)⟩
       clear h2 g2 hw2)
    | (refine wpList_load_mid rfl 111 _ rfl _ _ rfl _ _ H2.out.2.2.1.range under41 rfl HB.out.2 ?_))
  refine (begin_any k _ 92 w2 ⟨rfl⟩ h64 H2.out.2.2.2).mono ?_; rintro e w3 ⟨bo, rfl, h3, g3, hbo⟩; have H3 : Kp (HashOf w3 bo (Mac.kx 92 k) ∧ Bytes bo w3 (some ⟨w1.heap.size, 0, none⟩) 32 32 S ∧ w.grownBy w3 none ∧ Kc w3 ∧ 1 ≠ bo ∧ w.heap.size ≤ bo) := ⟨h3, (H2.out.1.kept g3 (by simp)).by32 HSL.out.1 (by have := H2.out.1.lt; omega), H2.out.2.1.trans g3, H2.out.2.2.2.kept g3 (by simp), by have := H2.out.2.2.2.lt; omega, by have := H2.out.2.1.size; omega⟩; have HL : Kp ((Mac.kx 92 k).length + S.length ≤ 4611686018427387904) := ⟨by rw [Mac.kx_len, h64, HSL.out.1]; decide⟩; generalize hsv2 : Mac.kx 92 k = K2 at H3 HL; have HS2 : Kp (Mac.kx 92 k = K2) := ⟨hsv2⟩; clear h3 g3 hbo hsv2
  go_wp2_with (first
    | (go_at_call 69; refine (write_any bo _ 32 32 K2 S w3 H3.out.1 H3.out.2.2.2.1 H3.out.2.2.2.2.1 H3.out.2.1 HL.out).mono ?_; rintro e w4 ⟨rfl, h4, g4⟩
       have H4 : Kp (HashOf w4 bo (K2 ++ S) ∧ w.grownBy w4 none ∧ Kc w4) := ⟨h4, gr_new H3.out.2.2.1 g4 H3.out.2.2.2.2.2, H3.out.2.2.2.1.kept g4 (by simpa using H3.out.2.2.2.2.1)⟩
       clear h4 g4)
    | (go_at_call 128; refine (sum_any bo (K2 ++ S) w4 H4.out.1 H4.out.2.2 (by have := HL.out; rw [List.length_append]; omega)).mono ?_; rintro e w5 ⟨rfl, g5⟩
       have H5 : Kp (w.grownBy w5 none) := ⟨H4.out.2.1.trans g5⟩; have HS3 : Kp ((Sha.sha (K2 ++ S)).length = 32) := ⟨HSL.out.2 _⟩; generalize hs4 : Sha.sha (K2 ++ S) = S4 at HS3 ⊢; have HS4 : Kp (Sha.sha (K2 ++ S) = S4) := ⟨hs4⟩
       clear g5 hs4)
    | (refine wpList_store_mid rfl 176 _ _ rfl _ _ _ rfl rfl ((Has.newA w5 _ 176).there 0 _ (by rw [List.size_toArray, List.length_map, HS3.out]; decide)) (info36 S4 HS3.out) (bytes_one _) ?_
       generalize hw6 : World.setCells _ _ _ _ = w6; obtain ⟨h6, g6⟩ := sumVar w5 _ rfl S4 HS3.out w6 hw6; have hcv := str_back w6 w5.heap.size S4 HS3.out h6; have H6 : Kp (w.grownBy w6 none) := ⟨H5.out.trans g6⟩
       clear h6 g6 hw6))
  go_ret; exact ⟨by rw [HS2.out, HS4.out]; rfl, H6.out⟩
theorem end_any (k : List UInt8) (A : Array Value) (b : Nat) (T : List UInt8) (w : World) (hA : Kp (A = (k.map bv).toArray)) (h64 : k.length = 64) (hh : HashOf w b T) (hk : Kc w) (_hT : T.length < 18446744073709551616) :
    CRt 71 #[.agg A, .pointer (some ⟨b, 0, none⟩)] w (.string ⟨(Sha.sha (Mac.kx 92 k ++ Sha.sha T)).toArray⟩) := end_gen k A b T w hA h64 hh hk
def hmacB (key text : ByteArray) : ByteArray := ⟨(Mac.hmac (sl key) (sl text)).toArray⟩
theorem hmacB_sl (key text : ByteArray) : sl (hmacB key text) = Mac.hmac (sl key) (sl text) := sl_mk _
theorem keyVar (w3 : World) (C : Array Value) (hC : C.size = 64) (S : List UInt8) (hS : S.length = 64) (w4 : World) (h : (w3.alloc (.cells C 111)).setCells w3.heap.size 0 (S.map bv) = w4) : Has w4 w3.heap.size (S.map bv) 111 ∧ w3.grownBy w4 none := by
  subst h; refine ⟨(Has.newA w3 C 111).setAll _ (by simp [hC, hS]), gr_new (gAl _ _ _) (gr_sets _ _ _ _) (Nat.le_refl _)⟩
theorem info47 (S : List UInt8) (hS : S.length = 64) : (prog.info? 111).map (·.size) = some (S.map bv).length := by
  rw [List.length_map, hS]; exact size41
structure TS (w w' : World) (N bo : Nat) (q T : List UInt8) : Prop where
  k : Has w' N (q.map bv) 111
  h : HashOf w' bo T
  g : w.grownBy w' none
  kc : Kc w'
  n2 : 1 ≠ bo
  hb : w.heap.size ≤ bo
  ne : N ≠ bo
theorem TS.wrote {w w' w2 : World} {N bo : Nat} {q T x : List UInt8} (h : TS w w' N bo q T) (h2 : HashOf w2 bo (T ++ x)) (g : w'.grownBy w2 (some bo)) : TS w w2 N bo q (T ++ x) :=
  ⟨h.k.kept g (by simpa using h.ne), h2, gr_new h.g g h.hb, h.kc.kept g (by simpa using h.n2), h.n2, h.hb, h.ne⟩
theorem TS.grow {w w' w2 : World} {N bo : Nat} {q T : List UInt8} (h : TS w w' N bo q T) (g : w'.grownBy w2 none) : TS w w2 N bo q T :=
  ⟨h.k.kept g (by simp), h.h.kept g (by simp), h.g.trans g, h.kc.kept g (by simp), h.n2, h.hb, h.ne⟩
theorem TS.start {w w2 w3 : World} {N bo : Nat} {q T : List UInt8} (hk : Has w2 N (q.map bv) 111) (g2 : w.grownBy w2 none) (kc : Kc w2) (h3 : HashOf w3 bo T) (g3 : w2.grownBy w3 none) (hbo : w2.heap.size ≤ bo) : TS w w3 N bo q T :=
  ⟨hk.kept g3 (by simp), h3, g2.trans g3, kc.kept g3 (by simp), by have := kc.lt; omega, by have := g2.size; omega, by have := hk.lt; omega⟩
theorem tag_any (key text : ByteArray) (w : World) (hk : Kc w) (h1 : key.size ≤ 2305843009213693952) (h2 : text.size ≤ 2305843009213693952) :
    CRt 42 #[.string key, .string text] w (.string (hmacB key text)) := by
  have HK : Kp (Kc w) := ⟨hk⟩; have HL : Kp ((Mac.keyOf (sl key)).length = 64 ∧ (Mac.kx 54 (Mac.keyOf (sl key))).length = 64 ∧ (sl text).length ≤ 2305843009213693952) := ⟨Mac.keyOf_len _, by rw [Mac.kx_len, Mac.keyOf_len], by rw [sl_len]; exact h2⟩; clear hk; go_enter func42, ntmps42
  go_wp2_with (first
    | (go_at_call 66; refine (mpad_any key _ HK.out (by omega)).mono ?_; rintro e w1 ⟨rfl, g1⟩
       have H1 : Kp (w.grownBy w1 none ∧ Kc w1) := ⟨g1, HK.out.kept g1 (by simp)⟩; generalize hq : Mac.keyOf (sl key) = q at HL ⊢; have HQ : Kp (Mac.keyOf (sl key) = q) := ⟨hq⟩
       clear g1 hq)
    | (refine wpList_store_mid rfl 111 _ _ rfl _ _ _ rfl rfl ((Has.newA w1 _ 111).there 0 _ (by rw [List.size_toArray, List.length_map, HL.out.1]; decide)) (info47 q HL.out.1) (bytes_one _) ?_
       generalize hw2 : World.setCells _ _ _ _ = w2; obtain ⟨h2, g2⟩ := keyVar w1 _ rfl q HL.out.1 w2 hw2; have H2 : Kp (Has w2 w1.heap.size (q.map bv) 111 ∧ w.grownBy w2 none ∧ Kc w2) := ⟨h2, H1.out.1.trans g2, H1.out.2.kept g2 (by simp)⟩
       clear h2 g2 hw2)
    | (refine wpList_load_mid rfl 111 _ rfl _ _ rfl _ _ H2.out.1.range under41 rfl (info47 q HL.out.1) ?_))
  refine (begin_any q _ 54 w2 ⟨rfl⟩ HL.out.1 H2.out.2.2).mono ?_; rintro e w3 ⟨bo, rfl, h3, g3, hbo⟩; have H3 : Kp (TS w w3 w1.heap.size bo q (Mac.kx 54 q)) := ⟨TS.start H2.out.1 H2.out.2.1 H2.out.2.2 h3 g3 hbo⟩; clear h3 g3 hbo
  go_wp2_with (first
    | (go_at_call 68; refine (mwrite_any bo _ text w3 H3.out.h H3.out.kc H3.out.n2 (by rw [HL.out.2.1]; omega)).mono ?_; rintro e w4 ⟨rfl, h4, g4⟩
       have H4 : Kp (TS w w4 w1.heap.size bo q (Mac.kx 54 q ++ sl text)) := ⟨H3.out.wrote h4 g4⟩
       clear h4 g4)
    | (refine wpList_load_mid rfl 111 _ rfl _ _ rfl _ _ H4.out.k.range under41 rfl (info47 q HL.out.1) ?_)
    | (go_at_call 71; refine (end_any q _ bo _ w4 ⟨rfl⟩ HL.out.1 H4.out.h H4.out.kc (by have := HL.out.2; rw [List.length_append]; omega)).mono ?_; rintro e w5 ⟨rfl, g5⟩
       have H5 : Kp (w.grownBy w5 none) := ⟨H4.out.g.trans g5⟩
       clear g5))
  go_ret; exact ⟨by rw [hmacB, Mac.hmac, HQ.out]; rfl, H5.out⟩
def what : ByteArray := { data := #[119, 104, 97, 116, 32, 100, 111, 32, 121, 97, 32, 119, 97, 110, 116, 32, 102, 111, 114, 32, 110, 111, 116, 104, 105, 110, 103, 63] }
theorem under5 : prog.underlying 5 = some (.int .u8) := by kernel_rfl
theorem under9 : prog.underlying 9 = some .string := by kernel_rfl
theorem beqL (a b : ByteArray) : (a.toList == b.toList) = decide (sl a = sl b) := by
  rw [ByteArray.toList_eq, ByteArray.toList_eq]; by_cases h : sl a = sl b
  · rw [decide_eq_true h]; unfold sl at h; rw [h]; simp
  · rw [decide_eq_false h]; unfold sl at h; simpa using h
theorem addS (a b : ByteArray) (h : a.size + b.size ≤ 9223372036854775807) (W : World) : (Op.stringOp .add a b).run prog W = .ok (.string (a ++ b)) W := by
  simp only [Op.stringOp]
  rw [if_neg (by have : IntKind.i64.max = 9223372036854775807 := by decide
                 omega)]
  rfl
theorem cvt (s : ByteArray) (W : World) : (convert 9 60 (.string s)).run prog W = .ok (.slice (some ⟨W.heap.size, 0, none⟩) s.size (grownCap W s.size 0 5)) (Lib.bytesWorld W 5 s) :=
  Lib.run_convert_string_bytes (P := prog) W 9 60 5 s (u := .string) under9 under28 under5
theorem gr_bytes (W : World) (s : ByteArray) : W.grownBy (Lib.bytesWorld W 5 s) none :=
  ⟨rfl, rfl, rfl, by rw [Lib.bytesWorld_size]; omega, fun k hk _ => Lib.bytesWorld_at_old _ _ _ _ hk⟩
theorem bytes_cells (W : World) (s : ByteArray) (j : Nat) (x : UInt8) (hx : (sl s)[j]? = some x) : (Lib.bytesWorld W 5 s).cell? ⟨W.heap.size, j, none⟩ = some (bv x) := by
  have hj : j < s.size := by rw [← sl_len]; exact (List.getElem?_eq_some_iff.1 hx).1
  rw [Lib.bytesWorld_cell _ _ _ j hj]; unfold sl at hx; simp [List.getD, hx]
theorem bytes_of (W : World) (s : ByteArray) (c : Nat) (hc : s.size ≤ c) : BytesOf (Lib.bytesWorld W 5 s) (some ⟨W.heap.size, 0, none⟩) s.size c (sl s) :=
  ⟨sl_len s, hc, fun _ => ⟨_, 0, rfl, fun j x hx => by rw [Nat.zero_add]; exact bytes_cells W s j x hx⟩⟩
theorem cvt_back (w : World) (a : Option Addr) (n c : Nat) (q : List UInt8) (h : BytesOf w a n c q) (ha : a ≠ none) : (convert 60 9 (.slice a n c)).run prog w = .ok (.string ⟨q.toArray⟩) w := by
  have key : ∀ ad : Addr, (∀ j x, q[j]? = some x → w.cell? (ad.add j) = some (bv x)) → (convert 60 9 (.slice (some ad) n c)).run prog w = .ok (.string ⟨q.toArray⟩) w := fun ad hc => by
    have := run_convert_bytes_back (P := prog) w 60 9 5 ad c q under28 under5 under9 (fun j hj => hc j _ (List.getElem?_eq_getElem hj)); rw [h.len] at this; exact this
  cases a with
  | none => exact absurd rfl ha
  | some ad =>
    (refine key ad fun j x hx => ?_); have hn : 0 < n := by rw [← h.len]; have := (List.getElem?_eq_some_iff.1 hx).1; omega
    obtain ⟨B, o, e, h3⟩ := h.at_ hn; obtain rfl := Option.some.inj e; rw [Addr.add_mid]; exact h3 j x hx
theorem sl_back (s : ByteArray) : (⟨(sl s).toArray⟩ : ByteArray) = s := by
  apply ByteArray.ext; simp [sl]
structure WN8 (w w' : World) (b n : Nat) (T : List UInt8) (i : Nat) : Prop where
  h : HashOf w' b T
  p : Has w' w.heap.size ((l8To n i).map bv) 183
  g : w.grownBy w' none
theorem wnum_gen (b n : Nat) (T : List UInt8) (w : World) (hh : HashOf w b T) (hk : Kc w) (hb0 : 1 ≠ b) :
    Calls prog 70 #[.pointer (some ⟨b, 0, none⟩), .int .u64 n] w fun e w' => e = .returned (.tuple #[]) ∧ HashOf w' b (T ++ Mac.len8 n) ∧ w.grownBy w' (some b) := by
  have HK : Kp (Kc w) := ⟨hk⟩; have HH : Kp (HashOf w b T) := ⟨hh⟩; have hbw := hh.lt; clear hk hh; go_enter func70, ntmps70
  go_wp2
  go_loopw [6] (fun t w' => ∃ i : Nat, i ≤ 8 ∧ t = .int .i64 i ∧ Kp (WN8 w w' b n T i)) (fun t _ => 8 - (intOf t).toNat)
  case atStart => exact ⟨0, by omega, rfl, ⟨HH.out.kept (gAl _ _ none) (by simp), Has.newA _ _ _, gAl _ _ _⟩⟩
  case round =>
    obtain ⟨i, hi, rfl, hrel⟩ := hrel; by_cases hli : i < 8
    · obtain ⟨v, hv⟩ : ∃ v, UInt8.ofNat (n / 2 ^ (56 - 8 * i)) = v := ⟨_, rfl⟩
      have H2 : Kp (WN8 w (wr.setCell ⟨w.heap.size, i, none⟩ (.int .u8 v.toNat)) b n T (i + 1)) := ⟨hrel.out.h.kept (gr_set _ _ _ _) (by simp <;> omega), by
        have := hrel.out.p.setCell i (bv v); rw [← List.map_set, ← hv, l8To_step n i hli, hv] at this
        exact this, gr_new hrel.out.g (gr_set _ _ _ _) (Nat.le_refl _)⟩
      have hf := hrel.out.p.frozen i; have hcl : (wr.cell? ⟨w.heap.size, i, none⟩).isSome = true := (hrel.out.p.there i 1 (by rw [List.length_map]; simp [l8To, Mac.len8]; omega) 0 (by decide)).1; obtain ⟨y0, hc⟩ := Option.isSome_iff_exists.1 hcl
      have hv2 : (n : Int) / 2 ^ (56 - 8 * i) % 256 = (v.toNat : Int) := by
        rw [← hv]; simp
      clear hrel hv hcl
      go_wp2
      refine ⟨⟨i + 1, by omega, by go_num, H2⟩, ?_⟩; simp [intOf]; omega
    · have HE : Kp (HashOf wr b T ∧ Bytes b wr (some ⟨w.heap.size, 0, none⟩) 8 8 (Mac.len8 n) ∧ w.grownBy wr none ∧ Kc wr) := ⟨by
        (obtain rfl : i = 8 := by omega); have h := hrel.out.p; refine ⟨hrel.out.h, ⟨rfl, Nat.le_refl _, fun _ => ⟨_, 0, rfl, by omega, fun j x hx => ?_⟩⟩, hrel.out.g, HK.out.kept hrel.out.g (by simp)⟩; rw [Nat.zero_add]
        exact h.cellv j _ (by rw [List.getElem?_map, show l8To n 8 = Mac.len8 n from rfl, hx]; rfl)⟩
      clear hrel
      go_wp2_with (go_at_call 69; refine (write_gen b _ 8 8 T (Mac.len8 n) wr HE.out.1 HE.out.2.2.2 hb0 HE.out.2.1 (by decide)).mono ?_; rintro e w3 ⟨rfl, h3, g3⟩; have H3 : Kp (HashOf w3 b (T ++ Mac.len8 n) ∧ w.grownBy w3 (some b)) := ⟨h3, (gr_weak HE.out.2.2.1 _).trans g3⟩; clear h3 g3)
      go_end0
      exact ⟨rfl, H3.out⟩
structure Strs (w : World) (a : Option Addr) (n : Nat) (ps : List ByteArray) : Prop where
  len : ps.length = n
  at_ : 0 < n → ∃ B o, a = some ⟨B, o, none⟩ ∧ ∀ j p, ps[j]? = some p → w.cell? ⟨B, o + j, none⟩ = some (.string p)
theorem Strs.kept {w w' : World} {a : Option Addr} {n : Nat} {ps : List ByteArray} (h : Strs w a n ps) (hg : w.grownBy w' none) : Strs w' a n ps := by
  refine ⟨h.len, fun hn => ?_⟩; obtain ⟨B, o, h1, h3⟩ := h.at_ hn; exact ⟨B, o, h1, fun j x hx => hg.cell (h3 j x hx) (by simp)⟩
theorem bytes_row (w : World) (bo : Nat) (x : UInt8) (hb : bo < w.heap.size) : Bytes bo (w.alloc (.cells #[.int .u8 x.toNat] 5)) (some ⟨w.heap.size, 0, none⟩) 1 1 [x] :=
  ⟨rfl, Nat.le_refl _, fun _ => ⟨_, 0, rfl, by omega, fun j y hy => by
    rw [Nat.zero_add]; refine (Has.newA w #[.int .u8 x.toNat] 5).cellv j _ ?_
    match j, hy with
    | 0, hy => obtain rfl : x = y := by simpa using hy
               rfl
    | j + 1, hy => simp at hy⟩⟩
theorem said_step (use : List UInt8) (ps : List (List UInt8)) (i : Nat) (hi : i < ps.length) : Mac.said use (ps.take (i + 1)) = Mac.said use (ps.take i) ++ Mac.len8 (ps[i]).length ++ ps[i] := by
  rw [Mac.said, Mac.flat_snoc ps i hi, Mac.said]; simp
theorem said_le (use : List UInt8) (ps : List (List UInt8)) (i : Nat) : (Mac.said use (ps.take i)).length ≤ (Mac.said use ps).length := by
  have := Mac.flat_le ps i; simp only [Mac.said, List.length_append, List.length_cons]; omega
theorem flat_many (ps : List (List UInt8)) : 8 * ps.length ≤ (Mac.flat ps).length := by
  induction ps with
  | nil => simp
  | cons p r ih => simp only [Mac.flat, List.flatMap_cons, List.length_append, Mac.len8_len, List.length_cons] at *; omega
def deriveB (key use : ByteArray) (ps : List ByteArray) : ByteArray := ⟨(Mac.hmac (sl key) (Mac.said (sl use) (ps.map sl))).toArray⟩
theorem derive_gen (key use : ByteArray) (a : Option Addr) (n c : Nat) (ps : List ByteArray) (w : World) (hk : Kc w) (hp : Strs w a n ps) (h1 : key.size ≤ 2305843009213693952) (hu : use.size ≤ 2305843009213693952) (hn : n ≤ 2305843009213693952) (hps : ∀ (j : Nat) (p : ByteArray), ps[j]? = some p → p.size ≤ 9223372036854775807) :
    CRt 32 #[.string key, .string use, .slice a n c] w (.string (deriveB key use ps)) := by
  have HK : Kp (Kc w) := ⟨hk⟩; have HP : Kp (Strs w a n ps) := ⟨hp⟩; have HL : Kp ((Mac.keyOf (sl key)).length = 64 ∧ (Mac.kx 54 (Mac.keyOf (sl key))).length = 64) := ⟨Mac.keyOf_len _, by rw [Mac.kx_len, Mac.keyOf_len]⟩; have HPS : Kp (∀ (j : Nat) (p : ByteArray), ps[j]? = some p → p.size ≤ 9223372036854775807) := ⟨hps⟩; clear hk hp hps; go_enter func32, ntmps32
  go_wp2_with (first
    | (go_at_call 66; refine (mpad_any key _ HK.out (by omega)).mono ?_; rintro e w1 ⟨rfl, g1⟩
       have H1 : Kp (w.grownBy w1 none ∧ Kc w1) := ⟨g1, HK.out.kept g1 (by simp)⟩; generalize hq : Mac.keyOf (sl key) = q at HL ⊢; have HQ : Kp (Mac.keyOf (sl key) = q) := ⟨hq⟩
       clear g1 hq)
    | (refine wpList_store_mid rfl 111 _ _ rfl _ _ _ rfl rfl ((Has.newA w1 _ 111).there 0 _ (by rw [List.size_toArray, List.length_map, HL.out.1]; decide)) (info47 q HL.out.1) (bytes_one _) ?_
       generalize hw2 : World.setCells _ _ _ _ = w2; obtain ⟨h2, g2⟩ := keyVar w1 _ rfl q HL.out.1 w2 hw2; have H2 : Kp (Has w2 w1.heap.size (q.map bv) 111 ∧ w.grownBy w2 none ∧ Kc w2) := ⟨h2, H1.out.1.trans g2, H1.out.2.kept g2 (by simp)⟩
       clear h2 g2 hw2)
    | (refine wpList_load_mid rfl 111 _ rfl _ _ rfl _ _ H2.out.1.range under41 rfl (info47 q HL.out.1) ?_))
  refine (begin_any q _ 54 w2 ⟨rfl⟩ HL.out.1 H2.out.2.2).mono ?_; rintro e w3 ⟨bo, rfl, h3, g3, hbo⟩; have H3 : Kp (TS w w3 w1.heap.size bo q (Mac.kx 54 q)) := ⟨TS.start H2.out.1 H2.out.2.1 H2.out.2.2 h3 g3 hbo⟩; clear h3 g3 hbo
  go_wp2_with (first
    | (go_at_call 68; refine (mwrite_gen bo _ use w3 H3.out.h H3.out.kc H3.out.n2 (by omega)).mono ?_; rintro e w4 ⟨rfl, h4, g4⟩
       have H4 : Kp (TS w w4 w1.heap.size bo q (Mac.kx 54 q ++ sl use)) := ⟨H3.out.wrote h4 g4⟩
       clear h4 g4))
  refine (write_gen bo _ 1 1 _ [0] _ (H4.out.grow (gAl _ _ none)).h (H4.out.grow (gAl _ _ none)).kc H4.out.n2 (bytes_row w4 bo 0 H4.out.h.lt) (by decide)).mono ?_; rintro e w5 ⟨rfl, h5, g5⟩
  have H5 : Kp (TS w w5 w1.heap.size bo q (Mac.kx 54 q ++ Mac.said (sl use) ((ps.map sl).take 0))) := ⟨by
    have := (H4.out.grow (gAl _ _ none)).wrote h5 g5; rw [List.append_assoc] at this
    exact this⟩
  clear h5 g5
  go_wp2
  go_loopw [23] (fun t w' => ∃ i : Nat, i ≤ n ∧ t = .int .i64 i ∧ Kp (TS w w' w1.heap.size bo q (Mac.kx 54 q ++ Mac.said (sl use) ((ps.map sl).take i)))) (fun t _ => n - (intOf t).toNat)
  case atStart => exact ⟨0, by omega, rfl, H5⟩
  case round =>
    obtain ⟨i, hi, rfl, hrel⟩ := hrel; have hpl := HP.out.len; by_cases hli : i < n
    · obtain ⟨B, o, rfl, hat⟩ := HP.out.at_ (by omega); obtain ⟨p, hp⟩ : ∃ p, ps[i]? = some p := ⟨_, List.getElem?_eq_getElem (by omega)⟩; have hc : wr.cell? ⟨B, o + i, none⟩ = some (.string p) := hrel.out.g.cell (hat i p hp) (by simp); have hil : i < (ps.map sl).length := by rw [List.length_map, hpl]; exact hli
      have hpi : (ps.map sl)[i] = sl p := by
        rw [List.getElem_map]; congr 1; exact (List.getElem?_eq_some_iff.1 hp).2
      have hst := said_step (sl use) (ps.map sl) i hil; rw [hpi, sl_len] at hst; have HST : Kp (Mac.said (sl use) ((ps.map sl).take (i + 1)) = Mac.said (sl use) ((ps.map sl).take i) ++ Mac.len8 p.size ++ sl p) := ⟨hst⟩; have hps : p.size ≤ 9223372036854775807 := HPS.out i p hp; clear hat hp hil hpi hst
      go_wp2_with (first
        | (go_at_call 70; refine (wnum_gen bo p.size _ wr hrel.out.h hrel.out.kc hrel.out.n2).mono ?_; rintro e w6 ⟨rfl, h6, g6⟩
           have H6 : Kp (TS w w6 w1.heap.size bo q (Mac.kx 54 q ++ (Mac.said (sl use) ((ps.map sl).take i) ++ Mac.len8 p.size))) := ⟨by rw [← List.append_assoc]; exact hrel.out.wrote h6 g6⟩
           clear h6 g6)
        | (go_at_call 68; refine (mwrite_gen bo _ p w6 H6.out.h H6.out.kc H6.out.n2 hps).mono ?_; rintro e w7 ⟨rfl, h7, g7⟩
           have H7 : Kp (TS w w7 w1.heap.size bo q (Mac.kx 54 q ++ Mac.said (sl use) ((ps.map sl).take (i + 1)))) := ⟨by rw [HST.out, ← List.append_assoc]; exact H6.out.wrote h7 g7⟩
           clear h7 g7))
      refine ⟨⟨i + 1, by omega, by go_num, H7⟩, ?_⟩; simp [intOf]; omega
    · have H8 : Kp (TS w wr w1.heap.size bo q (Mac.kx 54 q ++ Mac.said (sl use) (ps.map sl))) := ⟨by
        have := hrel.out
        rwa [List.take_of_length_le (by rw [List.length_map, hpl]; omega)] at this⟩
      clear hrel
      go_wp2_with (first
        | (refine wpList_load_mid rfl 111 _ rfl _ _ rfl _ _ H8.out.k.range under41 rfl (info47 q HL.out.1) ?_)
        | (go_at_call 71; refine (end_gen q _ bo _ wr ⟨rfl⟩ HL.out.1 H8.out.h H8.out.kc).mono ?_; rintro e w9 ⟨rfl, g9⟩
           have H9 : Kp (w.grownBy w9 none) := ⟨H8.out.g.trans g9⟩
           clear g9))
      go_ret; exact ⟨by rw [deriveB, Mac.hmac, HQ.out]; rfl, H9.out⟩
structure PRel (blk : List UInt8) (w w' : World) (k : Nat) : Prop where
  z : Has w' w.heap.size ((List.replicate 64 (0 : UInt32)).map wv) 220
  l : Has w' (w.heap.size + 1) ((Sha.schedTo blk k).map wv) 220
  g : w.grownBy w' none
theorem PRel.start (blk : List UInt8) (w : World) (B C : Array Value) (hB : B = ((List.replicate 64 (0 : UInt32)).map wv).toArray) (hC : C = ((List.replicate 64 (0 : UInt32)).map wv).toArray) :
    PRel blk w ((w.alloc (.cells B 220)).alloc (.cells C 220)) 0 := by
  subst hB hC; refine ⟨(Has.new w _ 220).alloc _, Has.new1 _ _ _ _ (heap1 _ _), ?_⟩; exact (gAl _ _ _).trans (gAl _ _ _)
theorem PRel.lcell {blk : List UInt8} {w w' : World} {k : Nat} (h : PRel blk w w' k) (j : Nat) (hj : j < 64) : w'.cell? ⟨w.heap.size + 1, j, none⟩ = some (.int .u32 ((Sha.schedTo blk k).getD j 0).toNat) :=
  h.l.cellv _ _ (get_map wv _ 0 j (by rw [Sha.schedTo_len]; omega))
theorem PRel.drewN {blk : List UInt8} {w w' : World} {k : Nat} (h : PRel blk w w' k) (n : Nat) : PRel blk w (w'.drewN n) k :=
  ⟨h.z, h.l, h.g.trans (gr_drewN _ _ _)⟩
theorem PRel.step {blk : List UInt8} {w w' : World} {k : Nat} (h : PRel blk w w' k) (v : Value) (hv : v = wv (Sha.wval blk (Sha.schedTo blk k) k)) : PRel blk w (w'.setCell ⟨w.heap.size + 1, k, none⟩ v) (k + 1) := by
  subst hv; refine ⟨h.z.other _ _ (by simp), ?_, gr_new h.g (gr_set _ _ _ _) (by omega)⟩; have := h.l.setCell k (wv (Sha.wval blk (Sha.schedTo blk k) k)); rw [Sha.schedTo, List.map_set]; exact this
theorem pl_eq (y2 y7 y15 y16 : UInt32) : ((((y16.toNat : Int) + bits .xor .u32 (bits .xor .u32 ((Sha.rotr 7 y15).toNat : Int) ((Sha.rotr 18 y15).toNat : Int)) ((y15.toNat : Int) / (8 : Int))) % (4294967296 : Int) + (y7.toNat : Int)) % (4294967296 : Int) + bits .xor .u32 (bits .xor .u32 ((Sha.rotr 17 y2).toNat : Int) ((Sha.rotr 19 y2).toNat : Int)) ((y2.toNat : Int) / (1024 : Int))) % (4294967296 : Int) = ((Sha.ss1 y2 + y7 + Sha.ss0 y15 + y16).toNat : Int) := by
  rw [shr_gen y15 3 8 (by decide) (by decide), shr_gen y2 10 1024 (by decide) (by decide), b_xor, b_xor, b_xor, b_xor, b_add, b_add, b_add]; have : y16 + Sha.ss0 y15 + y7 + Sha.ss1 y2 = Sha.ss1 y2 + y7 + Sha.ss0 y15 + y16 := by ac_rfl
  rw [← this]; rfl
theorem turnc (x : UInt32) (k : Nat) (kk : Int) (hkk : kk = (k : Int)) (hk : k = 2 ∨ k = 6 ∨ k = 7 ∨ k = 11 ∨ k = 13 ∨ k = 17 ∨ k = 18 ∨ k = 19 ∨ k = 22 ∨ k = 25) (w : World) :
    Calls prog 244 #[.int .u32 x.toNat, .int .i64 kk] w fun e w' => e = .returned (.int .u32 (Sha.rotr (UInt32.ofNat k) x).toNat) ∧ ∃ n, w' = w.drewN n := by
  subst hkk; exact turn_any x k w hk
theorem plan_any (B o n c at_ : Nat) (l : List UInt8) (w : World) (hl : BytesOf w (some ⟨B, o, none⟩) n c l) (hat : at_ + 64 ≤ n) (hn : n ≤ 4611686018427387904) :
    CRt 243 #[.slice (some ⟨B, o, none⟩) n c, .int .i64 (at_ : Int)] w (.agg ((Sha.sched ((l.drop at_).take 64)).map wv).toArray) := by
  have HL : Kp (BytesOf w (some ⟨B, o, none⟩) n c l) := ⟨hl⟩
  have hBw : B < w.heap.size := by
    obtain ⟨B', o', h1, h2⟩ := hl.at_ (by omega); (have e : B = B' ∧ o = o' := by simpa using h1); obtain ⟨rfl, rfl⟩ := e; (have h0 : 0 < l.length := by rw [hl.len]; omega); exact World.block_lt_of_cell? w _ (h2 0 l[0] (List.getElem?_eq_getElem h0))
  have HCELL : Kp (∀ w' : World, w.grownBy w' none → ∀ j, j < n → w'.cell? ⟨B, o + j, none⟩ = some (.int .u8 (l.getD j 0).toNat)) := ⟨fun w' hg j hj => by
    obtain ⟨B', o', h1, h2⟩ := hl.at_ (by omega); (have e : B = B' ∧ o = o' := by simpa using h1); obtain ⟨rfl, rfl⟩ := e; (have h0 : j < l.length := by rw [hl.len]; omega); have := hg.cell (h2 j l[j] (List.getElem?_eq_getElem h0)) (by simp); rw [this]
    simp [List.getD, h0]⟩
  obtain ⟨blk, hblk⟩ : ∃ b, (l.drop at_).take 64 = b := ⟨_, rfl⟩
  have HBK : Kp ((l.drop at_).take 64 = blk ∧ ∀ j, j < 64 → blk.getD j 0 = l.getD (at_ + j) 0) := ⟨hblk, fun j hj => by
    rw [← hblk]; simp only [List.getD]
    rw [List.getElem?_take, if_pos hj, List.getElem?_drop]⟩
  clear hl hblk; go_enter func243, ntmps243
  go_wp2
  go_loopw [6] (fun i w' => ∃ k : Nat, k ≤ 16 ∧ i = .int .i64 k ∧ Kp (PRel blk w w' k)) (fun i _ => 16 - (intOf i).toNat)
  case atStart => exact ⟨0, by omega, rfl, ⟨PRel.start blk w _ _ rfl rfl⟩⟩
  case round =>
    obtain ⟨k, hk, rfl, hrel⟩ := hrel; by_cases hlt : k < 16
    · obtain ⟨i, hi⟩ : ∃ i, at_ + 4 * k = i := ⟨_, rfl⟩; (have hi' : (at_ : Int) + 4 * (k : Int) = (i : Int) := by omega); have c0 := HCELL.out wr hrel.out.g i (by omega); have c1 := HCELL.out wr hrel.out.g (i + 1) (by omega); have c2 := HCELL.out wr hrel.out.g (i + 2) (by omega); have c3 := HCELL.out wr hrel.out.g (i + 3) (by omega); have e0 := HBK.out.2 (4 * k) (by omega); have e1 := HBK.out.2 (4 * k + 1) (by omega); have e2 := HBK.out.2 (4 * k + 2) (by omega); have e3 := HBK.out.2 (4 * k + 3) (by omega); rw [show at_ + 4 * k = i from hi] at e0; rw [show at_ + (4 * k + 1) = i + 1 by omega] at e1; rw [show at_ + (4 * k + 2) = i + 2 by omega] at e2; rw [show at_ + (4 * k + 3) = i + 3 by omega] at e3; rw [← e0] at c0; rw [← e1] at c1; rw [← e2] at c2; rw [← e3] at c3; obtain ⟨b0, h0⟩ : ∃ x, blk.getD (4 * k) 0 = x := ⟨_, rfl⟩; obtain ⟨b1, h1⟩ : ∃ x, blk.getD (4 * k + 1) 0 = x := ⟨_, rfl⟩; obtain ⟨b2, h2⟩ : ∃ x, blk.getD (4 * k + 2) 0 = x := ⟨_, rfl⟩; obtain ⟨b3, h3⟩ : ∃ x, blk.getD (4 * k + 3) 0 = x := ⟨_, rfl⟩; rw [h0] at c0; rw [h1] at c1; rw [h2] at c2; rw [h3] at c3
      have HV : Kp (Sha.wval blk (Sha.schedTo blk k) k = Sha.word4 b0 b1 b2 b3) := ⟨by
        rw [Sha.wval, if_pos hlt, Sha.wordAt, h0, h1, h2, h3]⟩
      have hc := hrel.out.lcell k (by omega); have hf := hrel.out.l.frozen k; have l0 := b0.toNat_lt; have l1 := b1.toNat_lt; have l2 := b2.toNat_lt; have l3 := b3.toNat_lt; (have hin : (i : Int) + 3 < (n : Int) := by omega); (have hBN : w.heap.size + 1 ≠ B := by omega); clear e0 e1 e2 e3 h0 h1 h2 h3 hi
      go_wp2
      go_region
      all_goals go_wp2
      refine ⟨⟨k + 1, by omega, by go_num, ⟨(hrel.out.step _ (by rw [HV.out, word_eq])).drewN 1⟩⟩, ?_⟩; simp [intOf]; omega
    · have hrel0 : Kp (PRel blk w wr 16) := ⟨by
        have hk16 : k = 16 := by omega
        rw [← hk16]; exact hrel.out⟩
      go_wp2_with fail; clear hrel; generalize (Value.int .i64 (k : Int)) = K6; clear hk hlt
      go_loopw [8] (fun i w' => ∃ k : Nat, k ≤ 48 ∧ i = .int .i64 (k + 16) ∧ Kp (PRel blk w w' (k + 16))) (fun i _ => 64 - (intOf i).toNat)
      case atStart => exact ⟨0, by omega, rfl, hrel0⟩
      case round =>
        obtain ⟨k, hk, rfl, hrel2⟩ := hrel; clear hrel0; by_cases hlt : k < 48
        · have hc := hrel2.out.lcell (k + 16) (by omega); have hf := hrel2.out.l.frozen (k + 16); obtain ⟨y2, hy2⟩ : ∃ y, (Sha.schedTo blk (k + 16)).getD (k + 14) 0 = y := ⟨_, rfl⟩; obtain ⟨y7, hy7⟩ : ∃ y, (Sha.schedTo blk (k + 16)).getD (k + 9) 0 = y := ⟨_, rfl⟩; obtain ⟨y15, hy15⟩ : ∃ y, (Sha.schedTo blk (k + 16)).getD (k + 1) 0 = y := ⟨_, rfl⟩; obtain ⟨y16, hy16⟩ : ∃ y, (Sha.schedTo blk (k + 16)).getD k 0 = y := ⟨_, rfl⟩; have c2 := hrel2.out.lcell (k + 14) (by omega); have c7 := hrel2.out.lcell (k + 9) (by omega); have c15 := hrel2.out.lcell (k + 1) (by omega); have c16 := hrel2.out.lcell k (by omega); rw [hy2] at c2; rw [hy7] at c7; rw [hy15] at c15; rw [hy16] at c16
          have HV : Kp (Sha.wval blk (Sha.schedTo blk (k + 16)) (k + 16) = Sha.ss1 y2 + y7 + Sha.ss0 y15 + y16) := ⟨by
            rw [Sha.wval, if_neg (by omega), show k + 16 - 2 = k + 14 by omega, show k + 16 - 7 = k + 9 by omega, show k + 16 - 15 = k + 1 by omega, show k + 16 - 16 = k by omega, hy2, hy7, hy15, hy16]⟩
          clear hy2 hy7 hy15 hy16; (have i0 : (0 : Int) ≤ (k : Int) := by omega); (have i1 : (k : Int) < 48 := by omega); (have x7 : IntKind.i64.wrap ((k : Int) + 16 - 7) = (k : Int) + 9 := by rw [IntWalk.i64_in _ (by omega)]; omega); (have p7 : (0 : Int) ≤ (k : Int) + 9 := by omega); (have q7 : (k : Int) + 9 < 64 := by omega); (have r7 : ((k : Int) + 9).toNat = k + 9 := by omega); have x16 : IntKind.i64.wrap (k : Int) = (k : Int) := IntWalk.i64_in _ (by omega); (have q16 : (k : Int) < 64 := by omega); (have p0 : (0 : Int) ≤ (k : Int) + 16 := by omega); (have q0 : (k : Int) + 16 < 64 := by omega); have r0 : ((k : Int) + 16).toNat = k + 16 := by omega
          go_wp2
          go_quiet (fail); go_wp2_with fail; have H1 : Kp (PRel blk w (wr.drewN nq) (k + 16)) := ⟨hrel2.out.drewN nq⟩; have C1 : (wr.drewN nq).cell? ⟨w.heap.size + 1, k + 16, none⟩ = some (.int .u32 ((Sha.schedTo blk (k + 16)).getD (k + 16) 0).toNat) ∧ (wr.drewN nq).frozen? ⟨w.heap.size + 1, k + 16, none⟩ = false ∧ (wr.drewN nq).cell? ⟨w.heap.size + 1, k + 9, none⟩ = some (.int .u32 y7.toNat) ∧ (wr.drewN nq).cell? ⟨w.heap.size + 1, k, none⟩ = some (.int .u32 y16.toNat) := ⟨hc, hf, c7, c16⟩; clear hc hf c7 c16 c2 c15 hrel2; generalize wr.drewN nq = w1 at H1 C1 ⊢; obtain ⟨hc, hf, c7, c16⟩ := C1
          go_region_held (fun w' => w'.cell? ⟨w.heap.size + 1, k + 9, none⟩ = some (.int .u32 y7.toNat) ∧ w'.cell? ⟨w.heap.size + 1, k, none⟩ = some (.int .u32 y16.toNat)) (simp [*, World.cell?_setCell_other])
            (first
              | (go_at_call_of 244 (7 : Int); refine (turnc y15 7 7 rfl (by decide) _).mono ?_; rintro e w' ⟨rfl, n1, rfl⟩)
              | (go_at_call_of 244 (18 : Int); refine (turnc y15 18 18 rfl (by decide) _).mono ?_; rintro e w' ⟨rfl, n2, rfl⟩)
              | (go_at_call_of 244 (17 : Int); refine (turnc y2 17 17 rfl (by decide) _).mono ?_; rintro e w' ⟨rfl, n3, rfl⟩)
              | (go_at_call_of 244 (19 : Int); refine (turnc y2 19 19 rfl (by decide) _).mono ?_; rintro e w' ⟨rfl, n4, rfl⟩))
          go_wp2
          refine ⟨⟨k + 1, by omega, by go_num, ⟨by rw [show k + 1 + 16 = k + 16 + 1 by omega]; exact (H1.out.drewN _).step _ (by rw [HV.out, pl_eq])⟩⟩, ?_⟩; simp [intOf]; omega
        · have hrel3 : Kp (PRel blk w wr 64) := ⟨by
            have hk48 : k + 16 = 64 := by omega
            rw [← hk48]; exact hrel2.out⟩
          clear hrel2; have hlen := Sha.schedTo_len blk 64; have hb : Has wr (w.heap.size + 1) ((Sha.sched blk).map wv) 220 := hrel3.out.l; have hz := hrel3.out.z; have hg := hrel3.out.g; clear hrel3; rw [← Sha.sched] at hlen; obtain ⟨L, hLq⟩ : ∃ L, Sha.sched blk = L := ⟨_, rfl⟩; rw [hLq] at hlen hb; have HQ : Kp (Sha.sched ((l.drop at_).take 64) = L) := ⟨by rw [HBK.out.1]; exact hLq⟩; clear hLq; have HB : Kp (Has wr (w.heap.size + 1) (L.map wv) 220) := ⟨hb⟩; have HZ : Kp (Has wr w.heap.size ((List.replicate 64 (0 : UInt32)).map wv) 220) := ⟨hz⟩; have HG : Kp (w.grownBy wr none) := ⟨hg⟩; have HLL : Kp (L.length = 64) := ⟨hlen⟩; clear hb hz hg hlen
          have HI : Kp ((prog.info? 220).map (·.size) = some (L.map wv).length) := ⟨by
            rw [List.length_map, HLL.out]; exact size50⟩
          have HE : Kp (Has (wr.setCells w.heap.size 0 (L.map wv)) w.heap.size (L.map wv) 220 ∧ w.grownBy (wr.setCells w.heap.size 0 (L.map wv)) none) :=
            ⟨HZ.out.setAll _ (by simp [HLL.out]), gr_new HG.out (gr_sets _ _ _ _) (Nat.le_refl _)⟩
          go_wp2_with (first
            | (refine wpList_load_mid rfl 220 _ rfl _ _ rfl _ _ HB.out.range under50 rfl HI.out ?_)
            | (refine wpList_store_mid rfl 220 _ _ rfl _ _ _ rfl rfl (HZ.out.there _ _ (by simp [HLL.out])) HI.out (all_oneCell_toArray (by simp [Value.oneCell'])) ?_))
          refine ret_cell (b := w.heap.size) (cs := L.map wv) (t := 220) rfl rfl ?_ under50 rfl HI.out rfl ⟨by rw [HQ.out], ?_⟩
          · exact HE.out.1
          · exact HE.out.2
theorem made_eq (n : Nat) : madeCells #[Value.int .u8 0] n = ((List.replicate n (0 : UInt8)).map bv).toArray := by
  apply Array.ext
  · simp [size_madeCells]
  · intro i h1 h2; simp [madeCells, Nat.mod_one]
theorem make28 (n : Nat) (hn : n ≤ 281474976710656) (W : World) : (Instr.makeSlice 60 (.int .i64 (n : Int)) (.int .i64 (n : Int))).run prog W = .ok (.slice (some ⟨W.heap.size, 0, none⟩) n n) (W.alloc (.cells ((List.replicate n (0 : UInt8)).map bv).toArray 5)) := by
  have hi : ∃ i, prog.info? 5 = some i ∧ i.size = 1 ∧ i.bytes = 1 ∧ i.zero = some (.int .u8 0) := by
    (have h : (prog.info? 5).map (fun i => (i.size, i.bytes, i.zero)) = some (1, 1, some (.int .u8 0)) := by kernel_rfl); cases hq : prog.info? 5 with
    | none => simp [hq] at h
    | some i =>
      simp only [hq, Option.map_some, Option.some.injEq, Prod.mk.injEq] at h; exact ⟨i, rfl, h.1, h.2.1, h.2.2⟩
  obtain ⟨i, h1, h2, h3, h4⟩ := hi; have := run_make (P := prog) W 60 5 i (.int .u8 0) under28 h1 h4 .i64 .i64 n n (by omega) (by omega) (by rw [h3]; omega) (by omega); rw [this, h2, Nat.mul_one, Int.toNat_natCast]; simp only [Value.cells]; rw [made_eq]
def cpTo (t : List UInt8) (size i : Nat) : List UInt8 := t.take i ++ List.replicate (size - i) 0
theorem cpTo_len (t : List UInt8) (size i : Nat) (hi : i ≤ t.length) (hs : i ≤ size) : (cpTo t size i).length = size := by
  rw [cpTo, List.length_append, List.length_take, List.length_replicate]; omega
theorem cpTo_step (t : List UInt8) (size i : Nat) (hi : i < t.length) (hs : i < size) : (cpTo t size i).set i (t.getD i 0) = cpTo t size (i + 1) := by
  have e : t.take (i + 1) = t.take i ++ [t.getD i 0] := by
    rw [List.take_succ_eq_append_getElem hi]; simp [List.getD, hi]
  have l : (t.take i).length = i := by rw [List.length_take]; omega
  rw [cpTo, cpTo, List.set_append_right _ _ (by omega), l, Nat.sub_self, e, show size - i = (size - (i + 1)) + 1 by omega, List.replicate_succ, List.set_cons_zero]; simp
def base8 (t : List UInt8) (size : Nat) : List UInt8 := t ++ 128 :: List.replicate (size - 8 - (t.length + 1)) 0
def endTo (n i : Nat) : List UInt8 := List.replicate (8 - i) 0 ++ (Sha.len8 n).drop (8 - i)
theorem base8_start (t : List UInt8) (size : Nat) (hs : t.length + 9 ≤ size) : (cpTo t size t.length).set t.length 128 = base8 t size ++ endTo t.length 0 := by
  rw [cpTo, List.take_length, List.set_append_right _ _ (by omega), Nat.sub_self, show size - t.length = (size - 8 - (t.length + 1)) + 8 + 1 by omega, List.replicate_succ, List.set_cons_zero, base8, endTo, ← List.replicate_append_replicate]; simp [Sha.len8, Sha.w4]
theorem base8_len (t : List UInt8) (size : Nat) (hs : t.length + 9 ≤ size) : (base8 t size).length = size - 8 := by
  simp only [base8, List.length_append, List.length_cons, List.length_replicate]; omega
theorem end_step (n : Nat) (v : UInt8) : ∀ i : Nat, i < 8 → (Sha.len8 n).getD (7 - i) 0 = v → (endTo n i).set (7 - i) v = endTo n (i + 1)
  | 0, _, h => by subst h; rfl
  | 1, _, h => by subst h; rfl
  | 2, _, h => by subst h; rfl
  | 3, _, h => by subst h; rfl
  | 4, _, h => by subst h; rfl
  | 5, _, h => by subst h; rfl
  | 6, _, h => by subst h; rfl
  | 7, _, h => by subst h; rfl
  | k + 8, h, _ => by omega
theorem base8_pad (t : List UInt8) (size : Nat) (hs : size = (t.length + 72) / 64 * 64) : base8 t size ++ endTo t.length 8 = t ++ Sha.padOf t.length := by
  rw [base8, endTo, Sha.padOf]
  have : (if t.length % 64 < 56 then 55 - t.length % 64 else 119 - t.length % 64) = size - 8 - (t.length + 1) := by
    subst hs; split <;> omega
  rw [this]; simp
theorem len_byte (n : Nat) (hn : n ≤ 4294967296) : ∀ i : Nat, i < 8 → (n : Int) * 8 / 2 ^ (8 * i) % 256 = (((Sha.len8 n).getD (7 - i) 0).toNat : Int) := by
  intro i hi; have lo : ((UInt32.ofNat (n * 8)).toNat : Int) = (n * 8 : Nat) % 4294967296 := by rw [UInt32.toNat_ofNat']; omega
  have hi' : ((UInt32.ofNat (n * 8 % 2 ^ 64 / 2 ^ 32)).toNat : Int) = (n * 8 : Nat) / 4294967296 := by rw [UInt32.toNat_ofNat']; omega
  match i, hi with
  | 0, _ => show _ = ((UInt32.ofNat (n * 8)).toUInt8.toNat : Int)
            rw [← byte0, lo]; simp only [Nat.mul_zero, Int.pow_zero]; omega
  | 1, _ => show _ = ((UInt32.ofNat (n * 8) >>> 8).toUInt8.toNat : Int)
            rw [← byte8, lo]; simp only [Nat.reduceMul, Int.reducePow]; omega
  | 2, _ => show _ = ((UInt32.ofNat (n * 8) >>> 16).toUInt8.toNat : Int)
            rw [← byte16, lo]; simp only [Nat.reduceMul, Int.reducePow]; omega
  | 3, _ => show _ = ((UInt32.ofNat (n * 8) >>> 24).toUInt8.toNat : Int)
            rw [← byte24, lo]; simp only [Nat.reduceMul, Int.reducePow]; omega
  | 4, _ => show _ = ((UInt32.ofNat (n * 8 % 2 ^ 64 / 2 ^ 32)).toUInt8.toNat : Int)
            rw [← byte0, hi']; simp only [Nat.reduceMul, Int.reducePow]; omega
  | 5, _ => show _ = ((UInt32.ofNat (n * 8 % 2 ^ 64 / 2 ^ 32) >>> 8).toUInt8.toNat : Int)
            rw [← byte8, hi']; simp only [Nat.reduceMul, Int.reducePow]; omega
  | 6, _ => show _ = ((UInt32.ofNat (n * 8 % 2 ^ 64 / 2 ^ 32) >>> 16).toUInt8.toNat : Int)
            rw [← byte16, hi']; simp only [Nat.reduceMul, Int.reducePow]; omega
  | 7, _ => show _ = ((UInt32.ofNat (n * 8 % 2 ^ 64 / 2 ^ 32) >>> 24).toUInt8.toNat : Int)
            rw [← byte24, hi']; simp only [Nat.reduceMul, Int.reducePow]; omega
  | k + 8, h => omega
theorem Has.some {w : World} {b : Nat} {cs : List Value} {t : TypeId} (h : Has w b cs t) (j : Nat) (hj : j < cs.length) : ∃ v, w.cell? ⟨b, j, none⟩ = some v := ⟨cs[j], by rw [h.cell, List.getElem?_eq_getElem hj]⟩
structure LRel (w w' : World) (l : List UInt8) : Prop where
  a : Has w' w.heap.size (l.map bv) 5
  g : w.grownBy w' none
theorem LRel.set {w w' : World} {l : List UInt8} (h : LRel w w' l) (i : Nat) (x : UInt8) (v : Value) (hv : v = bv x) : LRel w (w'.setCell ⟨w.heap.size, i, none⟩ v) (l.set i x) := by
  subst hv; refine ⟨?_, gr_new h.g (gr_set _ _ _ _) (Nat.le_refl _)⟩; rw [List.map_set]; exact h.a.setCell i (bv x)
theorem laid_any (a : Option Addr) (n c : Nat) (t : List UInt8) (w : World) (hl : BytesOf w a n c t) (hn : n ≤ 4294967296) :
    Calls prog 242 #[.slice a n c] w fun e w' => ∃ size, size = (t ++ Sha.padOf t.length).length ∧ e = .returned (.slice (some ⟨w.heap.size, 0, none⟩) size size) ∧ Has w' w.heap.size ((t ++ Sha.padOf t.length).map bv) 5 ∧ w.grownBy w' none := by
  have HL : Kp (BytesOf w a n c t) := ⟨hl⟩; obtain ⟨size, hs⟩ : ∃ s, (n + 72) / 64 * 64 = s := ⟨_, rfl⟩; have hs1 : n + 9 ≤ size := by omega
  have hs2 : size ≤ 4294967400 := by omega
  have hs' : ((n : Int) + 9 + 63) / 64 * 64 = (size : Int) := by omega
  have hmk := make28 size (by omega); have HS : Kp ((n + 72) / 64 * 64 = size) := ⟨hs⟩; clear hl hs; go_enter func242, ntmps242
  go_wp2
  go_loopw [5] (fun i w' => ∃ k : Nat, k ≤ n ∧ i = .int .i64 k ∧ Kp (LRel w w' (cpTo t size k))) (fun i _ => n - (intOf i).toNat)
  case atStart => exact ⟨0, by omega, rfl, ⟨by
    have : cpTo t size 0 = List.replicate size 0 := by simp [cpTo]
    rw [this]; exact ⟨by have := Has.newA w (Array.replicate size (bv 0)) 5; simpa using this, gAl _ _ _⟩⟩⟩
  case round =>
    obtain ⟨k, hk, rfl, hrel⟩ := hrel; by_cases hlt : k < n
    · obtain ⟨B, o, rfl, hat⟩ := HL.out.at_ (by omega); have htl := HL.out.len; obtain ⟨x, hx⟩ : ∃ x, t.getD k 0 = x := ⟨_, rfl⟩
      have hc : wr.cell? ⟨B, o + k, none⟩ = some (.int .u8 x.toNat) := by
        rw [← hx]; refine hrel.out.g.cell (hat k (t.getD k 0) ?_) (by simp); simp [List.getD, show k < t.length by omega]
      obtain ⟨v0, hc0⟩ := hrel.out.a.some k (by rw [List.length_map, cpTo_len t size k (by omega) (by omega)]; omega); have hf := hrel.out.a.frozen k; have HX : Kp (t.getD k 0 = x) := ⟨hx⟩; (have hks : (k : Int) < (size : Int) := by omega); clear hat hx
      go_wp2
      refine ⟨⟨k + 1, by omega, by go_num, ⟨?_⟩⟩, ?_⟩
      · rw [← cpTo_step t size k (by omega) (by omega), HX.out]; exact hrel.out.set k x _ rfl
      · simp [intOf]; omega
    · have hkn : k = n := by omega
      have H1 : Kp (LRel w (wr.setCell ⟨w.heap.size, n, none⟩ (.int .u8 128)) (base8 t size ++ endTo t.length 0)) := ⟨by
        have h := hrel.out.set n 128 (.int .u8 128) rfl; have htl := HL.out.len; rw [hkn, ← htl, base8_start t size (by omega)] at h
        rw [← htl]; exact h⟩
      have htl := HL.out.len; obtain ⟨v0, hc0⟩ := hrel.out.a.some n (by rw [List.length_map, cpTo_len t size k (by omega) (by omega)]; omega); clear htl; have hf := hrel.out.a.frozen n; (have hns : (n : Int) < (size : Int) := by omega); clear hrel
      go_wp2
      go_loopw [7] (fun i w' => ∃ k : Nat, k ≤ 8 ∧ i = .int .i64 k ∧ Kp (LRel w w' (base8 t size ++ endTo t.length k))) (fun i _ => 8 - (intOf i).toNat)
      case atStart => exact ⟨0, by omega, rfl, H1⟩
      case round =>
        obtain ⟨i, hi, rfl, hrel⟩ := hrel; by_cases hli : i < 8
        · have htl := HL.out.len; obtain ⟨v1, hc1⟩ := hrel.out.a.some (size - 1 - i) (by rw [List.length_map, List.length_append, base8_len t size (by omega), endTo]; simp [Sha.len8_len]; omega); have hf1 := hrel.out.a.frozen (size - 1 - i); (have hidx : ((size : Int) - 1 - (i : Int)).toNat = size - 1 - i := by omega); clear htl
          go_wp2
          refine ⟨⟨i + 1, by omega, by go_num, ⟨?_⟩⟩, ?_⟩
          · have htl := HL.out.len; have hb := base8_len t size (by omega); have h := hrel.out.set (size - 1 - i) ((Sha.len8 t.length).getD (7 - i) 0) (.int .u8 ((n : Int) * 8 / 2 ^ (8 * i) % 256)) (by rw [htl, len_byte n hn i hli]); rw [List.set_append_right _ _ (by omega), hb, show size - 1 - i - (size - 8) = 7 - i by omega, end_step _ _ i hli rfl] at h; exact h
          · simp [intOf]; omega
        · have HE : Kp (Has wr w.heap.size ((t ++ Sha.padOf t.length).map bv) 5 ∧ w.grownBy wr none ∧ size = (t ++ Sha.padOf t.length).length) := ⟨by
            (have hi8 : i = 8 := by omega); have htl := HL.out.len; have h := hrel.out; (have hsz : size = (t.length + 72) / 64 * 64 := by rw [htl]; exact HS.out.symm); rw [hi8, base8_pad t size hsz] at h; refine ⟨h.a, h.g, ?_⟩; rw [← base8_pad t size hsz, List.length_append, base8_len t size (by omega), endTo]
            simp [Sha.len8_len]; omega⟩
          clear hrel
          go_wp2
          go_ret; exact ⟨size, HE.out.2.2, rfl, HE.out.1, HE.out.2.1⟩
end Go.Proofs.YtldnpebnpbahjaaGreatDoor
