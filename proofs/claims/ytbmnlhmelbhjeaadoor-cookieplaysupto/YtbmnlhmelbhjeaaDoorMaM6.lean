/- mac.Derive -/
import Derived.Test.YtbmnlhmelbhjeaaDoorMaM5
namespace Go.Proofs.YtbmnlhmelbhjeaaDoor
open Go Go.RowKit

/-- a list of strings -/
structure Strs (w : World) (a : Option Addr) (n : Nat) (ps : List ByteArray) : Prop where
  len : ps.length = n
  at_ : 0 < n → ∃ B o, a = some ⟨B, o, none⟩ ∧ ∀ j p, ps[j]? = some p → w.cell? ⟨B, o + j, none⟩ = some (.string p)
theorem Strs.kept {w w' : World} {a : Option Addr} {n : Nat} {ps : List ByteArray} (h : Strs w a n ps) (hg : w.grownBy w' none) : Strs w' a n ps := by
  refine ⟨h.len, fun hn => ?_⟩
  obtain ⟨B, o, h1, h3⟩ := h.at_ hn
  exact ⟨B, o, h1, fun j x hx => hg.cell (h3 j x hx) (by simp)⟩
theorem bytes_row (w : World) (bo : Nat) (x : UInt8) (hb : bo < w.heap.size) : Bytes bo (w.alloc (.cells #[.int .u8 x.toNat] 5)) (some ⟨w.heap.size, 0, none⟩) 1 1 [x] :=
  ⟨rfl, Nat.le_refl _, fun _ => ⟨_, 0, rfl, by omega, fun j y hy => by
    rw [Nat.zero_add]
    refine (Has.newA w #[.int .u8 x.toNat] 5).cellv j _ ?_
    match j, hy with
    | 0, hy => obtain rfl : x = y := by simpa using hy
               rfl
    | j + 1, hy => simp at hy⟩⟩
theorem said_step (use : List UInt8) (ps : List (List UInt8)) (i : Nat) (hi : i < ps.length) : Mac.said use (ps.take (i + 1)) = Mac.said use (ps.take i) ++ Mac.len8 (ps[i]).length ++ ps[i] := by
  rw [Mac.said, Mac.flat_snoc ps i hi, Mac.said]; simp
theorem said_le (use : List UInt8) (ps : List (List UInt8)) (i : Nat) : (Mac.said use (ps.take i)).length ≤ (Mac.said use ps).length := by
  have := Mac.flat_le ps i
  simp only [Mac.said, List.length_append, List.length_cons]; omega
theorem flat_many (ps : List (List UInt8)) : 8 * ps.length ≤ (Mac.flat ps).length := by
  induction ps with
  | nil => simp
  | cons p r ih => simp only [Mac.flat, List.flatMap_cons, List.length_append, Mac.len8_len, List.length_cons] at *; omega
def deriveB (key use : ByteArray) (ps : List ByteArray) : ByteArray := ⟨(Mac.hmac (sl key) (Mac.said (sl use) (ps.map sl))).toArray⟩

set_option maxRecDepth 100000 in
set_option maxHeartbeats 4000000 in
theorem derive_gen (key use : ByteArray) (a : Option Addr) (n c : Nat) (ps : List ByteArray) (w : World) (hk : Kc w) (hp : Strs w a n ps) (h1 : key.size ≤ 2305843009213693952) (hu : use.size ≤ 2305843009213693952) (hn : n ≤ 2305843009213693952) (hps : ∀ (j : Nat) (p : ByteArray), ps[j]? = some p → p.size ≤ 9223372036854775807) :
    Calls Tryd.prog 14 #[.string key, .string use, .slice a n c] w fun e w' => e = .returned (.string (deriveB key use ps)) ∧ w.grownBy w' none := by
  have HK : Keep (Kc w) := ⟨hk⟩
  have HP : Keep (Strs w a n ps) := ⟨hp⟩
  have HL : Keep ((Mac.keyOf (sl key)).length = 64 ∧ (Mac.kx 54 (Mac.keyOf (sl key))).length = 64) := ⟨Mac.keyOf_len _, by rw [Mac.kx_len, Mac.keyOf_len]⟩
  have HPS : Keep (∀ (j : Nat) (p : ByteArray), ps[j]? = some p → p.size ≤ 9223372036854775807) := ⟨hps⟩
  clear hk hp hps
  go_enter Tryd.func14, Tryd.ntmps14
  go_wp2_with (first
    | (go_at_call 27; refine (mpad_any key _ HK.out (by omega)).mono ?_; rintro e w1 ⟨rfl, g1⟩
       have H1 : Keep (w.grownBy w1 none ∧ Kc w1) := ⟨g1, HK.out.kept g1 (by simp)⟩
       generalize hq : Mac.keyOf (sl key) = q at HL ⊢
       have HQ : Keep (Mac.keyOf (sl key) = q) := ⟨hq⟩
       clear g1 hq)
    | (refine wpList_store_mid rfl 61 _ _ rfl _ _ _ rfl rfl ((Has.newA w1 _ 61).there 0 _ (by rw [List.size_toArray, List.length_map, HL.out.1]; decide)) (info47 q HL.out.1) (bytes_one _) ?_
       generalize hw2 : World.setCells _ _ _ _ = w2
       obtain ⟨h2, g2⟩ := keyVar w1 _ rfl q HL.out.1 w2 hw2
       have H2 : Keep (Has w2 w1.heap.size (q.map bv) 61 ∧ w.grownBy w2 none ∧ Kc w2) := ⟨h2, H1.out.1.trans g2, H1.out.2.kept g2 (by simp)⟩
       clear h2 g2 hw2)
    | (refine wpList_load_mid rfl 61 _ rfl _ _ rfl _ _ H2.out.1.range under41 rfl (info47 q HL.out.1) ?_))
  refine (begin_any q _ 54 w2 ⟨rfl⟩ HL.out.1 H2.out.2.2).mono ?_
  rintro e w3 ⟨bo, rfl, h3, g3, hbo⟩
  have H3 : Keep (TS w w3 w1.heap.size bo q (Mac.kx 54 q)) := ⟨TS.start H2.out.1 H2.out.2.1 H2.out.2.2 h3 g3 hbo⟩
  clear h3 g3 hbo
  go_wp2_with (first
    | (go_at_call 29; refine (mwrite_gen bo _ use w3 H3.out.h H3.out.kc H3.out.n2 (by omega)).mono ?_; rintro e w4 ⟨rfl, h4, g4⟩
       have H4 : Keep (TS w w4 w1.heap.size bo q (Mac.kx 54 q ++ sl use)) := ⟨H3.out.wrote h4 g4⟩
       clear h4 g4))
  refine (write_gen bo _ 1 1 _ [0] _ (H4.out.grow (World.grownBy_alloc _ _ none)).h (H4.out.grow (World.grownBy_alloc _ _ none)).kc H4.out.n2 (bytes_row w4 bo 0 H4.out.h.lt) (by decide)).mono ?_
  rintro e w5 ⟨rfl, h5, g5⟩
  have H5 : Keep (TS w w5 w1.heap.size bo q (Mac.kx 54 q ++ Mac.said (sl use) ((ps.map sl).take 0))) := ⟨by
    have := (H4.out.grow (World.grownBy_alloc _ _ none)).wrote h5 g5
    rw [List.append_assoc] at this
    exact this⟩
  clear h5 g5
  go_wp2
  go_loopw [23] (fun t w' => ∃ i : Nat, i ≤ n ∧ t = .int .i64 i ∧ Keep (TS w w' w1.heap.size bo q (Mac.kx 54 q ++ Mac.said (sl use) ((ps.map sl).take i)))) (fun t _ => n - (intOf t).toNat)
  case atStart => exact ⟨0, by omega, rfl, H5⟩
  case round =>
    obtain ⟨i, hi, rfl, hrel⟩ := hrel
    have hpl := HP.out.len
    by_cases hli : i < n
    · obtain ⟨B, o, rfl, hat⟩ := HP.out.at_ (by omega)
      obtain ⟨p, hp⟩ : ∃ p, ps[i]? = some p := ⟨_, List.getElem?_eq_getElem (by omega)⟩
      have hc : wr.cell? ⟨B, o + i, none⟩ = some (.string p) := hrel.out.g.cell (hat i p hp) (by simp)
      have hil : i < (ps.map sl).length := by rw [List.length_map, hpl]; exact hli
      have hpi : (ps.map sl)[i] = sl p := by
        rw [List.getElem_map]; congr 1
        exact (List.getElem?_eq_some_iff.1 hp).2
      have hst := said_step (sl use) (ps.map sl) i hil
      rw [hpi, sl_len] at hst
      have HST : Keep (Mac.said (sl use) ((ps.map sl).take (i + 1)) = Mac.said (sl use) ((ps.map sl).take i) ++ Mac.len8 p.size ++ sl p) := ⟨hst⟩
      have hps : p.size ≤ 9223372036854775807 := HPS.out i p hp
      clear hat hp hil hpi hst
      go_wp2_with (first
        | (go_at_call 31; refine (wnum_gen bo p.size _ wr hrel.out.h hrel.out.kc hrel.out.n2).mono ?_; rintro e w6 ⟨rfl, h6, g6⟩
           have H6 : Keep (TS w w6 w1.heap.size bo q (Mac.kx 54 q ++ (Mac.said (sl use) ((ps.map sl).take i) ++ Mac.len8 p.size))) := ⟨by rw [← List.append_assoc]; exact hrel.out.wrote h6 g6⟩
           clear h6 g6)
        | (go_at_call 29; refine (mwrite_gen bo _ p w6 H6.out.h H6.out.kc H6.out.n2 hps).mono ?_; rintro e w7 ⟨rfl, h7, g7⟩
           have H7 : Keep (TS w w7 w1.heap.size bo q (Mac.kx 54 q ++ Mac.said (sl use) ((ps.map sl).take (i + 1)))) := ⟨by rw [HST.out, ← List.append_assoc]; exact H6.out.wrote h7 g7⟩
           clear h7 g7))
      refine ⟨⟨i + 1, by omega, by go_num, H7⟩, ?_⟩
      simp [intOf]; omega
    · have H8 : Keep (TS w wr w1.heap.size bo q (Mac.kx 54 q ++ Mac.said (sl use) (ps.map sl))) := ⟨by
        have := hrel.out
        rwa [List.take_of_length_le (by rw [List.length_map, hpl]; omega)] at this⟩
      clear hrel
      go_wp2_with (first
        | (refine wpList_load_mid rfl 61 _ rfl _ _ rfl _ _ H8.out.k.range under41 rfl (info47 q HL.out.1) ?_)
        | (go_at_call 32; refine (end_gen q _ bo _ wr ⟨rfl⟩ HL.out.1 H8.out.h H8.out.kc).mono ?_; rintro e w9 ⟨rfl, g9⟩
           have H9 : Keep (w.grownBy w9 none) := ⟨H8.out.g.trans g9⟩
           clear g9))
      go_ret
      exact ⟨by rw [deriveB, Mac.hmac, HQ.out]; rfl, H9.out⟩
theorem derive_any (key use : ByteArray) (a : Option Addr) (n c : Nat) (ps : List ByteArray) (w : World) (hk : Kc w) (hp : Strs w a n ps) (h1 : key.size ≤ 2305843009213693952) (h2 : (Mac.said (sl use) (ps.map sl)).length ≤ 2305843009213693952) :
    Calls Tryd.prog 14 #[.string key, .string use, .slice a n c] w fun e w' => e = .returned (.string (deriveB key use ps)) ∧ w.grownBy w' none := by
  refine derive_gen key use a n c ps w hk hp h1 ?_ ?_ (fun j p hpj => ?_)
  · simp only [Mac.said, List.length_append, List.length_cons, sl_len] at h2
    omega
  · have := flat_many (ps.map sl)
    simp only [Mac.said, List.length_append, List.length_cons] at h2
    rw [List.length_map, hp.len] at this; omega
  · have hjl := (List.getElem?_eq_some_iff.1 hpj).1
    have h3 := said_le (sl use) (ps.map sl) (j + 1)
    rw [said_step (sl use) (ps.map sl) j (by rw [List.length_map]; exact hjl), List.length_append, List.getElem_map, (List.getElem?_eq_some_iff.1 hpj).2, sl_len] at h3
    omega
end Go.Proofs.YtbmnlhmelbhjeaaDoor
