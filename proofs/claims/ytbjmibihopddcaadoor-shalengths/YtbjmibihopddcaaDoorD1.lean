import Derived.Test.YtbjmibihopddcaaDoorB2
import Derived.Test.YtbjmibihopddcaaDoorC5
namespace Go.Proofs.YtbjmibihopddcaaDoor
open Go Go.RowKit

/-- where ShaLengths stands: n bytes in the row -/
structure LnRel (w w' : World) (v : Value) (by_ : UInt8) (n : Nat) : Prop where
  o : w'.ownsRow w.heap.size 5 1 v n ((List.replicate n by_).map bv)
  g : w.grownBy w' none
  kc : Kc w'
  rk : RK w'

theorem LnRel.bytes {w w' : World} {a : Option Addr} {c : Nat} {by_ : UInt8} {n : Nat} (h : LnRel w w' (.slice a n c) by_ n) : BytesOf w' a n c (List.replicate n by_) := by
  obtain ⟨a', c', e, hb, _⟩ := own_bytes h.o
  injection e with e1 e2 e3
  subst e1 e3
  exact hb
theorem LnRel.nil {w w' : World} {a : Option Addr} {c : Nat} {by_ : UInt8} {n : Nat} (h : LnRel w w' (.slice a n c) by_ n) : a = none → c = 0 := by
  obtain ⟨a', c', e, _, hb⟩ := own_bytes h.o
  injection e with e1 e2 e3
  subst e1 e3
  exact hb
theorem one_nil (W : World) (a : Option Addr) (n c : Nat) (h : a = none → c = 0) : ∀ B o, (some ⟨W.heap.size, 0, none⟩ : Option Addr) = some ⟨B, o, none⟩ → ∀ j a' n' c', j < 1 → (W.alloc (.cells #[.slice a n c] 28)).cell? ⟨B, o + j, none⟩ = some (.slice a' n' c') → a' = none → c' = 0 := by
  intro B o e j a' n' c' hj hc hn
  have e' : W.heap.size = B ∧ 0 = o := by simpa using e
  obtain ⟨rfl, rfl⟩ := e'
  obtain rfl : j = 0 := by omega
  rw [(Has.newA W #[.slice a n c] 28).cell] at hc
  have hc' : Value.slice a n c = Value.slice a' n' c' := by simpa using hc
  injection hc' with e1 e2 e3
  rw [← e3]; exact h (by rw [e1]; exact hn)
structure InRel (w w' : World) (v : Value) (by_ : UInt8) (n b i : Nat) : Prop where
  ln : LnRel w w' v by_ n
  h : HashOf w' b (List.replicate (min i n) by_)
  hb : w.heap.size ≤ b
  ne : v.ownBlock ≠ some b
theorem LnRel.kept {w w' w2 : World} {v : Value} {by_ : UInt8} {n : Nat} {row : Option Nat} (h : LnRel w w' v by_ n) (hg : w'.grownBy w2 row) (hr : ∀ j, row = some j → w.heap.size ≤ j ∧ v.ownBlock ≠ some j) (h3 : 3 ≤ w.heap.size) : LnRel w w2 v by_ n := by
  have hne : ∀ k, k < w.heap.size → some k ≠ row := fun k hk e => by have := (hr k e.symm).1; omega
  refine ⟨h.o.kept hg ?_, gr_row h.g hg (fun j hj => (hr j hj).1), h.kc.kept hg (hne 0 (by omega)), ⟨fun j hj => hg.cell (h.rk.r j hj) (hne 1 (by omega)), fun j hj => hg.cell (h.rk.c j hj) (hne 2 (by omega))⟩⟩
  cases hv : v.ownBlock with
  | none => exact .inl rfl
  | some j => refine .inr (fun e => ?_); exact (hr j e.symm).2 hv
theorem LnRel.app {w w5 : World} {a : Option Addr} {c : Nat} {by_ : UInt8} {n : Nat} (h : LnRel w w5 (.slice a n c) by_ n) (h3 : 3 ≤ w.heap.size) (hn : n ≤ 131 := by omega) :
    ∃ a3 c3 w7, (Builtin.append_ #[28, 28] 28 #[.slice a n c, .slice (some ⟨w5.heap.size, 0, none⟩) 1 1]).run Tryd.prog (w5.alloc (.cells #[.int .u8 by_.toNat] 5)) = .ok (.slice a3 (n + 1) c3) w7 ∧ Keep (LnRel w w7 (.slice a3 (n + 1) c3) by_ (n + 1)) := by
  have g6 := World.grownBy_alloc w5 (.cells #[.int .u8 by_.toNat] 5) none
  have h6 := h.kept g6 (fun j hj => by cases hj) h3
  have hb : BytesOf (w5.alloc (.cells #[.int .u8 by_.toNat] 5)) (some ⟨w5.heap.size, 0, none⟩) 1 1 [by_] := bytes_new _ w5.heap.size 1 1 [by_] (0, 0) 5 (heap_alloc_last w5 _) rfl (Nat.le_refl _)
  obtain ⟨v', w7, hap, hown, hgr⟩ := app28 _ w.heap.size _ n _ _ 1 1 [by_] h6.o hb (fun e => by cases e) (by omega) (by have := h6.g.size; exact this)
  have e : (List.replicate n by_).map bv ++ [by_].map bv = (List.replicate (n + 1) by_).map bv := by
    rw [← List.map_append, ← List.replicate_succ']
  rw [e] at hown
  obtain ⟨a3, c3, rfl, _, _⟩ := own_bytes hown
  refine ⟨a3, c3, w7, hap, ⟨hown, ?_, ?_, ?_⟩⟩
  · exact gr_row h6.g hgr (fun j hj => (h6.o.lt j hj).1)
  · refine h6.kc.kept hgr (fun e => ?_)
    have := (h6.o.lt _ e.symm).1; omega
  · refine ⟨fun j hj => hgr.cell (h6.rk.r j hj) (fun e => ?_), fun j hj => hgr.cell (h6.rk.c j hj) (fun e => ?_)⟩
    · have := (h6.o.lt _ e.symm).1; simp at this; omega
    · have := (h6.o.lt _ e.symm).1; simp at this; omega
theorem LnRel.start {w wr w2 : World} {v : Value} {by_ : UInt8} {n : Nat} (h : LnRel w wr v by_ n) (h2 : HashOf w2 wr.heap.size []) (g2 : wr.grownBy w2 none) (h3 : 3 ≤ w.heap.size) : InRel w w2 v by_ n wr.heap.size 0 := by
  refine ⟨h.kept g2 (fun j hj => by cases hj) h3, by simpa using h2, h.g.size, fun e => ?_⟩
  have := (h.o.lt _ e).2
  omega
/-- a piece of the row -/
theorem LnRel.piece {w w' : World} {a : Option Addr} {c : Nat} {by_ : UInt8} {n b : Nat} (h : LnRel w w' (.slice a n c) by_ n) (hne : (Value.slice a n c).ownBlock ≠ some b) (hn : 0 < n) : ∃ g, a = some ⟨g, 0, none⟩ ∧ n ≤ c ∧ ∀ i k, i ≤ k → k ≤ n → Bytes b w' (some ⟨g, i, none⟩) (k - i) (c - i) (List.replicate (k - i) by_) := by
  obtain ⟨a', c', e, hb, _⟩ := own_bytes h.o
  injection e with e1 e2 e3
  subst e1 e3
  rcases h.o.2 with ⟨e, _⟩ | ⟨g, cap, cur, e, _, hheap, h1, _⟩
  · injection e with _ e2 _; omega
  · injection e with e1 e2 e3
    subst e1 e3
    refine ⟨g, rfl, h1, fun i k hik hkn => ⟨by simp, by omega, fun hpos => ⟨g, i, rfl, fun e => hne (by rw [e]; rfl), fun j x hx => ?_⟩⟩⟩
    obtain ⟨B, o, e, hc⟩ := hb.at_ hn
    have e' : g = B ∧ 0 = o := by simpa using e
    obtain ⟨rfl, rfl⟩ := e'
    have hj : j < k - i := by simpa using (List.getElem?_eq_some_iff.1 hx).1
    have := hc (i + j) x (by
      rw [List.getElem?_replicate] at hx ⊢
      rw [if_pos (by omega)] at hx ⊢
      exact hx)
    rwa [Nat.zero_add] at this
theorem InRel.step {w w' w2 : World} {v : Value} {by_ : UInt8} {n b i k : Nat} (h : InRel w w' v by_ n b i) (hi : i < n) (hik : i ≤ k) (i2 : Nat) (hk2 : min i2 n = k) (h2 : HashOf w2 b (List.replicate (min i n) by_ ++ List.replicate (k - i) by_)) (hg : w'.grownBy w2 (some b)) (h3 : 3 ≤ w.heap.size) : InRel w w2 v by_ n b i2 := by
  refine ⟨h.ln.kept hg (fun j hj => by obtain rfl := Option.some.inj hj; exact ⟨h.hb, h.ne⟩) h3, ?_, h.hb, h.ne⟩
  rw [hk2]
  rw [List.replicate_append_replicate, show min i n + (k - i) = k by omega] at h2
  exact h2

set_option maxRecDepth 100000 in
set_option maxHeartbeats 16000000 in
theorem lengths_any (by_ : UInt8) (sz : Int) (w : World) (hk : Kc w) (hrk : RK w) (hw3 : 3 ≤ w.heap.size) :
    Calls Tryd.prog 5 #[.int .u8 by_.toNat, .int .i64 sz] w fun e w' => e = .returned (.bool true) ∧ w.grownBy w' none := by
  have HK : Keep (Kc w ∧ RK w) := ⟨hk, hrk⟩
  clear hk hrk
  obtain ⟨d, hd⟩ : ∃ d, sz.tmod 70 = d := ⟨_, rfl⟩
  have hd1 : -69 ≤ d ∧ d ≤ 69 := by
    have h1 := Int.tmod_lt_of_pos sz (b := 70) (by omega)
    have h2 := Int.tmod_lt_of_pos (-sz) (b := 70) (by omega)
    rw [Int.neg_tmod] at h2
    omega
  by_cases hneg : d < 0
  all_goals
    obtain ⟨s, hs0, hs1, hs2⟩ : ∃ s : Nat, (if d < 0 then -d + 1 else d + 1) = (s : Int) ∧ 1 ≤ s ∧ s ≤ 70 := ⟨(if d < 0 then -d + 1 else d + 1).toNat, by split <;> omega, by split <;> omega, by split <;> omega⟩
    have hB : decide (d < 0) = decide (d < 0) := rfl
    first | (rw [if_pos hneg] at hs0; replace hB : decide (d < 0) = true := by simpa using hneg) | (rw [if_neg hneg] at hs0; replace hB : decide (d < 0) = false := by simpa using hneg)
    go_enter Tryd.func5, Tryd.ntmps5
    go_wp2_with (go_at_call 11; refine (alive_any _ HK.out.1).mono ?_; rintro e w1 ⟨rfl, hg1⟩; have H1 : Keep (w.grownBy w1 none) := ⟨hg1⟩; clear hg1)
    have H2 : Keep (LnRel w w1 (.slice none 0 0) by_ 0) := ⟨World.ownsRow_nil _ _ _ _, H1.out, HK.out.1.kept H1.out (by simp), HK.out.2.kept H1.out⟩
    clear H1
    go_loopw [5, 6] (fun v t w' => ∃ (n : Nat) (a : Option Addr) (c : Nat), n ≤ 131 ∧ t = .int .i64 n ∧ v = .slice a n c ∧ Keep (LnRel w w' (.slice a n c) by_ n)) (fun _ t _ => 131 - (intOf t).toNat)
    case atStart => exact ⟨0, none, 0, by omega, rfl, rfl, H2⟩
    case round =>
      obtain ⟨n, a, c, hn, rfl, rfl, hrel⟩ := hrel
      by_cases hln : n ≤ 130
      · go_wp2_with (go_at_call 7; refine (new_any _).mono ?_; rintro e w2 ⟨rfl, h2, g2⟩; have H3 : Keep (InRel w w2 (.slice a n c) by_ n wr.heap.size 0) := ⟨hrel.out.start h2 g2 hw3⟩; clear h2 g2)
        generalize wr.heap.size = b at H3 ⊢
        have hb0 : (0 : Nat) ≠ b := by have := H3.out.hb; omega
        go_loopw [8] (fun t w' => ∃ i : Nat, i ≤ n + 70 ∧ t = .int .i64 i ∧ Keep (InRel w w' (.slice a n c) by_ n b i)) (fun t _ => n + 70 - (intOf t).toNat)
        case atStart => exact ⟨0, by omega, rfl, H3⟩
        case round =>
          obtain ⟨i, hi, rfl, hin⟩ := hrel
          clear H3
          by_cases hli : i < n
          · obtain ⟨g, rfl, hnc, hpc⟩ := hin.out.ln.piece hin.out.ne (by omega)
            by_cases hks : i + s ≤ n
            · have HB : Keep (Bytes b wr (some ⟨g, i, none⟩) s (c - i) (List.replicate (i + s - i) by_)) := ⟨by
                have h := hpc i (i + s) (by omega) hks
                have e : i + s - i = s := by omega
                rw [e] at h ⊢; exact h⟩
              have hci : i < c := by omega
              clear hpc
              go_wp2_with (go_at_call 12; refine (write_any b _ _ _ _ _ _ hin.out.h hin.out.ln.kc hb0 HB.out (by simp; omega)).mono ?_; rintro e w3 ⟨rfl, h3, g3⟩; have H4 : Keep (InRel w w3 (.slice (some ⟨g, 0, none⟩) n c) by_ n b (i + s)) := ⟨hin.out.step hli (by omega) (i + s) (by omega) h3 g3 hw3⟩; clear h3 g3)
              refine ⟨⟨i + s, by omega, by go_num, H4⟩, ?_⟩
              simp [intOf]; omega
            · have HB : Keep (Bytes b wr (some ⟨g, i, none⟩) (n - i) (c - i) (List.replicate (n - i) by_)) := ⟨hpc i n (by omega) (Nat.le_refl _)⟩
              have hci : i < c := by omega
              clear hpc
              go_wp2_with (go_at_call 12; refine (write_any b _ _ _ _ _ _ hin.out.h hin.out.ln.kc hb0 HB.out (by simp; omega)).mono ?_; rintro e w3 ⟨rfl, h3, g3⟩; have H4 : Keep (InRel w w3 (.slice (some ⟨g, 0, none⟩) n c) by_ n b (i + s)) := ⟨hin.out.step hli (by omega) (i + s) (by omega) h3 g3 hw3⟩; clear h3 g3)
              refine ⟨⟨i + s, by omega, by go_num, H4⟩, ?_⟩
              simp [intOf]; omega
          · have HI : Keep (HashOf wr b (List.replicate n by_) ∧ LnRel w wr (.slice a n c) by_ n) := ⟨by
              have h := hin.out.h
              rw [show min i n = n by omega] at h
              exact h, hin.out.ln⟩
            clear hin
            obtain ⟨S, hS⟩ : ∃ x, Sha.sha (List.replicate n by_) = x := ⟨_, rfl⟩
            have HSQ : Keep (Sha.sha (List.replicate n by_) = S) := ⟨hS⟩
            have hSl : S.length = 32 := by rw [← hS]; exact sha_len _
            have heq := eq25 S hSl
            clear hS
            go_wp2_with (first
              | (go_at_call 9; refine (sum_any b (List.replicate n by_) _ HI.out.1 HI.out.2.kc (by simp; omega)).mono ?_; rintro e w4 ⟨rfl, g4⟩
                 have H4 : Keep (LnRel w w4 (.slice a n c) by_ n) := ⟨HI.out.2.kept g4 (fun j hj => by cases hj) hw3⟩
                 rw [HSQ.out]
                 clear g4)
              | (go_at_call 13; (refine (rof_any _ 1 1 [List.replicate n by_] _ (parts_one w4 _ _ _ _ H4.out.bytes) (one_nil w4 a n c H4.out.nil) (H4.out.rk.kept (World.grownBy_alloc _ _ _)) (by have := H4.out.g.size; rw [heap1]; omega) (by decide) (by simp; omega)).mono ?_); rintro e w5 ⟨rfl, g5⟩
                 have H5 : Keep (LnRel w w5 (.slice a n c) by_ n) := ⟨(H4.out.kept (World.grownBy_alloc _ _ none) (fun j hj => by cases hj) hw3).kept g5 (fun j hj => by cases hj) hw3⟩
                 rw [show ([List.replicate n by_] : List (List UInt8)).flatten = List.replicate n by_ by simp, HSQ.out]
                 clear g5)
              | (at_builtin
                 obtain ⟨a3, c3, w7, hap, H7⟩ := H5.out.app hw3
                 refine wpList_append_run _ rfl _ _ 28 rfl _ _ rfl rfl hap ?_
                 clear hap))
            refine ⟨⟨n + 1, a3, c3, by omega, by go_num, rfl, H7⟩, ?_⟩
            simp [intOf]; omega
      · have HE : Keep (w.grownBy wr none) := ⟨hrel.out.g⟩
        clear hrel
        go_wp2
        go_ret
        exact ⟨rfl, HE.out⟩
end Go.Proofs.YtbjmibihopddcaaDoor
