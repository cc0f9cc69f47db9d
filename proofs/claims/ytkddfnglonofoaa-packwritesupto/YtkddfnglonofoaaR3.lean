/- the reference's Writer: Number, Bytes, Done. -/
import Derived.Test.YtkddfnglonofoaaR2
namespace Go.Proofs.Ytkddfnglonofoaa
open Go Go.RowKit

theorem VDid.trans {w w1 w2 : World} {vb : Nat} {st st2 : WS} (h : VDid w w1 vb st) (k : VDid w1 w2 vb st2) : VDid w w2 vb st2 := ⟨k.a, h.f.trans k.f⟩
theorem VDid.grown {w w1 w2 : World} {vb : Nat} {st : WS} (h : VDid w w1 vb st) (hg : w1.grownBy w2 none) : VDid w w2 vb st := ⟨h.a.kept hg, h.f.trans (Fr.ofNone hg)⟩
theorem VDid.ahead {w w1 w2 : World} {vb : Nat} {st : WS} (hg : w.grownBy w1 none) (h : VDid w1 w2 vb st) : VDid w w2 vb st := ⟨h.a, (Fr.ofNone hg).trans h.f⟩
/-- the text was set -/
theorem VAt.set {w : World} {vb : Nat} {l : List UInt8} (h : VAt w vb (some l)) (s : ByteArray) : VDid w (w.setCell ⟨vb, 0, none⟩ (.string s)) vb (some (sl s)) := by
  obtain ⟨s0, h1, h2⟩ := h.h
  exact ⟨⟨s, h1.setCell 0 _, fun l e => (by cases e; rfl)⟩, Fr.ofSome (S := fun i => i = vb) (gr_set _ _ _ _) rfl⟩
theorem div_zero_fits (x : Nat) (k : Nat) : x / 256 ^ k = 0 ↔ x < 256 ^ k := by
  rw [Nat.div_eq_zero_iff]
  have : 256 ^ k ≠ 0 := by simp
  omega
set_option maxRecDepth 100000 in
set_option maxHeartbeats 4000000 in
theorem vNumber_c (vb : Nat) (st : WS) (x : Nat) (size : Int) (w : World) (h : VAt w vb st) (hx : x < 18446744073709551616) (hl : (st.getD []).length ≤ 140737488355320) :
    Calls Try.prog 26 #[.pointer (some ⟨vb, 0, none⟩), .int .u64 x, .int .i64 size] w fun e w' => e = .returned (.tuple #[]) ∧ VDid w w' vb (wNum st x size) := by
  have HH : Keep (VAt w vb st) := ⟨h⟩
  have HX : Keep (x < 18446744073709551616 ∧ (st.getD []).length ≤ 140737488355320) := ⟨hx, hl⟩
  clear h hx hl
  go_enter Try.func26, Try.ntmps26
  by_cases hs : sized size
  · have h1 : ¬ size < 1 := by have := hs.1; omega
    have h2 : ¬ size > 8 := by have := hs.2; omega
    have hF := fails_c vb st false w HH.out
    rw [Bool.or_false, if_neg (by simp)] at hF
    have HF := Keep.mk hF
    clear hF
    obtain ⟨k, rfl, hk8⟩ : ∃ k : Nat, size = k ∧ k ≤ 8 := ⟨size.toNat, by omega, by omega⟩
    have HS : Keep (sized (k : Int)) := ⟨hs⟩
    clear hs
    go_wp2_with fail
    refine HF.out.mono ?_
    rintro e w1 ⟨rfl, d1⟩
    have HD : Keep (VDid w w1 vb st) := ⟨d1⟩
    clear d1 HF
    cases st with
    | none =>
      have HN : Keep (wNum none x k = none) := ⟨by unfold wNum; split <;> rfl⟩
      simp only [Option.isNone_none]
      go_wp2_with fail
      refine bodyPost_ret (results_none rfl _ _ _) rfl ?_
      exact ⟨rfl, by rw [HN.out]; exact HD.out⟩
    | some l =>
      simp only [Option.isNone_some]
      go_wp2_with fail
      refine (digits_c x k w1 HX.out.1 hk8).mono ?_
      rintro e w2 ⟨rfl, g2⟩
      have HD2 : Keep (VDid w w2 vb (some l)) := ⟨HD.out.grown g2⟩
      clear HD g2
      by_cases hz : x / 256 ^ k = 0
      · have hfit : fitsU x k := ⟨HS.out, by rw [Int.toNat_natCast]; exact (div_zero_fits x k).1 hz⟩
        have HN : Keep (wNum (some l) x k = some (l ++ be k x)) := ⟨by unfold wNum; rw [if_pos hfit]; rfl⟩
        have hF := fails_c vb (some l) false w2 HD2.out.a
        rw [Bool.or_false, if_neg (by simp)] at hF
        have HF := Keep.mk hF
        clear hF hfit
        rw [hz]
        go_wp2_with fail
        refine HF.out.mono ?_
        rintro e w3 ⟨rfl, d3⟩
        have HD3 : Keep (VDid w w3 vb (some l)) := ⟨HD2.out.trans d3⟩
        clear d3 HF HD2
        simp only [Option.isNone_some]
        obtain ⟨s0, p1, p2⟩ := HD3.out.a.h
        have c0 : w3.cell? ⟨vb, 0, none⟩ = some (.string s0) := p1.cellv 0 _ rfl
        have f0 := p1.frozen 0
        have hsl : sl s0 = l := p2 l rfl
        have had := addS s0 ⟨(be k x).toArray⟩ (by
          have h1 := sz_mk' (be k x)
          rw [be_len] at h1
          have h2 : l.length ≤ 140737488355320 := HX.out.2
          rw [← hsl, sl_len] at h2
          omega)
        have HE : Keep (VDid w (w3.setCell ⟨vb, 0, none⟩ (.string (s0 ++ ⟨(be k x).toArray⟩))) vb (some (l ++ be k x))) := ⟨by
          have := HD3.out.trans (HD3.out.a.set (s0 ++ ⟨(be k x).toArray⟩))
          rwa [sl_app, hsl, sl_mk] at this⟩
        clear p1 p2 hsl HD3
        generalize (⟨(be k x).toArray⟩ : ByteArray) = sb at *
        go_wp2_with fail
        go_end0
        exact ⟨rfl, by rw [HN.out]; exact HE.out⟩
      · have hfit : ¬ fitsU x k := fun q => hz ((div_zero_fits x k).2 (by have := q.2; rwa [Int.toNat_natCast] at this))
        have HN : Keep (wNum (some l) x k = none) := ⟨by unfold wNum; rw [if_neg hfit]⟩
        have HF := Keep.mk (fails_c vb (some l) true w2 HD2.out.a)
        obtain ⟨y, hy⟩ : ∃ y, x / 256 ^ k = y := ⟨_, rfl⟩
        rw [hy] at hz ⊢
        have hz2 : ((y : Int) != 0) = true := by simp; omega
        have hz3 : ¬ ((y : Int) = 0) := by omega
        clear hfit hy
        go_wp2_with fail
        refine HF.out.mono ?_
        rintro e w3 ⟨rfl, d3⟩
        have HE : Keep (VDid w w3 vb none) := ⟨HD2.out.trans d3⟩
        clear d3 HF HD2
        simp only [Bool.or_true]
        go_wp2_with fail
        refine bodyPost_ret (results_none rfl _ _ _) rfl ?_
        exact ⟨rfl, by rw [HN.out]; exact HE.out⟩
  · have HN : Keep (wNum st x size = none) := ⟨by unfold wNum; rw [if_neg (fun q => hs q.1)]⟩
    have hF := fails_c vb st true w HH.out
    rw [Bool.or_true] at hF
    have HF := Keep.mk hF
    clear hF
    by_cases h1 : size < 1
    · clear hs
      go_wp2_with fail
      refine HF.out.mono ?_
      rintro e w1 ⟨rfl, d1⟩
      have HD : Keep (VDid w w1 vb none) := ⟨d1⟩
      clear d1 HF
      go_wp2_with fail
      refine bodyPost_ret (results_none rfl _ _ _) rfl ?_
      exact ⟨rfl, by rw [HN.out]; exact HD.out⟩
    · have h2 : size > 8 := by
        have : ¬ (1 ≤ size ∧ size ≤ 8) := hs
        omega
      clear hs
      go_wp2_with fail
      refine HF.out.mono ?_
      rintro e w1 ⟨rfl, d1⟩
      have HD : Keep (VDid w w1 vb none) := ⟨d1⟩
      clear d1 HF
      go_wp2_with fail
      refine bodyPost_ret (results_none rfl _ _ _) rfl ?_
      exact ⟨rfl, by rw [HN.out]; exact HD.out⟩
theorem vBytes_c (vb : Nat) (st : WS) (s : ByteArray) (w : World) (h : VAt w vb st) (hl : (st.getD []).length + s.size ≤ 140737488355328) :
    Calls Try.prog 28 #[.pointer (some ⟨vb, 0, none⟩), .string s] w fun e w' => e = .returned (.tuple #[]) ∧ VDid w w' vb (wBytes st (sl s)) := by
  have HH : Keep (VAt w vb st) := ⟨h⟩
  have HL : Keep ((st.getD []).length + s.size ≤ 140737488355328) := ⟨hl⟩
  clear h hl
  go_enter Try.func28, Try.ntmps28
  have hF := fails_c vb st false w HH.out
  rw [Bool.or_false, if_neg (by simp)] at hF
  have HF := Keep.mk hF
  clear hF
  go_wp2_with fail
  refine HF.out.mono ?_
  rintro e w1 ⟨rfl, d1⟩
  have HD : Keep (VDid w w1 vb st) := ⟨d1⟩
  clear d1 HF
  cases st with
  | none =>
    simp only [Option.isNone_none]
    go_wp2_with fail
    go_end0
    exact ⟨rfl, HD.out⟩
  | some l =>
    simp only [Option.isNone_some]
    obtain ⟨s0, p1, p2⟩ := HD.out.a.h
    have c0 : w1.cell? ⟨vb, 0, none⟩ = some (.string s0) := p1.cellv 0 _ rfl
    have f0 := p1.frozen 0
    have hsl : sl s0 = l := p2 l rfl
    have had := addS s0 s (by
      have h2 : l.length + s.size ≤ 140737488355328 := HL.out
      rw [← hsl, sl_len] at h2
      omega)
    have HE : Keep (VDid w (w1.setCell ⟨vb, 0, none⟩ (.string (s0 ++ s))) vb (wBytes (some l) (sl s))) := ⟨by
      have := HD.out.trans (HD.out.a.set (s0 ++ s))
      rwa [sl_app, hsl] at this⟩
    clear p1 p2 hsl HD
    go_wp2_with fail
    go_end0
    exact ⟨rfl, HE.out⟩
set_option maxRecDepth 100000 in
theorem vDone_c (vb : Nat) (st : WS) (w : World) (h : VAt w vb st) :
    Calls Try.prog 30 #[.pointer (some ⟨vb, 0, none⟩)] w fun e w' => e = .returned (.tuple #[.string ⟨(st.getD []).toArray⟩, .int .i64 (werr st)]) ∧ w.grownBy w' none := by
  obtain ⟨s0, p1, p2⟩ := h.h
  have c0 : w.cell? ⟨vb, 0, none⟩ = some (.string s0) := p1.cellv 0 _ rfl
  have c1 : w.cell? ⟨vb, 1, none⟩ = some (.int .i64 (if st = none then 51 else 0)) := p1.cellv 1 _ rfl
  go_enter Try.func30, Try.ntmps30
  cases st with
  | none =>
    simp only [if_true] at c1
    clear p1 p2
    go_wp2_with fail
    go_quiet (fail)
    go_wp2
    go_ret2
    exact ⟨rfl, gr_drewN _ _ _⟩
  | some l =>
    have hne : ¬ (some l = (none : WS)) := by simp
    rw [if_neg hne] at c1
    have hsl : Keep ((⟨((some l : WS).getD []).toArray⟩ : ByteArray) = s0) := ⟨by
      have : sl s0 = l := p2 l rfl
      show (⟨l.toArray⟩ : ByteArray) = s0
      rw [← this]; exact sl_back s0⟩
    clear p1 p2
    go_wp2_with fail
    go_ret2
    exact ⟨by rw [hsl.out]; rfl, World.grownBy.refl _ _⟩
end Go.Proofs.Ytkddfnglonofoaa
