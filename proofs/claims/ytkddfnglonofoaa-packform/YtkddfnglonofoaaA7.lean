/- pack: the Writer's Text and Done. -/
import Derived.Test.YtkddfnglonofoaaA6
namespace Go.Proofs.Ytkddfnglonofoaa
open Go Go.RowKit

theorem wNum_len (st : WS) (x : Nat) (size : Int) : ((wNum st x size).getD []).length ≤ (st.getD []).length + 8 := by
  unfold wNum
  split
  · rename_i h
    cases st with
    | none => simp
    | some l =>
      have := h.1.2
      simp [be_len]; omega
  · simp
theorem wSig_len (st : WS) (x : Int) (size : Int) : ((wSig st x size).getD []).length ≤ (st.getD []).length + 8 := by
  unfold wSig
  split
  · rename_i h
    cases st with
    | none => simp
    | some l =>
      have := h.1.2
      simp [be_len]; omega
  · simp
theorem wBytes_len (st : WS) (s : List UInt8) : ((wBytes st s).getD []).length ≤ (st.getD []).length + s.length := by
  cases st <;> simp [wBytes]
theorem wText_len (st : WS) (s : List UInt8) : ((wText st s).getD []).length ≤ (st.getD []).length + s.length + 1 := by
  unfold wText
  split
  · cases st <;> simp; omega
  · simp
theorem wTextW_c (wb : Nat) (v : Value) (st : WS) (s : ByteArray) (w : World) (h : WAt w wb v st) (hl : (st.getD []).length + s.size ≤ 179999999999984) (hs8 : s.size ≤ 140737488355328) :
    Calls Try.prog 18 #[.pointer (some ⟨wb, 0, none⟩), .string s] w fun e w' => e = .returned (.tuple #[]) ∧ ∃ v', WDid w w' wb v (wText st (sl s)) v' := by
  have HH : Keep (WAt w wb v st) := ⟨h⟩
  have HL : Keep ((st.getD []).length + s.size ≤ 179999999999984 ∧ s.size ≤ 140737488355328) := ⟨hl, hs8⟩
  have HW : Keep (IntKind.u64.wrap (s.size : Int) = (s.size : Nat)) := ⟨by rw [wu]; omega⟩
  clear h hl hs8
  go_enter Try.func18, Try.ntmps18
  go_wp2_with fail
  try rw [HW.out]
  refine (wNumber_c wb v st s.size 1 w HH.out (by have := HL.out; omega) (by have := HL.out; omega)).mono ?_
  rintro e w1 ⟨rfl, v1, d1⟩
  have HD : Keep (WDid w w1 wb v (wNum st s.size 1) v1) := ⟨d1⟩
  clear d1 HH
  go_wp2_with fail
  refine (wBytesW_c wb v1 _ s w1 HD.out.a (by have := HL.out; have := wNum_len st s.size 1; omega) HL.out.2).mono ?_
  rintro e w2 ⟨rfl, v2, d2⟩
  have HE : Keep (WDid w w2 wb v (wText st (sl s)) v2) := ⟨by
    have := HD.out.trans d2
    rw [← sl_len, wText_eq] at this
    exact this⟩
  clear d2 HD
  go_wp2
  go_end0
  exact ⟨rfl, v2, HE.out⟩
theorem wText_c (wb : Nat) (v : Value) (st : WS) (s : ByteArray) (w : World) (h : WAt w wb v st) (hl : (st.getD []).length + s.size ≤ 140737488355312) :
    Calls Try.prog 18 #[.pointer (some ⟨wb, 0, none⟩), .string s] w fun e w' => e = .returned (.tuple #[]) ∧ ∃ v', WDid w w' wb v (wText st (sl s)) v' :=
  wTextW_c wb v st s w h (by omega) (by omega)
/-- 'string(b)' -/
theorem cvt_cells (w : World) (a : Option Addr) (c : Nat) (q : List UInt8) (h0 : a = none → q = []) (hc : ∀ ad, a = some ad → ∀ j x, q[j]? = some x → w.cell? (ad.add j) = some (bv x)) : (convert 53 9 (.slice a q.length c)).run Try.prog w = .ok (.string ⟨q.toArray⟩) w := by
  cases a with
  | none =>
    obtain rfl := h0 rfl
    rw [List.length_nil, run_convert_bytes_string w 53 9 5 none 0 c under53 under5 under9]
    simp [Conv.bytesToString]
    rfl
  | some ad => exact run_convert_bytes_back (P := Try.prog) w 53 9 5 ad c q under53 under5 under9 (fun j hj => hc ad rfl j _ (List.getElem?_eq_getElem hj))
theorem cvt_row {w : World} {v : Value} {xs : List UInt8} (h : Row w v xs) : (convert 53 9 v).run Try.prog w = .ok (.string ⟨xs.toArray⟩) w := by
  obtain ⟨a, c, rfl, h0, hc⟩ := h.shape
  exact cvt_cells w a c xs h0 hc
def werr (st : WS) : Int := if st = none then 51 else 0
set_option maxRecDepth 100000 in
theorem wDone_c (wb : Nat) (v : Value) (st : WS) (w : World) (h : WAt w wb v st) :
    Calls Try.prog 22 #[.pointer (some ⟨wb, 0, none⟩)] w fun e w' => e = .returned (.tuple #[.string ⟨(st.getD []).toArray⟩, .int .i64 (werr st)]) ∧ w.grownBy w' none := by
  have h0 : w.cell? ⟨wb, 0, none⟩ = some v := h.h.cellv 0 _ rfl
  have h1 : w.cell? ⟨wb, 1, none⟩ = some (.int .i64 (werr st)) := h.h.cellv 1 _ rfl
  have hc : ∀ k, (convert 53 9 v).run Try.prog (w.drewN k) = .ok (.string ⟨(st.getD []).toArray⟩) (w.drewN k) := fun k => cvt_row (h.kept (gr_drewN w k none)).r
  obtain ⟨a, c, hv, _⟩ := h.r.shape
  obtain ⟨n, hn⟩ : ∃ n, (st.getD []).length = n := ⟨_, rfl⟩
  rw [hn] at hv
  subst hv
  clear h hn
  generalize (⟨(st.getD []).toArray⟩ : ByteArray) = s at *
  generalize werr st = er at *
  go_enter Try.func22, Try.ntmps22
  go_wp2_with fail
  go_quiet (fail)
  go_wp2
  go_ret2
  exact ⟨rfl, gr_drewN _ _ _⟩
end Go.Proofs.Ytkddfnglonofoaa
