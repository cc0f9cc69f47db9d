import Derived.Test.YtldnpebnpbahjaaGreatDoorFH3
/- what is taken apart is written again to the same, over lists -/
namespace Go.Proofs.YtldnpebnpbahjaaGreatDoor.Pk
open Go Go.RowKit

set_option maxRecDepth 100000 in
theorem need_cut {L a b : List UInt8} {n : Int} (h : need L n = some (a, b)) : L = a ++ b ∧ (a.length : Int) = n := by
  obtain ⟨h0, h1, h2⟩ := need_some h
  injection h2 with h2 h3
  subst h2 h3
  exact ⟨(List.take_append_drop _ _).symm, by rw [List.length_take]; omega⟩
set_option maxRecDepth 100000 in
theorem sl_ba (l : List UInt8) : sl (ba l) = l := sl_mk l
set_option maxRecDepth 100000 in
theorem tk_back {f : Fd} {e e' : Dg} {L L' : List UInt8} {r : Bool} (h : tk f (e, L, r) = some (e', L', false)) : r = false ∧ L = lyB e' f ++ L' ∧ fitF e' f ∧ e' = cp e' f e := by
  cases f <;> simp only [tk] at h
  case nonce =>
    obtain ⟨⟨a, b⟩, h1, h2⟩ := Option.map_eq_some_iff.1 h
    obtain ⟨h3, h4⟩ := need_cut h1
    simp only [Prod.mk.injEq] at h2
    obtain ⟨rfl, rfl, rfl⟩ := h2
    exact ⟨rfl, by simp only [lyB, sl_ba]; exact h3, by simp only [fitF, ba_size]; omega, rfl⟩
  case salt =>
    obtain ⟨⟨a, b⟩, h1, h2⟩ := Option.map_eq_some_iff.1 h
    obtain ⟨h3, h4⟩ := need_cut h1
    simp only [Prod.mk.injEq] at h2
    obtain ⟨rfl, rfl, rfl⟩ := h2
    exact ⟨rfl, by simp only [lyB, sl_ba]; exact h3, by simp only [fitF, ba_size]; omega, rfl⟩
  case cookie =>
    obtain ⟨⟨a, b⟩, h1, h2⟩ := Option.map_eq_some_iff.1 h
    obtain ⟨h3, h4⟩ := need_cut h1
    simp only [Prod.mk.injEq] at h2
    obtain ⟨rfl, rfl, rfl⟩ := h2
    exact ⟨rfl, by simp only [lyB, sl_ba]; exact h3, by simp only [fitF, ba_size]; omega, rfl⟩
  case tag =>
    obtain ⟨⟨a, b⟩, h1, h2⟩ := Option.map_eq_some_iff.1 h
    obtain ⟨h3, h4⟩ := need_cut h1
    simp only [Prod.mk.injEq] at h2
    obtain ⟨rfl, rfl, rfl⟩ := h2
    exact ⟨rfl, by simp only [lyB, sl_ba]; exact h3, by simp only [fitF, ba_size]; omega, rfl⟩
  case view =>
    obtain ⟨⟨a, b⟩, h1, h2⟩ := Option.map_eq_some_iff.1 h
    obtain ⟨h3, h4⟩ := need_cut h1
    simp only [Prod.mk.injEq] at h2
    obtain ⟨rfl, rfl, rfl⟩ := h2
    exact ⟨rfl, by simp only [lyB, sl_ba]; exact h3, trivial, rfl⟩
  case epoch =>
    obtain ⟨⟨a, b⟩, h1, h2⟩ := Option.map_eq_some_iff.1 h
    obtain ⟨h3, h4⟩ := need_cut h1
    simp only [Prod.mk.injEq] at h2
    obtain ⟨rfl, rfl, rfl⟩ := h2
    have h8 : a.length = 8 := by omega
    have hv := val_lt a
    have hb := be_val a
    rw [h8] at hv hb
    exact ⟨rfl, by simp only [lyB, hb]; exact h3, by simp only [fitF]; simpa using hv, rfl⟩
  case session =>
    obtain ⟨⟨a, b⟩, h1, h2⟩ := Option.map_eq_some_iff.1 h
    obtain ⟨h3, h4⟩ := need_cut h1
    simp only [Prod.mk.injEq] at h2
    obtain ⟨rfl, rfl, rfl⟩ := h2
    have h8 : a.length = 8 := by omega
    have hv := val_lt a
    have hb := be_val a
    rw [h8] at hv hb
    exact ⟨rfl, by simp only [lyB, hb]; exact h3, by simp only [fitF]; simpa using hv, rfl⟩
  case seq =>
    obtain ⟨⟨a, b⟩, h1, h2⟩ := Option.map_eq_some_iff.1 h
    obtain ⟨h3, h4⟩ := need_cut h1
    simp only [Prod.mk.injEq] at h2
    obtain ⟨rfl, rfl, rfl⟩ := h2
    have h8 : a.length = 8 := by omega
    have hv := val_lt a
    have hb := be_val a
    rw [h8] at hv hb
    exact ⟨rfl, by simp only [lyB, hb]; exact h3, by simp only [fitF]; simpa using hv, rfl⟩
  case thr =>
    obtain ⟨⟨a, b⟩, h1, h2⟩ := Option.map_eq_some_iff.1 h
    obtain ⟨h3, h4⟩ := need_cut h1
    simp only [Prod.mk.injEq] at h2
    obtain ⟨rfl, rfl, rfl⟩ := h2
    have h8 : a.length = 1 := by omega
    have hv := fits_sval a
    have hb := be_sval a (by omega) (by omega)
    rw [h8] at hv hb
    exact ⟨rfl, by simp only [lyB, hb]; exact h3, ⟨by decide, hv⟩, rfl⟩
  case turn =>
    obtain ⟨⟨a, b⟩, h1, h2⟩ := Option.map_eq_some_iff.1 h
    obtain ⟨h3, h4⟩ := need_cut h1
    simp only [Prod.mk.injEq] at h2
    obtain ⟨rfl, rfl, rfl⟩ := h2
    have h8 : a.length = 1 := by omega
    have hv := fits_sval a
    have hb := be_sval a (by omega) (by omega)
    rw [h8] at hv hb
    exact ⟨rfl, by simp only [lyB, hb]; exact h3, ⟨by decide, hv⟩, rfl⟩
  case player =>
    obtain ⟨⟨a, b⟩, h1, h2⟩ := Option.map_eq_some_iff.1 h
    obtain ⟨h3, h4⟩ := need_cut h1
    simp only [Prod.mk.injEq] at h2
    obtain ⟨rfl, rfl, rfl⟩ := h2
    have h8 : a.length = 1 := by omega
    have hv := val_lt a
    have hb := be_val a
    rw [h8] at hv hb
    have hv2 : val a < 256 := by simpa using hv
    have hu : u64 ((val a : Nat) : Int) = val a := by unfold u64; omega
    exact ⟨rfl, by simp only [lyB, hu, hb]; exact h3, by simp only [fitF, hu]; exact ⟨by decide, by simpa using hv⟩, rfl⟩
  case flags =>
    obtain ⟨⟨a, b⟩, h1, h2⟩ := Option.map_eq_some_iff.1 h
    obtain ⟨h3, h4⟩ := need_cut h1
    simp only [Prod.mk.injEq] at h2
    obtain ⟨rfl, rfl, h5⟩ := h2
    have h8 : a.length = 1 := by omega
    have hb := be_val a
    rw [h8] at hb
    obtain ⟨hr, hle⟩ : r = false ∧ val a ≤ 3 := by
      cases r <;> simp at h5 ⊢
      exact h5
    refine ⟨hr, ?_, trivial, rfl⟩
    have hf : flagsN { e with fire := decide (val a % 2 = 1), boost := decide (val a / 2 % 2 = 1) } = val a := by
      unfold flagsN
      have hc : val a = 0 ∨ val a = 1 ∨ val a = 2 ∨ val a = 3 := by omega
      rcases hc with q | q | q | q <;> rw [q] <;> rfl
    simp only [lyB, hf, hb]; exact h3
  case name =>
    obtain ⟨⟨a, b⟩, h1, h2⟩ := Option.bind_eq_some_iff.1 h
    obtain ⟨⟨a2, b2⟩, h6, h7⟩ := Option.map_eq_some_iff.1 h2
    obtain ⟨h3, h4⟩ := need_cut h1
    simp only at h6
    obtain ⟨h8, h9⟩ := need_cut h6
    simp only [Prod.mk.injEq] at h7
    obtain ⟨rfl, rfl, rfl⟩ := h7
    obtain ⟨x, rfl⟩ : ∃ x, a = [x] := by
      match a, h4 with
      | [x], _ => exact ⟨x, rfl⟩
      | [], h4 => simp at h4
      | _ :: _ :: _, h4 => simp at h4; omega
    have hvx : val [x] = x.toNat := by simp [val]
    rw [hvx] at h9
    have hx := UInt8.toNat_lt x
    have hsz : (ba a2).size = x.toNat := by rw [ba_size]; omega
    refine ⟨rfl, ?_, by simp only [fitF, hsz]; omega, rfl⟩
    simp only [lyB, sl_ba, hsz]
    rw [h3, h8]
    simp
  case zeros =>
    obtain ⟨⟨a, b⟩, h1, h2⟩ := Option.map_eq_some_iff.1 h
    obtain ⟨h3, h4⟩ := need_cut h1
    simp only [Prod.mk.injEq] at h2
    obtain ⟨rfl, rfl, h5⟩ := h2
    obtain ⟨hr, hz⟩ : r = false ∧ a = zero76 := by
      cases r <;> simp at h5 ⊢
      exact h5
    subst hz
    exact ⟨hr, by simp only [lyB]; exact h3, trivial, rfl⟩
/-- fields lie apart -/
theorem apartF {f g : Fd} (h : g ≠ f) (d e : Dg) : lyB (cp d g e) f = lyB e f ∧ (fitF (cp d g e) f ↔ fitF e f) ∧ ∀ y, cp (cp d g e) f y = cp e f y := by
  cases f <;> cases g <;> first | exact absurd rfl h | exact ⟨rfl, Iff.rfl, fun _ => rfl⟩
set_option maxRecDepth 100000 in
theorem apartFs {f : Fd} (d : Dg) : ∀ (fs : List Fd) (e : Dg), (∀ g ∈ fs, g ≠ f) → lyB (cps d fs e) f = lyB e f ∧ (fitF (cps d fs e) f ↔ fitF e f) ∧ ∀ y, cp (cps d fs e) f y = cp e f y
  | [], _, _ => ⟨rfl, Iff.rfl, fun _ => rfl⟩
  | g :: fs, e, h => by
    obtain ⟨a1, a2, a3⟩ := apartFs d fs (cp d g e) (fun x hx => h x (by simp [hx]))
    obtain ⟨b1, b2, b3⟩ := apartF (h g (by simp)) d e
    exact ⟨a1.trans b1, a2.trans b2, fun y => (a3 y).trans (b3 y)⟩
set_option maxRecDepth 100000 in
theorem tk_r {f : Fd} {e e' : Dg} {L L' : List UInt8} {r' : Bool} (h : tk f (e, L, true) = some (e', L', r')) : r' = true := by
  cases f <;> simp only [tk] at h
  case name =>
    obtain ⟨⟨a, b⟩, h1, h2⟩ := Option.bind_eq_some_iff.1 h
    obtain ⟨⟨a2, b2⟩, h6, h7⟩ := Option.map_eq_some_iff.1 h2
    simp only [Prod.mk.injEq] at h7
    exact h7.2.2.symm
  all_goals
    obtain ⟨⟨a, b⟩, h1, h2⟩ := Option.map_eq_some_iff.1 h
    simp only [Prod.mk.injEq, Bool.true_or] at h2
    exact h2.2.2.symm
set_option maxRecDepth 100000 in
theorem takes_r : ∀ {fs : List Fd} {e e' : Dg} {L L' : List UInt8} {r' : Bool}, takes fs (e, L, true) = some (e', L', r') → r' = true
  | [], _, _, _, _, _, h => by simp only [takes, Option.some.injEq, Prod.mk.injEq] at h; exact h.2.2.symm
  | f :: fs, e, e', L, L', r', h => by
    rw [takes] at h
    obtain ⟨⟨e1, L1, r1⟩, h1, h2⟩ := Option.bind_eq_some_iff.1 h
    have := tk_r h1
    subst this
    exact takes_r h2
set_option maxRecDepth 100000 in
theorem takes_back : ∀ {fs : List Fd} {e x : Dg} {L : List UInt8} {r : Bool}, fs.Nodup → takes fs (e, L, r) = some (x, [], false) → L = bytesF x fs ∧ (∀ f ∈ fs, fitF x f) ∧ x = cps x fs e
  | [], e, x, L, r, _, h => by
    simp only [takes, Option.some.injEq, Prod.mk.injEq] at h
    obtain ⟨rfl, rfl, _⟩ := h
    exact ⟨rfl, fun f hf => (by cases hf), rfl⟩
  | f :: fs, e, x, L, r, hnd, h => by
    rw [takes] at h
    obtain ⟨⟨e1, L1, r1⟩, h1, h2⟩ := Option.bind_eq_some_iff.1 h
    have hr1 : r1 = false := by
      cases r1
      · rfl
      · cases takes_r h2
    subst hr1
    obtain ⟨_, hL, hfit, hcp⟩ := tk_back h1
    obtain ⟨hn1, hn2⟩ := List.nodup_cons.1 hnd
    obtain ⟨i1, i2, i3⟩ := takes_back hn2 h2
    obtain ⟨a1, a2, a3⟩ := apartFs (f := f) x fs e1 (fun g hg e => hn1 (e ▸ hg))
    rw [← i3] at a1 a2 a3
    refine ⟨?_, fun g hg => ?_, ?_⟩
    · show L = lyB x f ++ bytesF x fs
      rw [hL, i1, a1]
    · rcases List.mem_cons.1 hg with q | q
      · subst q; exact a2.2 hfit
      · exact i2 g q
    · show x = cps x fs (cp x f e)
      rw [a3 e, ← hcp]; exact i3
/-- what is taken is fine and small -/
structure Okd (d : Dg) : Prop where
  f : d.fine
  n : d.nonce.size ≤ 1200
  c : d.cookie.size ≤ 1200
  m : d.name.size ≤ 1200
  s : d.salt.size ≤ 1200
  dt : d.data.size ≤ 1200
  t : d.tag.size ≤ 1200
set_option maxRecDepth 100000 in
theorem vlt8 {a : List UInt8} (h : (a.length : Int) = 8) : val a < 18446744073709551616 := by
  have hv := val_lt a
  rw [show a.length = 8 by omega] at hv
  simpa using hv
set_option maxRecDepth 100000 in
theorem vlt1 {a : List UInt8} (h : (a.length : Int) = 1) : val a < 256 := by
  have hv := val_lt a
  rw [show a.length = 1 by omega] at hv
  simpa using hv
set_option maxRecDepth 100000 in
theorem sval1 {a : List UInt8} (h : (a.length : Int) = 1) : -128 ≤ sval a ∧ sval a < 128 := by
  have hv := fits_sval a
  rw [show a.length = 1 by omega] at hv
  have e : ((256 ^ 1 : Nat) : Int) = 256 := by decide
  rw [e] at hv
  omega
set_option maxRecDepth 100000 in
theorem tk_ok {f : Fd} {e e' : Dg} {L L' : List UInt8} {r r' : Bool} (h : tk f (e, L, r) = some (e', L', r')) (o : Okd e) (hl : L.length ≤ 1200) : Okd e' ∧ L'.length ≤ 1200 := by
  obtain ⟨⟨fk, fe, fs, fp, fq, fh, ft⟩, o2, o3, o4, o5, o6, o7⟩ := o
  cases f <;> simp only [tk] at h
  case name =>
    obtain ⟨⟨a, b⟩, h1, h2⟩ := Option.bind_eq_some_iff.1 h
    obtain ⟨⟨a2, b2⟩, h6, h7⟩ := Option.map_eq_some_iff.1 h2
    obtain ⟨h3, h4⟩ := need_cut h1
    simp only at h6
    obtain ⟨h8, h9⟩ := need_cut h6
    simp only [Prod.mk.injEq] at h7
    obtain ⟨rfl, rfl, rfl⟩ := h7
    have hL : L.length = a.length + (a2.length + b2.length) := by rw [h3, h8, List.length_append, List.length_append]
    exact ⟨⟨⟨fk, fe, fs, fp, fq, fh, ft⟩, o2, o3, by simp only [ba_size]; omega, o5, o6, o7⟩, by omega⟩
  all_goals
    obtain ⟨⟨a, b⟩, h1, h2⟩ := Option.map_eq_some_iff.1 h
    obtain ⟨h3, h4⟩ := need_cut h1
    simp only [Prod.mk.injEq] at h2
    obtain ⟨rfl, rfl, _⟩ := h2
    have hL : L.length = a.length + b.length := by rw [h3, List.length_append]
  case nonce => exact ⟨⟨⟨fk, fe, fs, fp, fq, fh, ft⟩, by simp only [ba_size]; omega, o3, o4, o5, o6, o7⟩, by omega⟩
  case cookie => exact ⟨⟨⟨fk, fe, fs, fp, fq, fh, ft⟩, o2, by simp only [ba_size]; omega, o4, o5, o6, o7⟩, by omega⟩
  case salt => exact ⟨⟨⟨fk, fe, fs, fp, fq, fh, ft⟩, o2, o3, o4, by simp only [ba_size]; omega, o6, o7⟩, by omega⟩
  case view => exact ⟨⟨⟨fk, fe, fs, fp, fq, fh, ft⟩, o2, o3, o4, o5, by simp only [ba_size]; omega, o7⟩, by omega⟩
  case tag => exact ⟨⟨⟨fk, fe, fs, fp, fq, fh, ft⟩, o2, o3, o4, o5, o6, by simp only [ba_size]; omega⟩, by omega⟩
  case epoch => exact ⟨⟨⟨fk, vlt8 h4, fs, fp, fq, fh, ft⟩, o2, o3, o4, o5, o6, o7⟩, by omega⟩
  case session => exact ⟨⟨⟨fk, fe, vlt8 h4, fp, fq, fh, ft⟩, o2, o3, o4, o5, o6, o7⟩, by omega⟩
  case seq => exact ⟨⟨⟨fk, fe, fs, fp, vlt8 h4, fh, ft⟩, o2, o3, o4, o5, o6, o7⟩, by omega⟩
  case thr => exact ⟨⟨⟨fk, fe, fs, fp, fq, by have := sval1 h4; simp only; omega, ft⟩, o2, o3, o4, o5, o6, o7⟩, by omega⟩
  case turn => exact ⟨⟨⟨fk, fe, fs, fp, fq, fh, by have := sval1 h4; simp only; omega⟩, o2, o3, o4, o5, o6, o7⟩, by omega⟩
  case player => exact ⟨⟨⟨fk, fe, fs, by have := vlt1 h4; simp only; omega, fq, fh, ft⟩, o2, o3, o4, o5, o6, o7⟩, by omega⟩
  case flags => exact ⟨⟨⟨fk, fe, fs, fp, fq, fh, ft⟩, o2, o3, o4, o5, o6, o7⟩, by omega⟩
  case zeros => exact ⟨⟨⟨fk, fe, fs, fp, fq, fh, ft⟩, o2, o3, o4, o5, o6, o7⟩, by omega⟩
set_option maxRecDepth 100000 in
theorem takes_ok : ∀ {fs : List Fd} {e e' : Dg} {L L' : List UInt8} {r r' : Bool}, takes fs (e, L, r) = some (e', L', r') → Okd e → L.length ≤ 1200 → Okd e'
  | [], _, _, _, _, _, _, h, o, _ => by simp only [takes, Option.some.injEq, Prod.mk.injEq] at h; rw [← h.1]; exact o
  | f :: fs, e, e', L, L', r, r', h, o, hl => by
    rw [takes] at h
    obtain ⟨⟨e1, L1, r1⟩, h1, h2⟩ := Option.bind_eq_some_iff.1 h
    obtain ⟨o1, l1⟩ := tk_ok h1 o hl
    exact takes_ok h2 o1 l1
set_option maxRecDepth 100000 in
theorem zero_ok {k : Int} (h : -9223372036854775808 ≤ k ∧ k < 9223372036854775808) : Okd (Dg.zero k) := by
  have n0 : nob.size ≤ 1200 := by decide
  have z0 : (0 : Nat) < 18446744073709551616 := by decide
  have i0 : (-9223372036854775808 : Int) ≤ 0 ∧ (0 : Int) < 9223372036854775808 := by decide
  exact ⟨⟨h, z0, z0, i0, z0, i0, i0⟩, n0, n0, n0, n0, n0, n0⟩
set_option maxRecDepth 100000 in
theorem fields_nodup (k : Int) : (fieldsL k).Nodup := by
  unfold fieldsL
  split
  · simp
  split
  · simp
  split
  · simp
  split
  · simp
  split
  · simp
  split
  · simp
  split
  · simp
  · simp
set_option maxRecDepth 100000 in
theorem ended_zero {o : Option TS} (h : (ended o).2 = 0) : ∃ d, o = some (d, [], false) ∧ ended o = (d, 0) := by
  match o, h with
  | none, h => cases h
  | some (d, L, r), h =>
    simp only [ended] at h ⊢
    by_cases hL : 0 < L.length
    · rw [if_pos hL] at h; cases h
    · rw [if_neg hL] at h ⊢
      cases r
      · have : L = [] := by cases L with
          | nil => rfl
          | cons x L => simp at hL
        subst this
        exact ⟨d, rfl, rfl⟩
      · cases h
set_option maxRecDepth 100000 in
theorem mem_len {f : Fd} {fs : List Fd} (x : Dg) (h : f ∈ fs) : (lyB x f).length ≤ (bytesF x fs).length := by
  induction fs with
  | nil => cases h
  | cons g fs ih =>
    show _ ≤ (lyB x g ++ bytesF x fs).length
    rw [List.length_append]
    rcases List.mem_cons.1 h with q | q
    · subst q; omega
    · have := ih q; omega
/-- what is taken apart is written to the same bytes -/
theorem dec_back {s : List UInt8} (h : (dec s).2 = 0) : enc (dec s).1 = (s, 0) ∧ onlyD (dec s).1 = (dec s).1 ∧ Okd (dec s).1 ∧ (bodyL s = [] ↔ (dec s).1.kind ≤ 2) ∧ (1 ≤ (dec s).1.kind ∧ (dec s).1.kind ≤ 7) := by
  unfold dec at h ⊢
  by_cases h12 : 1200 < s.length
  · rw [if_pos h12] at h; cases h
  rw [if_neg h12] at h ⊢
  by_cases hm : s.take 3 ≠ magic
  · rw [if_pos hm] at h; cases h
  rw [if_neg hm] at h ⊢
  by_cases hf : fieldsL (kindL s) = []
  · rw [if_pos hf] at h; cases h
  rw [if_neg hf] at h ⊢
  obtain ⟨x, hx, he⟩ := ended_zero h
  rw [he]
  dsimp only
  obtain ⟨b1, b2, b3⟩ := takes_back (fields_nodup _) hx
  have hkk : 1 ≤ kindL s ∧ kindL s ≤ 7 := Classical.byContradiction (fun hc => hf (fieldsL_nil (by omega)))
  have hk : x.kind = kindL s := by
    have := congrArg Dg.kind b3
    rw [cps_kind] at this
    exact this
  have hok : Okd x := takes_ok hx (zero_ok (by omega)) (by rw [List.length_drop]; omega)
  have hm' : s.take 3 = magic := Classical.byContradiction hm
  have h4 : ¬ (s.length < 4 ∨ s.take 3 ≠ magic) := by
    rintro (q | q)
    · have hk0 : kindL s = 0 := by rw [kindL, if_pos (.inl q)]
      omega
    · exact hm q
  have hkb : kindL s = ((s.getD 3 0).toNat : Int) := by rw [kindL, if_neg h4]
  have hl4 : 4 ≤ s.length := by omega
  have hs : s = headL x ++ bytesF x (fieldsL x.kind) := by
    have e0 : headL x = s.take 4 := by
      have e1 : s.take 4 = s.take 3 ++ [s.getD 3 0] := by
        rw [List.take_succ_eq_append_getElem (by omega)]
        simp [List.getD, List.getElem?_eq_getElem (show 3 < s.length by omega)]
      rw [e1, hm', headL, hk, hkb]
      have hb := UInt8.toNat_lt (s.getD 3 0)
      have e2 : u64 ((s.getD 3 0).toNat : Int) % 256 = (s.getD 3 0).toNat := by unfold u64; omega
      rw [e2]
      simp
    rw [e0, hk, ← b1, List.take_append_drop]
  refine ⟨?_, ?_, hok, ?_, by rw [hk]; exact hkk⟩
  · rw [enc, hk, if_neg hf, lays_fit x _ _ b2]
    rw [hk] at hs
    rw [← hs]
    simp only [finish]
    rw [if_neg (by simp), if_neg h12]
  · rw [onlyD, hk]; exact b3.symm
  · rw [hk, bodyL]
    by_cases hk3 : 3 ≤ kindL s
    · have htag : .tag ∈ fieldsL (kindL s) := by
        obtain ⟨fs, e, _⟩ := fields_tag (k := kindL s) (by omega)
        rw [e]; simp
      have h32 : (lyB x .tag).length = 32 := by
        have := b2 .tag htag
        simp only [lyB, sl_len]; exact this
      have hlen := mem_len x htag
      rw [← b1, h32, List.length_drop] at hlen
      rw [if_neg (by omega)]
      constructor
      · intro q
        have := congrArg List.length q
        rw [List.length_take] at this
        simp at this
        omega
      · intro q; omega
    · rw [if_pos (.inr (by omega))]
      exact ⟨fun _ => by omega, fun _ => rfl⟩
set_option maxRecDepth 100000 in
theorem dec_codes (s : List UInt8) : (dec s).2 = 0 ∨ ((dec s).1 = Dg.zero 0 ∧ 70 ≤ (dec s).2 ∧ (dec s).2 ≤ 73) := by
  unfold dec
  split
  · right; exact ⟨rfl, by decide, by decide⟩
  split
  · right; exact ⟨rfl, by decide, by decide⟩
  split
  · right; exact ⟨rfl, by decide, by decide⟩
  · cases takes (fieldsL (kindL s)) (Dg.zero (kindL s), s.drop 4, false) with
    | none => right; exact ⟨rfl, by decide, by decide⟩
    | some t =>
      obtain ⟨d, L, r⟩ := t
      simp only [ended]
      split
      · right; exact ⟨rfl, by decide, by decide⟩
      · cases r
        · left; rfl
        · right; rw [if_pos rfl]; exact ⟨rfl, by decide, by decide⟩
end Go.Proofs.YtldnpebnpbahjaaGreatDoor.Pk
