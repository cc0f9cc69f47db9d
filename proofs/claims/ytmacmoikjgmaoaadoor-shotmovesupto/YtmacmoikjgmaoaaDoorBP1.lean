/- boards over lists: what is printed is read again; places of cells. -/
import Derived.Test.YtmacmoikjgmaoaaDoorBA7
namespace Go.Proofs.YtmacmoikjgmaoaaDoor.Bo
open Go Go.RowKit

/-- a board with its rim -/
def canR (L : Bo) (y n : Nat) : List Int := (List.range n).map fun (x : Nat) => cel L x y
def canA (L : Bo) (n : Nat) : Bo := (List.range n).map fun (y : Nat) => canR L y (wd L)
def can (L : Bo) : Bo := canA L L.length
set_option maxRecDepth 100000 in
theorem okc_mn {c : Int} (h : okc c) : mn c = c ∧ mn c ≠ 0 ∧ c ≠ 10 := by
  unfold okc at h
  rcases h with rfl | rfl | rfl | rfl | rfl <;> decide
set_option maxRecDepth 100000 in
theorem rd_row : ∀ (cs t : List Int) (L : Bo) (l : List Int), (∀ c ∈ cs, okc c) → l.length + cs.length ≤ 64 → rd (cs ++ t) L l = rd t L (l ++ cs)
  | [], t, L, l, _, _ => by simp
  | c :: cs, t, L, l, h, hl => by
    obtain ⟨h1, h2, h3⟩ := okc_mn (h c (List.mem_cons_self ..))
    simp only [List.length_cons] at hl
    rw [List.cons_append, rd, if_neg (fun e => h3 e.1), if_pos ⟨h2, by omega⟩, h1, rd_row cs t L (l ++ [c]) (fun d hd => h d (List.mem_cons_of_mem _ hd)) (by simp; omega)]
    simp
set_option maxRecDepth 100000 in
theorem rd_lines : ∀ (R acc : Bo), (∀ r ∈ R, r.length ≤ 64 ∧ ∀ c ∈ r, okc c) → acc.length + R.length ≤ 64 → rd (R.flatMap (· ++ [10])) acc [] = acc ++ R
  | [], acc, _, _ => by simp [rd]
  | r :: R, acc, h, hl => by
    obtain ⟨h1, h2⟩ := h r (List.mem_cons_self ..)
    simp only [List.length_cons] at hl
    rw [List.flatMap_cons, List.append_assoc, rd_row _ _ _ _ h2 (by simpa using h1), List.nil_append, List.singleton_append, rd, if_pos ⟨rfl, by omega⟩, rd_lines R (acc ++ [r]) (fun q hq => h q (List.mem_cons_of_mem _ hq)) (by simp; omega)]
    simp
set_option maxRecDepth 100000 in
theorem can_len (L : Bo) : (can L).length = L.length := by simp [can, canA]
set_option maxRecDepth 100000 in
theorem can_get (L : Bo) (y : Nat) (h : y < L.length) : (can L)[y]? = some (canR L y (wd L)) := by
  unfold can canA
  rw [List.getElem?_map, List.getElem?_range h]
  rfl
set_option maxRecDepth 100000 in
theorem canR_len (L : Bo) (y n : Nat) : (canR L y n).length = n := by simp [canR]
set_option maxRecDepth 100000 in
theorem can_wd {L : Bo} (h : ev L) : wd (can L) = wd L := by
  have h3 := h.1.1
  rw [wd_get (can_get L 0 (by omega)), canR_len]
set_option maxRecDepth 100000 in
theorem can_ev {L : Bo} (h : ev L) : ev (can L) := by
  refine ⟨by rw [can_len]; exact h.1, by rw [can_wd h]; exact h.2.1, fun l hl => ?_⟩
  obtain ⟨y, hy, e⟩ := List.mem_iff_getElem.1 hl
  have := can_get L y (by rw [can_len] at hy; exact hy)
  rw [List.getElem?_eq_getElem hy] at this
  injection this with this
  rw [← e, this, canR_len, can_wd h]
set_option maxRecDepth 100000 in
theorem can_cel {L : Bo} (h : ev L) (x y : Int) : cel (can L) x y = cel L x y := by
  unfold cel
  rw [can_wd h, can_len]
  split
  · rfl
  · rename_i hc
    have e1 := can_get L y.toNat (by omega)
    have e2 : (canR L y.toNat (wd L))[x.toNat]? = some (cel L x.toNat y.toNat) := by
      unfold canR
      rw [List.getElem?_map, List.getElem?_range (by omega)]
      rfl
    rw [List.getD_eq_getElem?_getD, List.getD_eq_getElem?_getD, e1]
    simp only [Option.getD_some]
    rw [e2]
    simp only [Option.getD_some]
    unfold cel
    rw [if_neg (by omega), show ((y.toNat : Nat) : Int).toNat = y.toNat by omega, show ((x.toNat : Nat) : Int).toNat = x.toNat by omega]
set_option maxRecDepth 100000 in
theorem can_spn {L : Bo} (h : ev L) : spn (can L) = spn L := by
  unfold spn spA spR
  rw [can_len, can_wd h]
  simp only [can_cel h]
set_option maxRecDepth 100000 in
theorem can_prt {L : Bo} (h : ev L) : prt (can L) = prt L := by
  unfold prt prA prR
  rw [can_len, can_wd h]
  simp only [can_cel h]
set_option maxRecDepth 100000 in
theorem okc_byte {c : Int} (h : okc c) : (c.toNat.toUInt8.toNat : Int) = c ∧ c.toNat.toUInt8.toNat < 128 := by
  unfold okc at h
  rcases h with rfl | rfl | rfl | rfl | rfl <;> decide
set_option maxRecDepth 100000 in
theorem prR_int {L : Bo} (h : ev L) (ho : oks L) (y n : Nat) : (prR L y n).map (fun b => (b.toNat : Int)) = canR L y n := by
  unfold prR canR
  rw [List.map_map]
  exact List.map_congr_left fun x _ => (okc_byte (cel_ok ho h x y)).1
set_option maxRecDepth 100000 in
theorem prA_int {L : Bo} (h : ev L) (ho : oks L) : ∀ n, (prA L n).map (fun b => (b.toNat : Int)) = (canA L n).flatMap (· ++ [10])
  | 0 => rfl
  | n + 1 => by
    rw [prA_succ, List.map_append, prA_int h ho n, List.map_append, prR_int h ho]
    unfold canA
    rw [List.range_succ, List.map_append, List.flatMap_append]
    simp
set_option maxRecDepth 100000 in
theorem prt_small {L : Bo} (h : ev L) (ho : oks L) : ∀ b ∈ prt L, b.toNat < 128 := by
  intro b hb
  unfold prt prA at hb
  rw [List.mem_flatMap] at hb
  obtain ⟨y, _, hb⟩ := hb
  rcases List.mem_append.1 hb with hb | hb
  · unfold prR at hb
    rw [List.mem_map] at hb
    obtain ⟨x, _, rfl⟩ := hb
    exact (okc_byte (cel_ok ho h x y)).2
  · rw [List.mem_singleton] at hb; subst hb; decide
set_option maxRecDepth 100000 in
theorem lns_prt {L : Bo} (h : ev L) (ho : oks L) : lns ⟨(prt L).toArray⟩ = can L := by
  unfold lns
  rw [rn_ascii _ (prt_small h ho)]
  unfold prt
  rw [prA_int h ho, rd_lines]
  · rfl
  · intro r hr
    unfold canA at hr
    rw [List.mem_map] at hr
    obtain ⟨y, _, rfl⟩ := hr
    refine ⟨by rw [canR_len]; exact h.2.1.2, fun c hc => ?_⟩
    unfold canR at hc
    rw [List.mem_map] at hc
    obtain ⟨x, _, rfl⟩ := hc
    exact cel_ok ho h x y
  · simp [canA]
    exact h.1.2
set_option maxRecDepth 100000 in
theorem prt_len (L : Bo) : (prt L).length = L.length * (wd L + 1) := prA_len L _
set_option maxRecDepth 100000 in
theorem prA_pre (L : Bo) (a : Nat) : ∀ n, a ≤ n → ∃ t, prA L n = prA L a ++ t
  | 0, h => ⟨[], by rw [show a = 0 by omega]; simp⟩
  | n + 1, h => by
    by_cases e : a = n + 1
    · exact ⟨[], by rw [e]; simp⟩
    · obtain ⟨t, ht⟩ := prA_pre L a n (by omega)
      exact ⟨t ++ (prR L n (wd L) ++ [10]), by rw [prA_succ, ht, List.append_assoc]⟩
/-- a letter of the print -/
theorem prt_get (L : Bo) (x y : Nat) (hx : x < wd L) (hy : y < L.length) : (prt L)[y * (wd L + 1) + x]? = some (cel L x y).toNat.toUInt8 := by
  obtain ⟨t, ht⟩ := prA_pre L (y + 1) L.length (by omega)
  unfold prt
  rw [ht, prA_succ, List.append_assoc, List.getElem?_append_right (by rw [prA_len]; omega), prA_len, Nat.add_sub_cancel_left, List.append_assoc, List.getElem?_append_left (by rw [prR_len]; exact hx)]
  unfold prR
  rw [List.getElem?_map, List.getElem?_range hx]
  rfl
/-- the number of a place within a cell -/
theorem nm_cell {x k : Int} (h0 : -1 ≤ x) (h1 : x ≤ 64) (k0 : 0 ≤ k) (k1 : k < 524288) : nm (x * 524288 + k) = x := by
  unfold nm
  split <;> omega
set_option maxRecDepth 100000 in
theorem cel_rim {L : Bo} {x y : Int} (h : x ≤ 0 ∨ y ≤ 0 ∨ x ≥ (wd L : Int) - 1 ∨ y ≥ (L.length : Int) - 1) : cel L x y = 35 := by
  unfold cel
  rw [if_pos (by omega)]
end Go.Proofs.YtmacmoikjgmaoaaDoor.Bo
