/- the document's table: its calls. -/
import Derived.Test.YtkaakbldkicnaaaR1
namespace Go.Proofs.Ytkaakbldkicnaaa
open Go Go.RowKit Go.Maps

theorem under92 : Try.prog.underlying 92 = some (.slice 97) := by kernel_rfl
theorem info97 : ∃ i, Try.prog.info? 97 = some i ∧ i.size = 2 ∧ i.bytes = 24 ∧ i.zero = some (.agg #[.string ⟨#[]⟩, iv 0]) := by
  have h : (Try.prog.info? 97).map (fun i => (i.size, i.bytes, i.zero)) = some (2, 24, some (.agg #[.string ⟨#[]⟩, iv 0])) := by kernel_rfl
  cases hq : Try.prog.info? 97 with
  | none => simp [hq] at h
  | some i =>
    simp only [hq, Option.map_some, Option.some.injEq, Prod.mk.injEq] at h
    exact ⟨i, rfl, h.1, h.2.1, h.2.2⟩
/-- how a row of items is read -/
structure Itm (W : World) (v : Value) (L : KV) : Prop where
  o : ∃ a cap, v = .slice a L.length cap ∧ (0 < L.length → ∃ g, a = some ⟨g, 0, none⟩ ∧ ∀ j p, L[j]? = some p → W.cell? ⟨g, j * 2, none⟩ = some (.string p.1) ∧ W.cell? ⟨g, j * 2 + 1, none⟩ = some (iv p.2) ∧ W.frozen? ⟨g, j * 2 + 1, none⟩ = false)
theorem itm_of {W : World} {v : Value} {L : KV} (h : W.ownsRow 0 97 2 v L.length (its L)) : Itm W v L := by
  by_cases hn : 0 < L.length
  · obtain ⟨g, c, rfl, q⟩ := own_any h hn
    refine ⟨_, c, rfl, fun _ => ⟨g, rfl, fun j p hp => ?_⟩⟩
    obtain ⟨e1, e2⟩ := its_get hp
    exact ⟨(q _ _ e1).1, q _ _ e2⟩
  · have e : L = [] := List.eq_nil_of_length_eq_zero (by omega)
    subst e
    obtain ⟨a, c, rfl⟩ := own_zero h
    exact ⟨a, c, rfl, fun h => absurd h hn⟩
set_option maxHeartbeats 2000000 in
theorem place_no (W : World) (db : Nat) (v : Value) (L : KV) (k : ByteArray) (hc : W.cell? ⟨db, 0, none⟩ = some v) (h : Itm W v L) (hn : L.length ≤ 4096) (hk : k ∉ Tb.keys L) :
    Calls Try.prog 51 #[pt db, .string k] W fun r W' => r = .returned (iv (-1)) ∧ W' = W := by
  obtain ⟨a, cap, rfl, hI⟩ := h.o
  obtain ⟨n, hnn⟩ : ∃ n, L.length = n := ⟨_, rfl⟩
  have HI : Keep (∀ j : Nat, j < n → ∃ (g : Nat) (p : ByteArray), a = some ⟨g, 0, none⟩ ∧ p ≠ k ∧ W.cell? ⟨g, j * 2, none⟩ = some (.string p)) := ⟨fun j hj => by
    obtain ⟨g, rfl, q⟩ := hI (by omega)
    have hp : L[j]? = some (L[j]'(by omega)) := List.getElem?_eq_getElem _
    exact ⟨g, _, rfl, fun e => hk (e ▸ List.mem_map_of_mem (List.getElem_mem _)), (q j _ hp).1⟩⟩
  rw [hnn] at hn hc
  have hn4 : (n : Int) ≤ 4096 := by omega
  clear h hI hk hnn
  go_enter Try.func51, Try.ntmps51
  go_wp2_with fail
  go_loopw [5] (fun v wr => wr = W ∧ ∃ i : Nat, i ≤ n ∧ v = .int .i64 i) (fun v _ => (n - intOf v).toNat)
  case atStart => exact ⟨rfl, 0, by omega, rfl⟩
  case round =>
    obtain ⟨rfl, i, hi, rfl⟩ := hrel
    by_cases hlt : i < n
    · obtain ⟨g, p, rfl, hp, ci⟩ := HI.out i hlt
      have hsn := str_ne hp
      have hi0 : (0 : Int) ≤ (i : Int) := by omega
      have hi1 : (i : Int) < (n : Nat) := by omega
      have hti : ((i : Nat) : Int).toNat = i := by omega
      have hwi : IntKind.i64.wrap ((i : Int) + 1) = ((i + 1 : Nat) : Int) := by rw [wi _ (by omega) (by omega)]; omega
      clear hp
      go_wp2_with fail
      exact ⟨⟨trivial, i + 1, by omega, rfl⟩, by simp only [intOf]; omega⟩
    · obtain rfl : i = n := by omega
      go_wp2_with fail
      go_ret
      exact ⟨rfl, rfl⟩
set_option maxHeartbeats 2000000 in
theorem place_at (W : World) (db : Nat) (v : Value) (L A C : KV) (x : Int) (k : ByteArray) (hc : W.cell? ⟨db, 0, none⟩ = some v) (h : Itm W v L) (hn : L.length ≤ 4096) (hL : L = A ++ (k, x) :: C) (hk : k ∉ Tb.keys A) :
    Calls Try.prog 51 #[pt db, .string k] W fun r W' => r = .returned (iv (A.length : Nat)) ∧ W' = W := by
  obtain ⟨a, cap, rfl, hI⟩ := h.o
  obtain ⟨n, hnn⟩ : ∃ n, L.length = n := ⟨_, rfl⟩
  obtain ⟨m, hm⟩ : ∃ m, A.length = m := ⟨_, rfl⟩
  have hmn : m < n := by rw [← hnn, hL, ← hm]; simp
  obtain ⟨g, rfl, q⟩ := hI (by omega)
  have HI : Keep (∀ j : Nat, j < m → ∃ p : ByteArray, p ≠ k ∧ W.cell? ⟨g, j * 2, none⟩ = some (.string p)) := ⟨fun j hj => by
    have hp : A[j]? = some (A[j]'(by omega)) := List.getElem?_eq_getElem _
    exact ⟨_, fun e => hk (e ▸ List.mem_map_of_mem (List.getElem_mem _)), (q j (A[j]'(by omega)) (by rw [hL, List.getElem?_append_left (by omega)]; exact hp)).1⟩⟩
  have cm : W.cell? ⟨g, m * 2, none⟩ = some (.string k) := (q m (k, x) (by rw [hL, List.getElem?_append_right (by omega), hm, Nat.sub_self]; rfl)).1
  rw [hnn] at hn hc
  rw [hm]
  have hn4 : (n : Int) ≤ 4096 := by omega
  clear h hI hk hnn q hL hm
  go_enter Try.func51, Try.ntmps51
  go_wp2_with fail
  go_loopw [5] (fun v wr => wr = W ∧ ∃ i : Nat, i ≤ m ∧ v = .int .i64 i) (fun v _ => (n - intOf v).toNat)
  case atStart => exact ⟨rfl, 0, by omega, rfl⟩
  case round =>
    obtain ⟨rfl, i, hi, rfl⟩ := hrel
    have hi0 : (0 : Int) ≤ (i : Int) := by omega
    have hi1 : (i : Int) < (n : Nat) := by omega
    have hti : ((i : Nat) : Int).toNat = i := by omega
    by_cases hlt : i < m
    · obtain ⟨p, hp, ci⟩ := HI.out i hlt
      have hsn := str_ne hp
      have hwi : IntKind.i64.wrap ((i : Int) + 1) = ((i + 1 : Nat) : Int) := by rw [wi _ (by omega) (by omega)]; omega
      clear hp
      go_wp2_with fail
      exact ⟨⟨trivial, i + 1, by omega, rfl⟩, by simp only [intOf]; omega⟩
    · obtain rfl : i = m := by omega
      go_wp2_with fail
      go_ret
      exact ⟨rfl, rfl⟩
end Go.Proofs.Ytkaakbldkicnaaa
