/- TableKeeps over lists. -/
import Derived.Test.YtkaakbldkicnaaaP0
namespace Go.Proofs.Ytkaakbldkicnaaa
namespace Tb
/-- the key, longer and longer -/
def xk (key : ByteArray) : Nat → ByteArray
  | 0 => key
  | i + 1 => xk key i ++ ⟨#[120]⟩
theorem xk_size (key : ByteArray) : ∀ i, (xk key i).size = key.size + i
  | 0 => rfl
  | i + 1 => by
    rw [xk, ByteArray.size_append, xk_size key i]
    show key.size + i + 1 = _
    omega
theorem xk_ne {key : ByteArray} {i j : Nat} (h : i ≠ j) : xk key i ≠ xk key j := fun e => by
  have := congrArg ByteArray.size e
  rw [xk_size, xk_size] at this
  omega
/-- what is put behind the key -/
def Tl (key : ByteArray) : Nat → List (ByteArray × Int)
  | 0 => []
  | i + 1 => Tl key i ++ [(xk key (i + 1), (i : Int))]
theorem Tl_len (key : ByteArray) : ∀ i, (Tl key i).length = i
  | 0 => rfl
  | i + 1 => by rw [Tl, List.length_append, Tl_len key i]; rfl
theorem Tl_key {key k : ByteArray} : ∀ {i : Nat}, k ∈ keys (Tl key i) → ∃ j, 1 ≤ j ∧ j ≤ i ∧ k = xk key j
  | 0, h => by cases h
  | i + 1, h => by
    rw [Tl, keys, List.map_append] at h
    rcases List.mem_append.1 h with h | h
    · obtain ⟨j, h1, h2, h3⟩ := Tl_key h
      exact ⟨j, h1, by omega, h3⟩
    · simp at h
      exact ⟨i + 1, by omega, by omega, h⟩
theorem Tl_get (key : ByteArray) : ∀ (n j : Nat), j < n → (keys (Tl key n))[j]? = some (xk key (j + 1))
  | 0, j, h => by omega
  | n + 1, j, h => by
    rw [Tl, keys, List.map_append]
    by_cases e : j < n
    · rw [List.getElem?_append_left (by rw [List.length_map, Tl_len]; exact e)]
      exact Tl_get key n j e
    · obtain rfl : j = n := by omega
      rw [List.getElem?_append_right (by rw [List.length_map, Tl_len]; exact Nat.le_refl _), List.length_map, Tl_len, Nat.sub_self]
      rfl
/-- the key is there, and what was put behind it -/
def Inv (key : ByteArray) (i : Nat) (L : List (ByteArray × Int)) : Prop := ∃ B, L = B ++ (key, 77) :: Tl key i
theorem key_not {key : ByteArray} {i n : Nat} (h : i < n) : xk key n ∉ keys ((key, (77 : Int)) :: Tl key i) := by
  intro q
  rcases List.mem_cons.1 q with q | q
  · exact xk_ne (i := n) (j := 0) (by omega) q
  · obtain ⟨j, h1, h2, h3⟩ := Tl_key q
    exact xk_ne (by omega) h3
theorem rm_app {V : Type} (A C : List (ByteArray × V)) (k : ByteArray) : rm (A ++ C) k = rm A k ++ rm C k := List.filter_append ..
theorem Inv.put {key : ByteArray} {i sz : Nat} {L : List (ByteArray × Int)} (h : Inv key i L) (hi : i + 1 < sz) : Inv key (i + 1) (putL sz L (xk key (i + 1)) i) := by
  obtain ⟨B, rfl⟩ := h
  unfold putL
  have hk := key_not (key := key) (show i < i + 1 by omega)
  split
  · refine ⟨rm B (xk key (i + 1)), ?_⟩
    rw [rm_app, rm_none hk, Tl]
    simp
  · split
    · rename_i hl
      cases B with
      | nil => simp [Tl_len] at hl; omega
      | cons b B => exact ⟨B, by simp [Tl]⟩
    · exact ⟨B, by simp [Tl]⟩
theorem Inv.last {key : ByteArray} {i : Nat} {L : List (ByteArray × Int)} (h : Inv key i L) (hl : L.length ≤ i + 1) : putL (i + 1) L (xk key (i + 1)) i = Tl key (i + 1) := by
  obtain ⟨B, rfl⟩ := h
  have hB : B = [] := by
    simp [Tl_len] at hl
    exact List.eq_nil_of_length_eq_zero (by omega)
  subst hB
  have hk := key_not (key := key) (show i < i + 1 by omega)
  unfold putL
  rw [List.nil_append, look_none.2 hk, if_neg (by simp), if_pos (by simp [Tl_len])]
  simp [Tl]
theorem Inv.use {key : ByteArray} {i : Nat} {L : List (ByteArray × Int)} (h : Inv key (i + 1) L) (hn : (keys L).Nodup) : useL L (xk key (i + 1)) = L := by
  obtain ⟨B, rfl⟩ := h
  have e : B ++ (key, (77 : Int)) :: Tl key (i + 1) = (B ++ (key, 77) :: Tl key i) ++ (xk key (i + 1), (i : Int)) :: [] := by simp [Tl]
  rw [e] at hn ⊢
  obtain ⟨h1, h2, _⟩ := nodup_mid hn
  unfold useL
  rw [look_mid h1]
  simp only
  rw [rm_mid h1 h2]
  simp
theorem Inv.look {key : ByteArray} {i : Nat} {L : List (ByteArray × Int)} (h : Inv key i L) (hn : (keys L).Nodup) : look L key = some 77 := by
  obtain ⟨B, rfl⟩ := h
  exact look_mid (nodup_mid hn).1
theorem Inv.first {key : ByteArray} {sz : Nat} (L : List (ByteArray × Int)) : Inv key 0 (putL sz L key 77) := by
  unfold putL
  split
  · exact ⟨_, rfl⟩
  · split
    · exact ⟨_, rfl⟩
    · exact ⟨_, rfl⟩
theorem Tl_no (key : ByteArray) (n : Nat) : look (Tl key n) key = none := by
  rw [look_none]
  intro q
  obtain ⟨j, h1, _, h3⟩ := Tl_key q
  exact xk_ne (i := 0) (j := j) (by omega) h3
end Tb
end Go.Proofs.Ytkaakbldkicnaaa
