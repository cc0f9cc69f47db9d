/- tables over lists. -/
import Init.Data.List.Lemmas
import Init.Data.List.Perm
import Init.Data.ByteArray
import Init.Omega
namespace Go.Proofs.Ytkaakbldkicnaaa
namespace Tb
variable {V : Type}

abbrev keys (L : List (ByteArray × V)) : List ByteArray := L.map (·.1)
/-- what is there under a key -/
def look : List (ByteArray × V) → ByteArray → Option V
  | [], _ => none
  | p :: r, k => if p.1 = k then some p.2 else look r k
/-- without a key -/
def rm (L : List (ByteArray × V)) (k : ByteArray) : List (ByteArray × V) := L.filter (fun p => decide (p.1 ≠ k))
/-- another thing under a key -/
def setL (L : List (ByteArray × V)) (k : ByteArray) (y : V) : List (ByteArray × V) := L.map (fun p => if p.1 = k then (p.1, y) else p)
/-- a key is used -/
def useL (L : List (ByteArray × V)) (k : ByteArray) : List (ByteArray × V) :=
  match look L k with
  | none => L
  | some x => rm L k ++ [(k, x)]
/-- a thing is put -/
def putL (sz : Nat) (L : List (ByteArray × V)) (k : ByteArray) (x : V) : List (ByteArray × V) :=
  if (look L k).isSome then rm L k ++ [(k, x)] else if L.length = sz then L.tail ++ [(k, x)] else L ++ [(k, x)]
def goneB (sz : Nat) (L : List (ByteArray × V)) (k : ByteArray) : Bool := (look L k).isNone && decide (L.length = sz)
def goneK (sz : Nat) (L : List (ByteArray × V)) (k : ByteArray) : ByteArray := if goneB sz L k then ((keys L).head?.getD ⟨#[]⟩) else ⟨#[]⟩

theorem look_none {L : List (ByteArray × V)} {k : ByteArray} : look L k = none ↔ k ∉ keys L := by
  induction L with
  | nil => simp [look]
  | cons p r ih =>
    by_cases h : p.1 = k
    · simp [look, h]
    · simp only [look, h, if_false, ih, keys, List.map_cons, List.mem_cons, not_or]
      exact ⟨fun q => ⟨fun e => h e.symm, q⟩, fun q => q.2⟩
theorem look_split {L : List (ByteArray × V)} {k : ByteArray} {x : V} (h : look L k = some x) : ∃ A C, L = A ++ (k, x) :: C ∧ k ∉ keys A := by
  induction L with
  | nil => simp [look] at h
  | cons p r ih =>
    by_cases e : p.1 = k
    · simp only [look, e, if_true, Option.some.injEq] at h
      subst e; subst h
      exact ⟨[], r, rfl, by simp⟩
    · simp only [look, e, if_false] at h
      obtain ⟨A, C, rfl, hA⟩ := ih h
      refine ⟨p :: A, C, rfl, ?_⟩
      simp only [keys, List.map_cons, List.mem_cons, not_or]
      exact ⟨fun q => e q.symm, hA⟩
theorem look_mid {A C : List (ByteArray × V)} {k : ByteArray} {x : V} (h : k ∉ keys A) : look (A ++ (k, x) :: C) k = some x := by
  induction A with
  | nil => simp [look]
  | cons p r ih =>
    simp only [keys, List.map_cons, List.mem_cons, not_or] at h
    have e : ¬ p.1 = k := fun q => h.1 q.symm
    simp only [List.cons_append, look, e, if_false]
    exact ih h.2
theorem look_app {A C : List (ByteArray × V)} {k : ByteArray} (h : k ∉ keys A) : look (A ++ C) k = look C k := by
  induction A with
  | nil => rfl
  | cons p r ih =>
    simp only [keys, List.map_cons, List.mem_cons, not_or] at h
    have e : ¬ p.1 = k := fun q => h.1 q.symm
    simp only [List.cons_append, look, e, if_false]
    exact ih h.2
theorem look_app_of {A C : List (ByteArray × V)} {k : ByteArray} {x : V} (h : look A k = some x) : look (A ++ C) k = some x := by
  obtain ⟨B, D, rfl, hB⟩ := look_split h
  rw [List.append_assoc, List.cons_append]; exact look_mid hB
theorem rm_none {L : List (ByteArray × V)} {k : ByteArray} (h : k ∉ keys L) : rm L k = L := by
  refine List.filter_eq_self.2 fun p hp => ?_
  simp only [decide_eq_true_eq]
  exact fun e => h (e ▸ List.mem_map_of_mem hp)
theorem rm_mid {A C : List (ByteArray × V)} {k : ByteArray} {x : V} (hA : k ∉ keys A) (hC : k ∉ keys C) : rm (A ++ (k, x) :: C) k = A ++ C := by
  unfold rm
  rw [List.filter_append, List.filter_cons]
  simp only [ne_eq, not_true_eq_false, decide_false, Bool.false_eq_true, if_false]
  rw [show A.filter (fun p => decide (¬ p.1 = k)) = A from rm_none hA, show C.filter (fun p => decide (¬ p.1 = k)) = C from rm_none hC]
theorem nodup_mid {A C : List (ByteArray × V)} {k : ByteArray} {x : V} (h : (keys (A ++ (k, x) :: C)).Nodup) : k ∉ keys A ∧ k ∉ keys C ∧ (keys (A ++ C)).Nodup := by
  simp only [keys, List.map_append, List.map_cons] at h ⊢
  obtain ⟨h1, h2, h3⟩ := List.nodup_append.1 h
  obtain ⟨h4, h5⟩ := List.nodup_cons.1 h2
  exact ⟨fun q => h3 k q k (by simp) rfl, h4, List.nodup_append.2 ⟨h1, h5, fun a ha b hb => h3 a ha b (by simp [hb])⟩⟩
theorem rm_keys {L : List (ByteArray × V)} {k : ByteArray} : k ∉ keys (rm L k) := by
  intro h
  obtain ⟨p, hp, e⟩ := List.mem_map.1 h
  have := (List.mem_filter.1 hp).2
  simp only [decide_eq_true_eq] at this
  exact this e
theorem keys_rm_sub (L : List (ByteArray × V)) (k : ByteArray) : (keys (rm L k)).Sublist (keys L) := List.Sublist.map _ List.filter_sublist
theorem keys_setL (L : List (ByteArray × V)) (k : ByteArray) (y : V) : keys (setL L k y) = keys L := by
  simp only [keys, setL, List.map_map]
  refine List.map_congr_left fun p _ => ?_
  simp only [Function.comp]
  split <;> rfl
theorem setL_none {L : List (ByteArray × V)} {k : ByteArray} {y : V} (h : k ∉ keys L) : setL L k y = L := by
  conv => rhs; rw [← List.map_id L]
  refine List.map_congr_left fun p hp => ?_
  have e : ¬ p.1 = k := fun e => h (e ▸ List.mem_map_of_mem hp)
  rw [if_neg e]; rfl
theorem setL_mid {A C : List (ByteArray × V)} {k : ByteArray} {x y : V} (hA : k ∉ keys A) (hC : k ∉ keys C) : setL (A ++ (k, x) :: C) k y = A ++ (k, y) :: C := by
  have h1 : setL A k y = A := setL_none hA
  have h2 : setL C k y = C := setL_none hC
  unfold setL at h1 h2 ⊢
  rw [List.map_append, List.map_cons, h1, h2]; simp
theorem nodup_use {L : List (ByteArray × V)} (h : (keys L).Nodup) (k : ByteArray) : (keys (useL L k)).Nodup := by
  unfold useL
  split
  · exact h
  · rw [keys, List.map_append]
    exact List.nodup_append.2 ⟨(keys_rm_sub L k).nodup h, by simp, fun a ha b hb e => by simp at hb; subst hb; subst e; exact rm_keys ha⟩
theorem nodup_put {L : List (ByteArray × V)} {sz : Nat} (h : (keys L).Nodup) (k : ByteArray) (x : V) : (keys (putL sz L k x)).Nodup := by
  unfold putL
  split
  · rw [keys, List.map_append]
    exact List.nodup_append.2 ⟨(keys_rm_sub L k).nodup h, by simp, fun a ha b hb e => by simp at hb; subst hb; subst e; exact rm_keys ha⟩
  · rename_i hk
    have hk : k ∉ keys L := look_none.1 (by simpa using hk)
    split
    · rw [keys, List.map_append]
      refine List.nodup_append.2 ⟨((List.tail_sublist L).map _).nodup h, by simp, fun a ha b hb e => by simp at hb; subst hb; subst e; exact hk (((List.tail_sublist L).map _).subset ha)⟩
    · rw [keys, List.map_append]
      refine List.nodup_append.2 ⟨h, by simp, fun a ha b hb e => by simp at hb; subst hb; subst e; exact hk ha⟩
theorem rm_len {L : List (ByteArray × V)} {k : ByteArray} (h : (keys L).Nodup) {x : V} (hk : look L k = some x) : (rm L k).length + 1 = L.length := by
  obtain ⟨A, C, rfl, hA⟩ := look_split hk
  obtain ⟨_, h2, _⟩ := nodup_mid h
  rw [rm_mid hA h2]; simp; omega
theorem use_len {L : List (ByteArray × V)} (h : (keys L).Nodup) (k : ByteArray) : (useL L k).length = L.length := by
  unfold useL
  split
  · rfl
  · rename_i x hx
    have := rm_len h hx
    simp; omega
theorem put_len {L : List (ByteArray × V)} {sz : Nat} (h : (keys L).Nodup) (h1 : 1 ≤ sz) (hl : L.length ≤ sz) (k : ByteArray) (x : V) : (putL sz L k x).length ≤ sz := by
  unfold putL
  split
  · rename_i hk
    obtain ⟨y, hy⟩ := Option.isSome_iff_exists.1 hk
    have := rm_len h hy
    simp; omega
  · split
    · simp; omega
    · simp; omega
end Tb
end Go.Proofs.Ytkaakbldkicnaaa
