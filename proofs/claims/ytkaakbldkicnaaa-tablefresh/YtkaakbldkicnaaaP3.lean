/- TableFresh over lists. -/
import Derived.Test.YtkaakbldkicnaaaP0
namespace Go.Proofs.Ytkaakbldkicnaaa
namespace Tb
abbrev bang : ByteArray := ⟨#[33]⟩
/-- each thing is its key and a sign more -/
def Bang (L : List (ByteArray × ByteArray)) : Prop := ∀ p ∈ L, p.2 = p.1 ++ bang
theorem Bang.nil : Bang [] := fun _ h => by cases h
theorem Bang.put {L : List (ByteArray × ByteArray)} (h : Bang L) (sz : Nat) (k : ByteArray) : Bang (putL sz L k (k ++ bang)) := by
  intro p hp
  have hn : p = (k, k ++ bang) → p.2 = p.1 ++ bang := fun e => by rw [e]
  unfold putL at hp
  split at hp
  · rcases List.mem_append.1 hp with hp | hp
    · exact h p (List.mem_filter.1 hp).1
    · exact hn (List.mem_singleton.1 hp)
  · split at hp
    · rcases List.mem_append.1 hp with hp | hp
      · exact h p (List.mem_of_mem_tail hp)
      · exact hn (List.mem_singleton.1 hp)
    · rcases List.mem_append.1 hp with hp | hp
      · exact h p hp
      · exact hn (List.mem_singleton.1 hp)
/-- i keys were used, one behind the other -/
def rot (L : List (ByteArray × ByteArray)) (i : Nat) : List (ByteArray × ByteArray) := L.drop i ++ L.take i
theorem rot_zero (L : List (ByteArray × ByteArray)) : rot L 0 = L := by simp [rot]
theorem rot_all (L : List (ByteArray × ByteArray)) : rot L L.length = L := by simp [rot]
theorem rot_step {L : List (ByteArray × ByteArray)} {i : Nat} {p : ByteArray × ByteArray} (hp : L[i]? = some p) (hn : (keys (rot L i)).Nodup) : look (rot L i) p.1 = some p.2 ∧ useL (rot L i) p.1 = rot L (i + 1) := by
  obtain ⟨hi, e⟩ := List.getElem?_eq_some_iff.1 hp
  have e1 : rot L i = [] ++ (p.1, p.2) :: (L.drop (i + 1) ++ L.take i) := by
    unfold rot
    rw [List.drop_eq_getElem_cons hi, e]; simp
  have hl : look (rot L i) p.1 = some p.2 := by rw [e1]; exact look_mid (by simp)
  refine ⟨hl, ?_⟩
  unfold useL
  rw [hl]
  simp only
  rw [e1] at hn ⊢
  rw [rm_mid (by simp) (nodup_mid hn).2.1]
  unfold rot
  rw [List.take_succ_eq_append_getElem hi, e]
  simp
/-- the first i are written over -/
def wr (m : ByteArray) (ks : List ByteArray) (i : Nat) : List ByteArray := List.replicate i m ++ ks.drop i
theorem wr_zero (m : ByteArray) (ks : List ByteArray) : wr m ks 0 = ks := by simp [wr]
theorem wr_all (m : ByteArray) (ks : List ByteArray) : wr m ks ks.length = List.replicate ks.length m := by simp [wr]
theorem wr_len (m : ByteArray) (ks : List ByteArray) {i : Nat} (h : i ≤ ks.length) : (wr m ks i).length = ks.length := by simp [wr]; omega
theorem wr_step (m : ByteArray) (ks : List ByteArray) {i : Nat} (h : i < ks.length) : (wr m ks i).set i m = wr m ks (i + 1) := by
  unfold wr
  rw [List.set_append_right _ _ (by simp), List.length_replicate, Nat.sub_self, List.drop_eq_getElem_cons h, List.set_cons_zero, List.replicate_succ']
  simp
end Tb
end Go.Proofs.Ytkaakbldkicnaaa
