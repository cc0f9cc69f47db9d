/- table: Peek, Len, Delete, Get. -/
import Derived.Test.YtkaakbldkicnaaaA3
namespace Go.Proofs.Ytkaakbldkicnaaa
open Go Go.RowKit Go.Maps

def kv (E : List Ent) : List (ByteArray × Int) := E.map fun e => (e.k, e.x)
def km (E : List Ent) : List (ByteArray × Nat) := E.map fun e => (e.k, e.b)
theorem kv_keys (E : List Ent) : Tb.keys (kv E) = E.map Ent.k := by simp [Tb.keys, kv]
theorem km_keys (E : List Ent) : Tb.keys (km E) = E.map Ent.k := by simp [Tb.keys, km]
structure TabAt (w : World) (tb mb sz : Nat) (E : List Ent) : Prop where
  lo : 1 ≤ sz
  hi : sz ≤ 4096
  le : E.length ≤ sz
  hdr : Has w tb (tcs (iv sz) (.map (some mb)) E) 69
  seg : Seg w np E np
  map : MapIs w mb (km E)
  nb : (tb :: mb :: E.map Ent.b).Nodup
  nk : (E.map Ent.k).Nodup
  small : ∀ k ∈ E.map Ent.k, k.size ≤ 281474976710656
/-- is the key there, and where? -/
theorem ent_split (E : List Ent) (k : ByteArray) (hn : (E.map Ent.k).Nodup) :
    (k ∉ E.map Ent.k ∧ Tb.look (km E) k = none ∧ Tb.look (kv E) k = none) ∨ ∃ A e C, E = A ++ e :: C ∧ e.k = k ∧ Tb.look (km E) k = some e.b ∧ Tb.look (kv E) k = some e.x ∧ k ∉ A.map Ent.k ∧ k ∉ C.map Ent.k := by
  by_cases h : k ∈ E.map Ent.k
  · refine .inr ?_
    obtain ⟨e, he, hk⟩ := List.mem_map.1 h
    obtain ⟨A, C, rfl⟩ := List.append_of_mem he
    have hA : k ∉ A.map Ent.k ∧ k ∉ C.map Ent.k := by
      rw [List.map_append, List.map_cons] at hn
      obtain ⟨h1, h2, h3⟩ := List.nodup_append.1 hn
      obtain ⟨h4, h5⟩ := List.nodup_cons.1 h2
      rw [hk] at h4
      exact ⟨fun q => h3 k q e.k (by simp) hk.symm, h4⟩
    refine ⟨A, e, C, rfl, hk, ?_, ?_, hA.1, hA.2⟩
    · have := Tb.look_mid (A := km A) (C := km C) (k := k) (x := e.b) (by rw [km_keys]; exact hA.1)
      rw [← this, ← hk]; simp [km]
    · have := Tb.look_mid (A := kv A) (C := kv C) (k := k) (x := e.x) (by rw [kv_keys]; exact hA.1)
      rw [← this, ← hk]; simp [kv]
  · exact .inl ⟨h, Tb.look_none.2 (by rw [km_keys]; exact h), Tb.look_none.2 (by rw [kv_keys]; exact h)⟩
theorem TabAt.apart {w : World} {tb mb sz : Nat} {A C : List Ent} {e : Ent} (h : TabAt w tb mb sz (A ++ e :: C)) : Apart tb A C e := by
  have := h.nb
  refine Apart.of ?_
  obtain ⟨h1, h2⟩ := List.nodup_cons.1 this
  exact List.nodup_cons.2 ⟨fun q => h1 (by simp only [List.mem_cons]; exact .inr q), (List.nodup_cons.1 h2).2⟩
theorem TabAt.entry {w : World} {tb mb sz : Nat} {A C : List Ent} {e : Ent} (h : TabAt w tb mb sz (A ++ e :: C)) : Has w e.b (ent e (lst np A) (hd np C)) 72 := ((seg_app ..).1 h.seg).2.1

set_option maxHeartbeats 1000000 in
theorem peek_c (w : World) (tb mb sz : Nat) (E : List Ent) (k : ByteArray) (h : TabAt w tb mb sz E) (hk : k.size ≤ 4611686018427387904) :
    Calls Try.prog 12 #[pt tb, .string k] w fun r w' => r = .returned (.tuple #[iv ((Tb.look (kv E) k).getD 0), .bool (Tb.look (kv E) k).isSome]) ∧ w' = w := by
  obtain ⟨_, t1, _, _, _, _, _⟩ := Has.c4 h.hdr
  have hl := h.map.look k hk
  rcases ent_split E k h.nk with ⟨_, h2, h3⟩ | ⟨A, e, C, rfl, he, h2, h3, _, _⟩
  · rw [h2] at hl
    rw [h3]
    change _ = Result.ok (Value.tuple #[np, .bool false]) w at hl
    clear h
    go_enter Try.func12, Try.ntmps12
    go_wp2_with fail
    go_ret2
    exact ⟨rfl, rfl⟩
  · rw [h2] at hl
    rw [h3]
    change _ = Result.ok (Value.tuple #[pt e.b, .bool true]) w at hl
    obtain ⟨_, e1, _, _, _, _, _⟩ := Has.c4 (v0 := .string e.k) (v1 := iv e.x) h.entry
    clear h he h2 h3
    generalize e.b = eb at *
    generalize e.x = x at *
    go_enter Try.func12, Try.ntmps12
    go_wp2_with fail
    go_ret2
    exact ⟨rfl, rfl⟩
theorem len_c (w : World) (tb mb sz : Nat) (E : List Ent) (h : TabAt w tb mb sz E) :
    Calls Try.prog 25 #[pt tb] w fun r w' => r = .returned (iv (E.length : Nat)) ∧ w' = w := by
  obtain ⟨_, t1, _, _, _, _, _⟩ := Has.c4 h.hdr
  have hl := h.map.len
  rw [show (km E).length = E.length by simp [km]] at hl
  clear h
  generalize E.length = n at *
  go_enter Try.func25, Try.ntmps25
  go_wp2_with fail
  go_ret
  exact ⟨rfl, rfl⟩
/-- the blocks of a table -/
def TF (tb mb : Nat) (E : List Ent) (i : Nat) : Prop := i = tb ∨ i = mb ∨ i ∈ E.map Ent.b
theorem TabAt.fr {S : Nat → Prop} {w w' : World} {tb mb sz : Nat} {E : List Ent} (h : TabAt w tb mb sz E) (f : Fr S w w') (hs : ∀ i, TF tb mb E i → ¬ S i) : TabAt w' tb mb sz E :=
  ⟨h.lo, h.hi, h.le, h.hdr.fr f (hs tb (.inl rfl)), h.seg.fr f (fun i hi => hs i (.inr (.inr hi))), h.map.fr f (hs mb (.inr (.inl rfl))), h.nb, h.nk, h.small⟩
theorem TabAt.lt {w : World} {tb mb sz : Nat} {E : List Ent} (h : TabAt w tb mb sz E) : ∀ i, TF tb mb E i → i < w.heap.size := by
  rintro i (rfl | rfl | hi)
  · exact h.hdr.lt
  · exact h.map.lt
  · exact h.seg.lt i hi
theorem perm_mid {α : Type} (A C : List α) (e : α) : (A ++ C ++ [e]).Perm (A ++ e :: C) := by
  rw [List.append_assoc]
  exact List.Perm.append_left A (List.perm_append_singleton e C)
theorem look_perm {V : Type} {L M : List (ByteArray × V)} (h : L.Perm M) (hn : (Tb.keys L).Nodup) (k : ByteArray) : Tb.look L k = Tb.look M k := by
  have hm : (Tb.keys M).Nodup := (h.map _).nodup_iff.1 hn
  cases hl : Tb.look L k with
  | none =>
    symm
    rw [Tb.look_none] at hl ⊢
    exact fun q => hl ((h.map _).mem_iff.2 q)
  | some x =>
    obtain ⟨A, C, rfl, _⟩ := Tb.look_split hl
    have : (k, x) ∈ M := h.mem_iff.1 (by simp)
    obtain ⟨A', C', rfl⟩ := List.append_of_mem this
    exact (Tb.look_mid (Tb.nodup_mid hm).1).symm
/-- an entry is renewed -/
theorem TabAt.renewed {w w' : World} {tb mb sz : Nat} {A C : List Ent} {e : Ent} (h : TabAt w tb mb sz (A ++ e :: C)) (h1 : Has w' tb (tcs (iv sz) (.map (some mb)) (A ++ C ++ [e])) 69) (h2 : Seg w' np (A ++ C ++ [e]) np) (f : Fr (fun i => i = tb ∨ i ∈ (A ++ C ++ [e]).map Ent.b) w w') : TabAt w' tb mb sz (A ++ C ++ [e]) := by
  have hp := perm_mid A C e
  have hnk : ((A ++ C ++ [e]).map Ent.k).Nodup := (hp.map _).nodup_iff.2 h.nk
  refine ⟨h.lo, h.hi, by rw [hp.length_eq]; exact h.le, h1, h2, ?_, (List.Perm.cons _ (List.Perm.cons _ (hp.map _))).nodup_iff.2 h.nb, hnk, fun k hk => h.small k ((hp.map _).mem_iff.1 hk)⟩
  refine (h.map.fr f ?_).same (by simp [km]) (fun k => look_perm (hp.map _) (by rw [← km, km_keys]; exact hnk) k)
  obtain ⟨q1, q2⟩ := List.nodup_cons.1 h.nb
  rintro (q | q)
  · exact q1 (by simp [q])
  · exact (List.nodup_cons.1 q2).1 ((hp.map _).mem_iff.1 q)
theorem kv_use {A C : List Ent} {e : Ent} (h1 : e.k ∉ A.map Ent.k) (h2 : e.k ∉ C.map Ent.k) : Tb.useL (kv (A ++ e :: C)) e.k = kv (A ++ C ++ [e]) := by
  have e1 : kv (A ++ e :: C) = kv A ++ (e.k, e.x) :: kv C := by simp [kv]
  unfold Tb.useL
  rw [e1, Tb.look_mid (by rw [kv_keys]; exact h1)]
  simp only
  rw [Tb.rm_mid (by rw [kv_keys]; exact h1) (by rw [kv_keys]; exact h2)]
  simp [kv]
theorem TF.perm {tb mb : Nat} {E E' : List Ent} (h : E.Perm E') (i : Nat) : TF tb mb E i ↔ TF tb mb E' i := by
  unfold TF
  rw [(h.map Ent.b).mem_iff]

set_option maxHeartbeats 1000000 in
theorem get_c (w : World) (tb mb sz : Nat) (E : List Ent) (k : ByteArray) (h : TabAt w tb mb sz E) (hk : k.size ≤ 4611686018427387904) :
    Calls Try.prog 11 #[pt tb, .string k] w fun r w' => r = .returned (.tuple #[iv ((Tb.look (kv E) k).getD 0), .bool (Tb.look (kv E) k).isSome]) ∧ ∃ E', TabAt w' tb mb sz E' ∧ kv E' = Tb.useL (kv E) k ∧ E'.Perm E ∧ Fr (TF tb mb E) w w' ∧ w'.heap.size = w.heap.size := by
  obtain ⟨_, t1, _, _, _, _, _⟩ := Has.c4 h.hdr
  have hl := h.map.look k hk
  have hp := peek_c w tb mb sz E k h hk
  rcases ent_split E k h.nk with ⟨_, h2, h3⟩ | ⟨A, e, C, rfl, he, h2, h3, h4, h5⟩
  · rw [h2] at hl
    rw [h3] at hp ⊢
    change _ = Result.ok (Value.tuple #[np, .bool false]) w at hl
    have H : Keep (∃ E', TabAt w tb mb sz E' ∧ kv E' = Tb.useL (kv E) k ∧ E'.Perm E ∧ Fr (TF tb mb E) w w) := ⟨E, h, by unfold Tb.useL; rw [h3], List.Perm.refl _, Fr.refl _ _⟩
    clear h
    go_enter Try.func11, Try.ntmps11
    go_wp2_with fail
    refine hp.mono ?_
    rintro r w' ⟨rfl, rfl⟩
    go_wp2_with fail
    go_ret2
    obtain ⟨E', q1, q2, q3, q4⟩ := H.out
    exact ⟨rfl, E', q1, q2, q3, q4, rfl⟩
  · rw [h2] at hl
    change _ = Result.ok (Value.tuple #[pt e.b, .bool true]) w at hl
    have hr := ren_c w tb _ _ A C e h.hdr h.seg h.apart
    have HH : Keep (TabAt w tb mb sz (A ++ e :: C) ∧ e.k = k ∧ k ∉ A.map Ent.k ∧ k ∉ C.map Ent.k) := ⟨h, he, h4, h5⟩
    rw [h3]
    clear h hp he h4 h5
    generalize hx : e.x = x at *
    go_enter Try.func11, Try.ntmps11
    go_wp2_with fail
    refine hr.mono ?_
    rintro r w' ⟨rfl, r1, r2, r3, r4⟩
    obtain ⟨h, rfl, h4, h5⟩ := HH.out
    have hT := h.renewed r1 r2 r3
    have hp := peek_c w' tb mb sz _ e.k hT hk
    rw [← kv_use h4 h5] at hp
    have e2 : Tb.look (Tb.useL (kv (A ++ e :: C)) e.k) e.k = some x := by
      rw [← hx, kv_use h4 h5]
      have := Tb.look_mid (A := kv (A ++ C)) (C := []) (k := e.k) (x := e.x) (by rw [kv_keys]; simp only [List.map_append, List.mem_append]; exact fun q => q.elim h4 h5)
      rw [← this]; simp [kv]
    rw [e2] at hp
    have H : Keep (∃ E', TabAt w' tb mb sz E' ∧ kv E' = Tb.useL (kv (A ++ e :: C)) e.k ∧ E'.Perm (A ++ e :: C) ∧ Fr (TF tb mb (A ++ e :: C)) w w' ∧ w'.heap.size = w.heap.size) :=
      ⟨_, hT, (kv_use h4 h5).symm, perm_mid A C e, r3.mono (fun i hi => .inl ((TF.perm (perm_mid A C e) i).1 (hi.imp id .inr))), r4⟩
    clear hT r1 r2 r3 r4 h h4 h5 hr hl HH e2 t1
    go_wp2_with fail
    refine hp.mono ?_
    rintro r w1 ⟨rfl, rfl⟩
    go_wp2_with fail
    go_ret2
    exact ⟨rfl, H.out⟩
end Go.Proofs.Ytkaakbldkicnaaa
