/- table: Put. -/
import Derived.Test.YtkaakbldkicnaaaA6
namespace Go.Proofs.Ytkaakbldkicnaaa
open Go Go.RowKit Go.Maps

theorem hd_x (n : Value) (A C : List Ent) (e e' : Ent) (he : e'.b = e.b) : hd n (A ++ e' :: C) = hd n (A ++ e :: C) := by
  rw [hd_app, hd_app]; simp only [hd, he]
theorem lst_x (p : Value) (A C : List Ent) (e e' : Ent) (he : e'.b = e.b) : lst p (A ++ e' :: C) = lst p (A ++ e :: C) := by
  rw [lst_app, lst_app]; simp only [lst, he]
/-- another thing under a key -/
theorem TabAt.setx {w : World} {tb mb sz : Nat} {A C : List Ent} {e : Ent} (h : TabAt w tb mb sz (A ++ e :: C)) (y : Int) : TabAt (w.setCell ⟨e.b, 1, none⟩ (iv y)) tb mb sz (A ++ ⟨e.b, e.k, y⟩ :: C) := by
  have a := h.apart
  have eb : (A ++ (⟨e.b, e.k, y⟩ : Ent) :: C).map Ent.b = (A ++ e :: C).map Ent.b := by simp
  have ek : (A ++ (⟨e.b, e.k, y⟩ : Ent) :: C).map Ent.k = (A ++ e :: C).map Ent.k := by simp
  have em : km (A ++ (⟨e.b, e.k, y⟩ : Ent) :: C) = km (A ++ e :: C) := by simp [km]
  have F : Fr (fun i => i = e.b) w (w.setCell ⟨e.b, 1, none⟩ (iv y)) := fr_set _ _ _ _ _ rfl
  obtain ⟨q1, q2⟩ := List.nodup_cons.1 h.nb
  obtain ⟨q3, q4⟩ := List.nodup_cons.1 q2
  obtain ⟨s1, s2, s3⟩ := (seg_app ..).1 h.seg
  refine ⟨h.lo, h.hi, by have := h.le; simp at this ⊢; exact this, ?_, ?_, ?_, by rw [eb]; exact h.nb, by rw [ek]; exact h.nk, by rw [ek]; exact h.small⟩
  · have := h.hdr.other ⟨e.b, 1, none⟩ (iv y) (fun q => a.te q.symm)
    rw [tcs, hd_x np A C e ⟨e.b, e.k, y⟩ rfl, lst_x np A C e ⟨e.b, e.k, y⟩ rfl]
    exact this
  · rw [seg_app]
    exact ⟨s1.fr F (fun i hi => (a.tA i hi).2), s2.setCell 1 (iv y), s3.fr F (fun i hi => (a.tC i hi).2)⟩
  · rw [em]
    exact h.map.fr F (fun q => q3 (by rw [q]; simp))
abbrev PutPost (tb mb sz : Nat) (E : List Ent) (k : ByteArray) (x : Int) (w w' : World) : Prop :=
  ∃ E', TabAt w' tb mb sz E' ∧ kv E' = Tb.putL sz (kv E) k x ∧ Fr (TF tb mb E) w w' ∧ ∀ i, TF tb mb E' i → TF tb mb E i ∨ w.heap.size ≤ i
set_option maxHeartbeats 1000000 in
/-- the key is there -/
theorem put_1 (w : World) (tb mb sz : Nat) (A C : List Ent) (e : Ent) (x : Int) (h : TabAt w tb mb sz (A ++ e :: C)) (hk : e.k.size ≤ 281474976710656) (h4 : e.k ∉ A.map Ent.k) (h5 : e.k ∉ C.map Ent.k) :
    Calls Try.prog 10 #[pt tb, .string e.k, iv x] w fun r w' => r = .returned (.tuple #[.string ⟨#[]⟩, .bool false]) ∧ PutPost tb mb sz (A ++ e :: C) e.k x w w' := by
  obtain ⟨_, t1, _, _, _, _, _⟩ := Has.c4 h.hdr
  obtain ⟨_, e1, _, _, f1, _, _⟩ := Has.c4 (v0 := .string e.k) (v1 := iv e.x) h.entry
  have hl := h.map.look e.k (by omega)
  have h2 : Tb.look (km (A ++ e :: C)) e.k = some e.b := by rw [km_mid]; exact Tb.look_mid (by rw [km_keys]; exact h4)
  rw [h2] at hl
  change _ = Result.ok (Value.tuple #[pt e.b, .bool true]) w at hl
  have hx := h.setx x
  have hr := ren_c _ tb _ _ A C _ hx.hdr hx.seg hx.apart
  have HH : Keep (TabAt (w.setCell ⟨e.b, 1, none⟩ (iv x)) tb mb sz (A ++ ⟨e.b, e.k, x⟩ :: C) ∧ e.k ∉ A.map Ent.k ∧ e.k ∉ C.map Ent.k) := ⟨hx, h4, h5⟩
  clear h h2 hx h4 h5
  generalize hq : e.b = eb at *
  generalize hp : e.x = ex at *
  generalize hz : e.k = ek at *
  go_enter Try.func10, Try.ntmps10
  go_wp2_with fail
  refine hr.mono ?_
  rintro r w1 ⟨rfl, r1, r2, r3, r4⟩
  have H : Keep (PutPost tb mb sz (A ++ e :: C) ek x w w1) := by
    obtain ⟨hx, h4, h5⟩ := HH.out
    refine ⟨_, hx.renewed r1 r2 r3, ?_, ?_, ?_⟩
    · have h4' : ek ∉ Tb.keys (kv A) := by rw [kv_keys]; exact h4
      have h5' : ek ∉ Tb.keys (kv C) := by rw [kv_keys]; exact h5
      unfold Tb.putL
      rw [show kv (A ++ e :: C) = kv A ++ (ek, e.x) :: kv C by rw [kv_mid, hz], Tb.look_mid h4', Tb.rm_mid h4' h5']
      simp [kv]
    · refine (fr_set w _ eb 1 (iv x) (.inr (.inr (by simp [hq])))).trans (r3.mono (fun i hi => .inl ?_))
      rcases hi with q | q
      · exact .inl q
      · refine .inr (.inr ?_)
        have := ((perm_mid A C (⟨eb, ek, x⟩ : Ent)).map Ent.b).mem_iff.1 q
        simpa [hq] using this
    · intro i hi
      refine .inl ?_
      rcases hi with q | q | q
      · exact .inl q
      · exact .inr (.inl q)
      · refine .inr (.inr ?_)
        have := ((perm_mid A C (⟨eb, ek, x⟩ : Ent)).map Ent.b).mem_iff.1 q
        simpa [hq] using this
  clear r1 r2 r3 r4 HH hr
  go_wp2_with fail
  go_ret2
  exact ⟨rfl, H.out⟩
set_option maxHeartbeats 1000000 in
/-- there is room -/
theorem put_2 (w : World) (tb mb sz : Nat) (E : List Ent) (k : ByteArray) (x : Int) (h : TabAt w tb mb sz E) (hk : k.size ≤ 281474976710656) (hn : k ∉ E.map Ent.k) (hlt : E.length < sz) :
    Calls Try.prog 10 #[pt tb, .string k, iv x] w fun r w' => r = .returned (.tuple #[.string ⟨#[]⟩, .bool false]) ∧ PutPost tb mb sz E k x w w' := by
  obtain ⟨t0, t1, _, _, _, _, _⟩ := Has.c4 h.hdr
  have hl := h.map.look k (by omega)
  have h2 : Tb.look (km E) k = none := Tb.look_none.2 (by rw [km_keys]; exact hn)
  rw [h2] at hl
  change _ = Result.ok (Value.tuple #[np, .bool false]) w at hl
  have hdw := h.fr (S := fun _ => False) (Fr.ofNone (gr_drew _ .none)) (fun _ _ e => e)
  have hlen := hdw.map.len
  rw [show (km E).length = E.length by simp [km]] at hlen
  have ha := tadd_c w.drew tb mb sz E k x (h.fr (S := fun _ => False) (Fr.ofNone (gr_drew _ _)) (fun _ _ e => e)) hn hlt hk
  have HH : Keep (k ∉ E.map Ent.k ∧ E.length < sz) := ⟨hn, hlt⟩
  have hne : ¬ ((E.length : Nat) : Int) = (sz : Nat) := by omega
  clear h h2 hn hlt hdw
  have hne : (((E.length : Nat) : Int) == (sz : Nat)) = false := by simpa using hne
  generalize hq : ((E.length : Nat) : Int) = n at *
  clear hq
  go_enter Try.func10, Try.ntmps10
  go_wp2_with fail
  go_region
  go_wp2_with fail
  refine ha.mono ?_
  rintro r w1 ⟨rfl, b, r1, r2, r3⟩
  have H : Keep (PutPost tb mb sz E k x w w1) := by
    obtain ⟨hn, hlt⟩ := HH.out
    refine ⟨_, r2, ?_, (Fr.ofNone (gr_drew w none)).trans r3, ?_⟩
    · unfold Tb.putL
      rw [Tb.look_none.2 (by rw [kv_keys]; exact hn)]
      rw [if_neg (by simp), if_neg (by simp [kv]; omega)]
      simp [kv]
    · rintro i (q | q | q)
      · exact .inl (.inl q)
      · exact .inl (.inr (.inl q))
      · rw [List.map_append] at q
        rcases List.mem_append.1 q with q | q
        · exact .inl (.inr (.inr q))
        · simp at q; exact .inr (by rw [q]; exact r1)
  clear r1 r2 r3 ha HH
  go_wp2_with fail
  go_ret2
  exact ⟨rfl, H.out⟩
set_option maxHeartbeats 1000000 in
/-- there is none: the first goes -/
theorem put_3 (w : World) (tb mb sz : Nat) (e : Ent) (C : List Ent) (k : ByteArray) (x : Int) (h : TabAt w tb mb sz (e :: C)) (hk : k.size ≤ 281474976710656) (hn : k ∉ (e :: C).map Ent.k) (hlt : (e :: C).length = sz) :
    Calls Try.prog 10 #[pt tb, .string k, iv x] w fun r w' => r = .returned (.tuple #[.string e.k, .bool true]) ∧ PutPost tb mb sz (e :: C) k x w w' := by
  obtain ⟨t0, t1, t2, _, _, _, _⟩ := Has.c4 (v0 := iv sz) (v1 := .map (some mb)) (v2 := pt e.b) h.hdr
  obtain ⟨e0, _, _, _, f1, _, _⟩ := Has.c4 (v0 := .string e.k) (v1 := iv e.x) (TabAt.entry (A := []) h)
  have hl := h.map.look k (by omega)
  have h2 : Tb.look (km (e :: C)) k = none := Tb.look_none.2 (by rw [km_keys]; exact hn)
  rw [h2] at hl
  change _ = Result.ok (Value.tuple #[np, .bool false]) w at hl
  have hdw := h.fr (S := fun _ => False) (Fr.ofNone (gr_drew _ .none)) (fun _ _ e => e)
  have hlen := hdw.map.len
  rw [show (km (e :: C)).length = sz by rw [← hlt]; simp [km]] at hlen
  have hd := del_c w.drew tb mb sz (e :: C) e.k (h.fr (S := fun _ => False) (Fr.ofNone (gr_drew _ _)) (fun _ _ e => e)) (by have := h.small e.k (by simp); omega)
  have HH : Keep (k ∉ (e :: C).map Ent.k ∧ (e :: C).length = sz ∧ e.k ∉ C.map Ent.k) := ⟨hn, hlt, (List.nodup_cons.1 h.nk).1⟩
  clear h h2 hn hlt hdw
  generalize hq : e.b = eb at *
  generalize hz : e.k = ek at *
  go_enter Try.func10, Try.ntmps10
  go_wp2_with fail
  go_region
  go_wp2_with fail
  refine hd.mono ?_
  rintro r w1 ⟨rfl, E', r1, r2, r3, r4, r5⟩
  obtain ⟨hn, hlt, hc⟩ := HH.out
  have ekv : kv E' = kv C := by
    rw [r2, ← hz]
    exact Tb.rm_mid (A := []) (C := kv C) (k := e.k) (x := e.x) (by simp) (by rw [kv_keys, hz]; exact hc)
  have hk' : E'.map Ent.k = C.map Ent.k := by rw [← kv_keys, ekv, kv_keys]
  have hlen' : E'.length = C.length := by
    have := congrArg List.length ekv
    simpa [kv] using this
  have ha := tadd_c w1 tb mb sz E' k x r1 (by rw [hk']; exact fun q => hn (by simp only [List.map_cons, List.mem_cons]; exact .inr q)) (by rw [hlen', ← hlt]; simp) hk
  have HF : Keep (Fr (TF tb mb (e :: C)) w w1 ∧ E'.Sublist (e :: C) ∧ kv E' = kv C ∧ w1.heap.size = w.heap.size) := ⟨(Fr.ofNone (gr_drew w none)).trans r4, r3, ekv, r5⟩
  clear r1 r2 r3 r4 r5 hd hn hlt hc ekv hk' hlen'
  go_wp2_with fail
  refine ha.mono ?_
  rintro r w2 ⟨rfl, b, r1, r2, r3⟩
  have H : Keep (PutPost tb mb sz (e :: C) k x w w2) := by
    obtain ⟨hn, hlt, hc⟩ := HH.out
    obtain ⟨f1, f2, f3, f4⟩ := HF.out
    have hsub : ∀ i, TF tb mb E' i → TF tb mb (e :: C) i := fun i hi => hi.imp id (fun q => q.imp id (fun q => (f2.map Ent.b).subset q))
    refine ⟨_, r2, ?_, f1.then r3 (fun i hi => .inl (hsub i hi)), ?_⟩
    · unfold Tb.putL
      rw [Tb.look_none.2 (by rw [kv_keys]; exact hn)]
      rw [if_neg (by simp), if_pos (by simpa [kv] using hlt)]
      have e1 : kv (E' ++ [⟨b, k, x⟩]) = kv E' ++ [(k, x)] := by simp [kv]
      rw [e1, f3]
      rfl
    · rintro i (q | q | q)
      · exact .inl (.inl q)
      · exact .inl (.inr (.inl q))
      · rw [List.map_append] at q
        rcases List.mem_append.1 q with q | q
        · exact .inl (hsub i (.inr (.inr q)))
        · simp at q; exact .inr (by rw [q, ← f4]; exact r1)
  clear r1 r2 r3 ha HH HF
  go_wp2_with fail
  go_ret2
  exact ⟨rfl, H.out⟩
theorem put_c (w : World) (tb mb sz : Nat) (E : List Ent) (k : ByteArray) (x : Int) (h : TabAt w tb mb sz E) (hk : k.size ≤ 281474976710656) :
    Calls Try.prog 10 #[pt tb, .string k, iv x] w fun r w' => r = .returned (.tuple #[.string (Tb.goneK sz (kv E) k), .bool (Tb.goneB sz (kv E) k)]) ∧ PutPost tb mb sz E k x w w' := by
  rcases ent_split E k h.nk with ⟨h1, h2, h3⟩ | ⟨A, e, C, rfl, he, h2, h3, h4, h5⟩
  · have hle := h.le
    have hlo := h.lo
    by_cases hq : E.length = sz
    · cases E with
      | nil => simp at hq; omega
      | cons e C =>
        have eb : Tb.goneB sz (kv (e :: C)) k = true := by unfold Tb.goneB; rw [h3]; simpa [kv] using hq
        have ek : Tb.goneK sz (kv (e :: C)) k = e.k := by unfold Tb.goneK; rw [eb]; simp [kv]
        rw [eb, ek]
        exact put_3 w tb mb sz e C k x h hk h1 hq
    · have eb : Tb.goneB sz (kv E) k = false := by unfold Tb.goneB; rw [h3]; simpa [kv] using hq
      have ek : Tb.goneK sz (kv E) k = ⟨#[]⟩ := by unfold Tb.goneK; rw [eb]; simp
      rw [eb, ek]
      exact put_2 w tb mb sz E k x h hk h1 (by omega)
  · subst he
    have eb : Tb.goneB sz (kv (A ++ e :: C)) e.k = false := by unfold Tb.goneB; rw [h3]; simp
    have ek : Tb.goneK sz (kv (A ++ e :: C)) e.k = ⟨#[]⟩ := by unfold Tb.goneK; rw [eb]; simp
    rw [eb, ek]
    exact put_1 w tb mb sz A C e x h hk h4 h5
end Go.Proofs.Ytkaakbldkicnaaa
