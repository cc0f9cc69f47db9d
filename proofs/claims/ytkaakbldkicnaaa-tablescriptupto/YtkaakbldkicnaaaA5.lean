/- table: Delete, add, New. -/
import Derived.Test.YtkaakbldkicnaaaA4
import Derived.Test.YtkaakbldkicnaaaShelf
namespace Go.Proofs.Ytkaakbldkicnaaa
open Go Go.RowKit Go.Maps

theorem gr_below {w w' : World} (h : Below w.heap.size w w') : w.grownBy w' none := ⟨h.os, h.tape, h.output, h.size, fun k hk _ => h.block k hk⟩
theorem clone_c (s : ByteArray) (w : World) (hs : s.size ≤ 281474976710656) :
    Calls Try.prog 35 #[.string s] w fun e w' => e = .returned (.string s) ∧ w.grownBy w' none := by
  go_enter Try.func35, Try.ntmps35
  go_wp2_with fail
  refine (Try.stringslite_Clone s _ hs).mono ?_
  rintro e w1 ⟨rfl, hB⟩
  have HG : Keep (w.grownBy w1 none) := ⟨gr_below hB⟩
  clear hB
  go_wp2_with fail
  go_ret
  exact ⟨rfl, HG.out⟩
theorem km_mid (A C : List Ent) (e : Ent) : km (A ++ e :: C) = km A ++ (e.k, e.b) :: km C := by simp [km]
theorem kv_mid (A C : List Ent) (e : Ent) : kv (A ++ e :: C) = kv A ++ (e.k, e.x) :: kv C := by simp [kv]
/-- an entry is taken out -/
theorem TabAt.removed {w w1 w2 : World} {tb mb sz : Nat} {A C : List Ent} {e : Ent} (h : TabAt w tb mb sz (A ++ e :: C)) (h1 : Has w1 tb (tcs (iv sz) (.map (some mb)) (A ++ C)) 69) (h2 : Seg w1 np (A ++ C) np) (hm : MapIs w2 mb (km (A ++ C))) (g : w1.grownBy w2 (some mb)) : TabAt w2 tb mb sz (A ++ C) := by
  have hsub : (A ++ C).Sublist (A ++ e :: C) := List.Sublist.append (List.Sublist.refl _) (List.sublist_cons_self _ _)
  obtain ⟨q1, q2⟩ := List.nodup_cons.1 h.nb
  obtain ⟨q3, q4⟩ := List.nodup_cons.1 q2
  have hl := h.le
  refine ⟨h.lo, h.hi, by simp at hl ⊢; omega, h1.fr (Fr.of g) (fun e => q1 (by cases e; simp)), h2.fr (Fr.of g) (fun i hi q => q3 ?_), hm, ((hsub.map Ent.b).cons_cons mb |>.cons_cons tb).nodup h.nb, (hsub.map _).nodup h.nk, fun k hk => h.small k ((hsub.map _).subset hk)⟩
  cases q
  exact (hsub.map Ent.b).subset hi
set_option maxHeartbeats 1000000 in
theorem del_c (w : World) (tb mb sz : Nat) (E : List Ent) (k : ByteArray) (h : TabAt w tb mb sz E) (hk : k.size ≤ 4611686018427387904) :
    Calls Try.prog 24 #[pt tb, .string k] w fun r w' => r = .returned (.bool (Tb.look (kv E) k).isSome) ∧ ∃ E', TabAt w' tb mb sz E' ∧ kv E' = Tb.rm (kv E) k ∧ E'.Sublist E ∧ Fr (TF tb mb E) w w' ∧ w'.heap.size = w.heap.size := by
  obtain ⟨_, t1, _, _, _, _, _⟩ := Has.c4 h.hdr
  have hl := h.map.look k hk
  rcases ent_split E k h.nk with ⟨h1, h2, h3⟩ | ⟨A, e, C, rfl, he, h2, h3, h4, h5⟩
  · rw [h2] at hl
    rw [h3]
    change _ = Result.ok (Value.tuple #[np, .bool false]) w at hl
    have H : Keep (∃ E', TabAt w tb mb sz E' ∧ kv E' = Tb.rm (kv E) k ∧ E'.Sublist E ∧ Fr (TF tb mb E) w w) := ⟨E, h, (Tb.rm_none (by rw [kv_keys]; exact h1)).symm, List.Sublist.refl _, Fr.refl _ _⟩
    clear h h1 h2 h3
    go_enter Try.func24, Try.ntmps24
    go_wp2_with fail
    go_ret
    obtain ⟨E', q1, q2, q3, q4⟩ := H.out
    exact ⟨rfl, E', q1, q2, q3, q4, rfl⟩
  · rw [h2] at hl
    change _ = Result.ok (Value.tuple #[pt e.b, .bool true]) w at hl
    have hr := rem_c w tb _ _ A C e h.hdr h.seg h.apart
    have HH : Keep (TabAt w tb mb sz (A ++ e :: C) ∧ e.k = k ∧ k ∉ A.map Ent.k ∧ k ∉ C.map Ent.k) := ⟨h, he, h4, h5⟩
    rw [h3]
    clear h he h4 h5 h2 h3
    go_enter Try.func24, Try.ntmps24
    go_wp2_with fail
    refine hr.mono ?_
    rintro r w1 ⟨rfl, r1, r2, r3, r4, r5⟩
    obtain ⟨h, rfl, h4, h5⟩ := HH.out
    have hm : MapIs w1 mb (km (A ++ e :: C)) := h.map.fr r4 (by
      obtain ⟨q1, q2⟩ := List.nodup_cons.1 h.nb
      obtain ⟨q3, q4⟩ := List.nodup_cons.1 q2
      rintro (q | q)
      · exact q1 (by simp [q])
      · exact q3 (((List.Sublist.append (List.Sublist.refl A) (List.sublist_cons_self e C)).map Ent.b).subset q))
    obtain ⟨_, u1, _, _, _, _, _⟩ := Has.c4 r1
    have hk1 : (Tb.keys (km (A ++ e :: C))).Nodup := by rw [km_keys]; exact h.nk
    have hk2 : Tb.look (km (A ++ e :: C)) e.k = some e.b := by rw [km_mid]; exact Tb.look_mid (by rw [km_keys]; exact h4)
    obtain ⟨w2, m1, m2, m3, m4⟩ := hm.drop e.k hk 0 hk1 e.b hk2
    have er : Tb.rm (km (A ++ e :: C)) e.k = km (A ++ C) := by
      rw [km_mid, Tb.rm_mid (by rw [km_keys]; exact h4) (by rw [km_keys]; exact h5)]; simp [km]
    rw [er] at m2
    have H : Keep (∃ E', TabAt w2 tb mb sz E' ∧ kv E' = Tb.rm (kv (A ++ e :: C)) e.k ∧ E'.Sublist (A ++ e :: C) ∧ Fr (TF tb mb (A ++ e :: C)) w w2 ∧ w2.heap.size = w.heap.size) := by
      refine ⟨_, h.removed r1 r2 m2 m3, ?_, List.Sublist.append (List.Sublist.refl _) (List.sublist_cons_self _ _), (r4.mono (fun i hi => .inl (hi.imp id (fun q => .inr (((List.Sublist.append (List.Sublist.refl A) (List.sublist_cons_self e C)).map Ent.b).subset q))))).trans ((Fr.of m3).mono (fun i hi => .inl (.inr (.inl (by cases hi; rfl))))), by rw [m4, r5]⟩
      rw [kv_mid, Tb.rm_mid (by rw [kv_keys]; exact h4) (by rw [kv_keys]; exact h5)]; simp [kv]
    clear hm hk1 hk2 er m2 m3 m4 h h4 h5 r1 r2 r3 r4 r5 hr hl HH
    go_wp2_with fail
    go_ret
    exact ⟨rfl, H.out⟩
end Go.Proofs.Ytkaakbldkicnaaa
