/- table: add, New, Put. -/
import Derived.Test.YtkaakbldkicnaaaA5
namespace Go.Proofs.Ytkaakbldkicnaaa
open Go Go.RowKit Go.Maps

set_option maxHeartbeats 1000000 in
theorem tadd_c (w : World) (tb mb sz : Nat) (E : List Ent) (k : ByteArray) (x : Int) (h : TabAt w tb mb sz E) (hn : k ∉ E.map Ent.k) (hl : E.length < sz) (hk : k.size ≤ 281474976710656) :
    Calls Try.prog 34 #[pt tb, .string k, iv x] w fun r w' => r = .returned (.tuple #[]) ∧ ∃ b, w.heap.size ≤ b ∧ TabAt w' tb mb sz (E ++ [⟨b, k, x⟩]) ∧ Fr (TF tb mb E) w w' := by
  have H0 : Keep (TabAt w tb mb sz E ∧ k ∉ E.map Ent.k ∧ E.length < sz) := ⟨h, hn, hl⟩
  clear h hn hl
  go_enter Try.func34, Try.ntmps34
  go_wp2_with fail
  refine (clone_c k _ hk).mono ?_
  rintro r w1 ⟨rfl, g1⟩
  obtain ⟨h, hn, hl⟩ := H0.out
  have h1 : TabAt w1 tb mb sz E := h.fr (S := fun _ => False) (Fr.ofNone g1) (fun _ _ e => e)
  have h2 : TabAt (w1.alloc (.cells #[.string k, iv x, np, np] 72)).drew tb mb sz E := h1.fr (S := fun _ => False) ((Fr.ofNone (World.grownBy_alloc _ _ _)).trans (Fr.ofNone (gr_drew _ _))) (fun _ _ e => e)
  have he : Has (w1.alloc (.cells #[.string k, iv x, np, np] 72)).drew w1.heap.size [.string k, iv x, np, np] 72 := Has.newA _ _ _
  have F2 : Fr (TF tb mb E) w (w1.alloc (.cells #[.string k, iv x, np, np] 72)).drew := ((Fr.ofNone g1).trans (Fr.ofNone (World.grownBy_alloc _ _ _))).trans (Fr.ofNone (gr_drew _ _))
  obtain ⟨w3, m1, m2, m3, m4⟩ := h2.map.put k (by omega) w1.heap.size (Tb.look_none.2 (by rw [km_keys]; exact hn)) (by have := h.hi; simp [km]; omega)
  have t1 : (w1.alloc (.cells #[.string k, iv x, np, np] 72)).cell? ⟨tb, 1, none⟩ = some (.map (some mb)) := Has.cellv (w := (w1.alloc (.cells #[.string k, iv x, np, np] 72))) h2.hdr 1 _ rfl
  have e0 : (w1.alloc (.cells #[.string k, iv x, np, np] 72)).cell? ⟨w1.heap.size, 0, none⟩ = some (.string k) := Has.cellv (w := (w1.alloc (.cells #[.string k, iv x, np, np] 72))) he 0 _ rfl
  have hlt := h1.lt
  obtain ⟨q1, q2⟩ := List.nodup_cons.1 h.nb
  obtain ⟨q3, q4⟩ := List.nodup_cons.1 q2
  have hn3 : tb ≠ mb := fun e => q1 (by simp [e])
  have hdr3 : Has w3 tb (tcs (iv sz) (.map (some mb)) E) 69 := h2.hdr.fr (Fr.of m3) (fun e => by cases e; exact hn3 rfl)
  have seg3 : Seg w3 np E np := h2.seg.fr (Fr.of m3) (fun i hi e => by cases e; exact q3 hi)
  have he3 : Has w3 w1.heap.size [.string k, iv x, np, np] 72 := he.fr (Fr.of m3) (fun e => by have := hlt mb (.inr (.inl rfl)); injection e; omega)
  have nb3 : (tb :: (E ++ [(⟨w1.heap.size, k, x⟩ : Ent)]).map Ent.b).Nodup := by
    rw [List.map_append]
    refine List.nodup_cons.2 ⟨fun q => ?_, List.nodup_append.2 ⟨q4, by simp, fun a ha b hb e => ?_⟩⟩
    · simp only [List.mem_append, List.map_cons, List.map_nil, List.mem_singleton] at q
      rcases q with q | q
      · exact q1 (by simp only [List.mem_cons]; exact .inr q)
      · have := hlt tb (.inl rfl); omega
    · simp at hb
      have := hlt a (.inr (.inr ha)); omega
  have nb4 : (tb :: mb :: (E ++ [(⟨w1.heap.size, k, x⟩ : Ent)]).map Ent.b).Nodup := by
    obtain ⟨p1, p2⟩ := List.nodup_cons.1 nb3
    refine List.nodup_cons.2 ⟨fun q => ?_, List.nodup_cons.2 ⟨fun q => ?_, p2⟩⟩
    · rcases List.mem_cons.1 q with q | q
      · exact hn3 q
      · exact p1 q
    · rw [List.map_append] at q
      rcases List.mem_append.1 q with q | q
      · exact q3 q
      · simp at q
        have := hlt mb (.inr (.inl rfl)); omega
  have HA := add_c w3 tb (iv sz) (.map (some mb)) np np E ⟨w1.heap.size, k, x⟩ hdr3 seg3 he3 nb3
  have HM : Keep (MapIs w3 mb (km E ++ [(k, w1.heap.size)]) ∧ Fr (TF tb mb E) w w3 ∧ (tb :: mb :: (E ++ [(⟨w1.heap.size, k, x⟩ : Ent)]).map Ent.b).Nodup ∧ w.heap.size ≤ w1.heap.size) :=
    ⟨m2, F2.trans ((Fr.of m3).mono (fun i hi => .inl (.inr (.inl (by cases hi; rfl))))), nb4, g1.size⟩
  clear h h1 h2 he F2 m2 m3 m4 hlt q1 q2 q3 q4 hdr3 seg3 he3 nb3 nb4 hn hl g1
  generalize hq : w1.heap.size = eb at *
  go_wp2_with fail
  go_region
  go_wp2_with fail
  refine HA.mono ?_
  rintro r w4 ⟨rfl, r1, r2, r3, r4⟩
  obtain ⟨m2, F3, nb, hs⟩ := HM.out
  have HR : Keep (∃ b, w.heap.size ≤ b ∧ TabAt w4 tb mb sz (E ++ [⟨b, k, x⟩]) ∧ Fr (TF tb mb E) w w4) := by
    obtain ⟨h, hn, hl⟩ := H0.out
    refine ⟨eb, hs, ⟨h.lo, h.hi, by simp; omega, r1, r2, ?_, nb, ?_, ?_⟩, F3.then r3 ?_⟩
    · have e : km (E ++ [⟨eb, k, x⟩]) = km E ++ [(k, eb)] := by simp [km]
      rw [e]
      refine m2.fr r3 ?_
      obtain ⟨q1, q2⟩ := List.nodup_cons.1 nb
      rintro (q | q)
      · exact q1 (by simp [q])
      · exact (List.nodup_cons.1 q2).1 q
    · rw [List.map_append]
      exact List.nodup_append.2 ⟨h.nk, by simp, fun a ha b hb e => by simp at hb; subst hb; subst e; exact hn ha⟩
    · intro k' hk'
      rw [List.map_append] at hk'
      rcases List.mem_append.1 hk' with q | q
      · exact h.small k' q
      · simp at q; rw [q]; exact hk
    · rintro i (q | q)
      · exact .inl (.inl q)
      · rw [List.map_append] at q
        rcases List.mem_append.1 q with q | q
        · exact .inl (.inr (.inr q))
        · simp at q; exact .inr (by omega)
  clear r1 r2 r3 r4 m2 F3 nb hs HM H0 HA
  go_wp2_with fail
  go_end0
  exact ⟨rfl, HR.out⟩
theorem new_no (sz : Int) (w : World) (h : ¬ (1 ≤ sz ∧ sz ≤ 4096)) :
    Calls Try.prog 9 #[iv sz] w fun e w' => e = .returned (.tuple #[np, iv 110]) ∧ w' = w := by
  go_enter Try.func9, Try.ntmps9
  by_cases h0 : sz < 1
  · go_wp2_with fail
    go_ret2
    exact ⟨rfl, rfl⟩
  · have h1 : 4096 < sz := by omega
    go_wp2_with fail
    go_ret2
    exact ⟨rfl, rfl⟩
theorem new_yes (sz : Nat) (w : World) (h : 1 ≤ sz) (h2 : sz ≤ 4096) :
    Calls Try.prog 9 #[iv (sz : Nat)] w fun e w' => ∃ tb, e = .returned (.tuple #[pt tb, iv 0]) ∧ ∃ mb, TabAt w' tb mb sz [] ∧ w.grownBy w' none ∧ w.heap.size ≤ tb ∧ w.heap.size ≤ mb := by
  have h0 : ¬ ((sz : Int) < 1) := by omega
  have h1 : ¬ (4096 < (sz : Int)) := by omega
  have hmm := @run_makeMap Try.prog
  go_enter Try.func9, Try.ntmps9
  go_wp2_with fail
  go_ret2
  have g1 := World.grownBy_alloc w (Obj.map #[] 0) none
  have g2 := World.grownBy_alloc (w.alloc (Obj.map #[] 0)) (Obj.cells #[iv ↑sz, Value.map (some w.heap.size), Value.pointer none, Value.pointer none] 69) none
  have hsz : (w.alloc (Obj.map #[] 0)).heap.size = w.heap.size + 1 := by simp
  refine ⟨w.heap.size + 1, rfl, w.heap.size, ⟨h, h2, Nat.zero_le _, ?_, trivial, ?_, by simp, by simp, fun k hk => by cases hk⟩, g1.trans g2, by omega, by omega⟩
  · have := Has.newA (w.alloc (Obj.map #[] 0)) #[iv ↑sz, Value.map (some w.heap.size), Value.pointer none, Value.pointer none] 69
    rw [hsz] at this
    exact this
  · exact (MapIs.new w).fr (S := fun _ => False) (Fr.ofNone g2) (fun e => e)
end Go.Proofs.Ytkaakbldkicnaaa
