/- table: Each. -/
import Derived.Test.YtkaakbldkicnaaaB3
namespace Go.Proofs.Ytkaakbldkicnaaa
open Go Go.RowKit Go.Maps

theorem kv_setL {A C : List Ent} {e : Ent} (h1 : e.k ∉ A.map Ent.k) (h2 : e.k ∉ C.map Ent.k) (y : Int) : Tb.setL (kv (A ++ e :: C)) e.k y = kv (A ++ ⟨e.b, e.k, y⟩ :: C) := by
  rw [kv_mid, kv_mid, Tb.setL_mid (by rw [kv_keys]; exact h1) (by rw [kv_keys]; exact h2)]
/-- a key is looked for in the map, and its thing changed -/
theorem tab_look {w0 W : World} {l : List As} {tb sz : Nat} {L : KV} (h : Sep w0 W (tabA tb sz L :: l)) (k : ByteArray) (hk : k.size ≤ 4611686018427387904) :
    ∃ mb, W.cell? ⟨tb, 1, none⟩ = some (.map (some mb)) ∧ ((Tb.look L k = none ∧ (Instr.lookup 64 (.map (some mb)) (.string k) true).run Try.prog W = .ok (.tuple #[np, .bool false]) W) ∨
      ∃ x eb, Tb.look L k = some x ∧ (Instr.lookup 64 (.map (some mb)) (.string k) true).run Try.prog W = .ok (.tuple #[pt eb, .bool true]) W ∧ W.cell? ⟨eb, 1, none⟩ = some (iv x) ∧ W.frozen? ⟨eb, 1, none⟩ = false ∧
        ∀ y, Sep w0 (W.setCell ⟨eb, 1, none⟩ (iv y)) (tabA tb sz (Tb.setL L k y) :: l)) := by
  obtain ⟨F, ⟨mb, E, h1, rfl, rfl⟩, _, hu⟩ := h.use
  obtain ⟨_, t1, _, _, _, _, _⟩ := Has.c4 (v0 := iv sz) (v1 := .map (some mb)) h1.hdr
  have hl := h1.map.look k hk
  refine ⟨mb, t1, ?_⟩
  rcases ent_split E k h1.nk with ⟨_, h2, h3⟩ | ⟨A, e, C, rfl, he, h2, h3, h4, h5⟩
  · rw [h2] at hl
    exact .inl ⟨h3, hl⟩
  · rw [h2] at hl
    obtain ⟨_, e1, _, _, f1, _, _⟩ := Has.c4 (v0 := .string e.k) (v1 := iv e.x) h1.entry
    subst he
    refine .inr ⟨e.x, e.b, h3, hl, e1, f1, fun y => ?_⟩
    refine hu _ [_] (fr_set _ _ _ _ _ (.inr (.inr (by simp)))) (Loc.one (a := tabA tb sz _) (TF tb mb (A ++ ⟨e.b, e.k, y⟩ :: C)) ⟨mb, _, h1.setx y, (kv_setL h4 h5 y).symm, rfl⟩ (fun i hi => .inl ?_))
    simpa [TF] using hi
set_option maxHeartbeats 8000000 in
theorem each_pos (w0 W : World) (tb sz n : Nat) (fn : FuncId) (fr : Array Value) (hf : ∀ a W, (callFunc fn a).run Try.prog W = .ok (.enter fn a) W)
    (I : Nat → KV → List As → Prop) (L0 : KV) (l0 : List As) (h : Sep w0 W (tabA tb sz L0 :: l0)) (hI : I 0 L0 l0) (hn : L0.length = n) (hp : 0 < n)
    (hskip : ∀ i L l k, (Tb.keys L0)[i]? = some k → I i L l → Tb.look L k = none → I (i + 1) L l)
    (hcall : ∀ i L l k x W v, (Tb.keys L0)[i]? = some k → I i L l → Tb.look L k = some x → Sep w0 W (tabA tb sz L :: rowA v (Tb.keys L0) :: l) →
      Calls Try.prog fn (#[.string k, iv x] ++ fr) W fun r W' => ∃ y L' l', r = .returned (iv y) ∧ Sep w0 W' (tabA tb sz L' :: rowA v (Tb.keys L0) :: l') ∧ I (i + 1) (Tb.setL L' k y) l') :
    Calls Try.prog 21 #[pt tb, .func (.func fn) #[] fr] W fun r W' => r = .returned (.tuple #[]) ∧ ∃ L l, I n L l ∧ Sep w0 W' (tabA tb sz L :: l) := by
  have ok := h.tab (List.mem_cons_self ..)
  have hK := keys_s h (List.mem_cons_self ..)
  have HI : Keep (I 0 L0 l0 ∧ (∀ i L l k, (Tb.keys L0)[i]? = some k → I i L l → Tb.look L k = none → I (i + 1) L l) ∧ (∀ i L l k x W v, (Tb.keys L0)[i]? = some k → I i L l → Tb.look L k = some x → Sep w0 W (tabA tb sz L :: rowA v (Tb.keys L0) :: l) →
      Calls Try.prog fn (#[.string k, iv x] ++ fr) W fun r W' => ∃ y L' l', r = .returned (iv y) ∧ Sep w0 W' (tabA tb sz L' :: rowA v (Tb.keys L0) :: l') ∧ I (i + 1) (Tb.setL L' k y) l')) := ⟨hI, hskip, hcall⟩
  have HK : Keep (L0.length ≤ 4096 ∧ (∀ k ∈ Tb.keys L0, k.size ≤ 281474976710656)) := ⟨by have := ok.le; have := ok.hi; omega, ok.small⟩
  clear h hI hskip hcall ok
  go_enter Try.func21, Try.ntmps21
  go_wp2_with fail
  refine hK.mono ?_
  rintro r w1 ⟨v, rfl, S1⟩
  clear hK
  obtain ⟨a, c, rfl, _⟩ := (S1.row (List.mem_cons_self ..)).form (by rw [List.length_map, hn]; exact hp)
  have hkl : (Tb.keys L0).length = n := by rw [List.length_map]; exact hn
  rw [hkl] at S1 ⊢
  have HN : Keep (L0.length = n ∧ (Tb.keys L0).length = n ∧ n ≤ 4096) := ⟨hn, hkl, by rw [← hn]; exact HK.out.1⟩
  have hn4 : (n : Int) ≤ 4096 := by have := HN.out; omega
  have H1 : Keep (∃ L l, I 0 L l ∧ Sep w0 w1 (tabA tb sz L :: rowA (.slice (some a) n c) (Tb.keys L0) :: l)) := ⟨L0, l0, HI.out.1, S1.swap⟩
  clear S1 hkl hp hn
  go_wp2_with fail
  go_loopw [14] (fun v wr => ∃ i : Nat, i ≤ n ∧ v = .int .i64 i ∧ Keep (∃ L l, I i L l ∧ Sep w0 wr (tabA tb sz L :: rowA (.slice (some a) n c) (Tb.keys L0) :: l))) (fun v _ => (n - intOf v).toNat)
  case atStart => exact ⟨0, by omega, rfl, H1⟩
  case round =>
    clear H1
    obtain ⟨i, hi, rfl, hR⟩ := hrel
    obtain ⟨L, l, hI, S⟩ := hR.out
    by_cases hlt : i < n
    · obtain ⟨k, hk⟩ : ∃ k, (Tb.keys L0)[i]? = some k := ⟨_, List.getElem?_eq_getElem (by rw [HN.out.2.1]; exact hlt)⟩
      have hks := HK.out.2 k (List.mem_of_getElem? hk)
      have ci := (S.row (List.mem_cons_of_mem _ (List.mem_cons_self ..))).cell hk
      have hi0 : (0 : Int) ≤ (i : Int) := by omega
      have hi1 : (i : Int) < (n : Nat) := by omega
      have hti : ((i : Nat) : Int).toNat = i := by omega
      have hwi : IntKind.i64.wrap ((i : Int) + 1) = ((i + 1 : Nat) : Int) := by rw [wi _ (by omega) (by omega)]; omega
      have HX : Keep (i < n ∧ (Tb.keys L0)[i]? = some k ∧ I i L l ∧ k.size ≤ 281474976710656) := ⟨hlt, hk, hI, hks⟩
      obtain ⟨mb, t1, hcase⟩ := tab_look S k (by omega)
      rcases hcase with ⟨hl, hlk⟩ | ⟨x, eb, hl, hlk, e1, f1, _⟩
      · have H2 : Keep (∃ L l, I (i + 1) L l ∧ Sep w0 wr (tabA tb sz L :: rowA (.slice (some a) n c) (Tb.keys L0) :: l)) := ⟨L, l, HI.out.2.1 i L l k hk hI hl, S⟩
        clear hk hI S hR hl hi
        go_wp2_with fail
        exact ⟨⟨i + 1, by have := HX.out.1; omega, rfl, H2⟩, by have := HX.out.1; simp only [intOf]; omega⟩
      · have hC := HI.out.2.2 i L l k x wr (.slice (some a) n c) hk hI hl S
        clear hk hI S hR hl hi
        go_wp2_with fail
        refine hC.mono ?_
        rintro r w2 ⟨y, L', l', rfl, S2, hI2⟩
        clear hC hlk e1 f1 t1 ci
        have hst := HN
        obtain ⟨mb2, t2, hcase⟩ := tab_look S2 k (by have := HX.out.2.2.2; omega)
        rcases hcase with ⟨hl, hlk⟩ | ⟨x2, eb2, hl, hlk, e1, f1, hset⟩
        · have H2 : Keep (∃ L l, I (i + 1) L l ∧ Sep w0 w2 (tabA tb sz L :: rowA (.slice (some a) n c) (Tb.keys L0) :: l)) := ⟨L', l', by rw [Tb.setL_none (Tb.look_none.1 hl)] at hI2; exact hI2, S2⟩
          clear S2 hI2 hl
          go_wp2_with fail
          exact ⟨⟨i + 1, by have := HX.out.1; omega, rfl, H2⟩, by have := HX.out.1; simp only [intOf]; omega⟩
        · have H2 : Keep (∃ L l, I (i + 1) L l ∧ Sep w0 (w2.setCell ⟨eb2, 1, none⟩ (iv y)) (tabA tb sz L :: rowA (.slice (some a) n c) (Tb.keys L0) :: l)) := ⟨_, l', hI2, hset y⟩
          clear S2 hI2 hl hset
          go_wp2_with fail
          exact ⟨⟨i + 1, by have := HX.out.1; omega, rfl, H2⟩, by have := HX.out.1; simp only [intOf]; omega⟩
    · obtain rfl : i = n := by omega
      have H2 : Keep (∃ L l, I i L l ∧ Sep w0 wr (tabA tb sz L :: l)) := ⟨L, l, hI, S.swap.tail⟩
      clear hI S hR hlt hi
      go_wp2_with fail
      go_end0
      exact ⟨rfl, H2.out⟩
set_option maxHeartbeats 8000000 in
theorem each_nil (w0 W : World) (tb sz : Nat) (fv : Value) (l0 : List As) (h : Sep w0 W (tabA tb sz [] :: l0)) :
    Calls Try.prog 21 #[pt tb, fv] W fun r W' => r = .returned (.tuple #[]) ∧ Sep w0 W' (tabA tb sz [] :: l0) := by
  have hK := keys_s h (List.mem_cons_self ..)
  clear h
  go_enter Try.func21, Try.ntmps21
  go_wp2_with fail
  refine hK.mono ?_
  rintro r w1 ⟨v, rfl, S1⟩
  clear hK
  obtain ⟨a, c, rfl⟩ := (S1.row (List.mem_cons_self ..)).slice
  have H1 : Keep (Sep w0 w1 (tabA tb sz [] :: l0)) := ⟨S1.tail⟩
  clear S1
  rw [show (Tb.keys ([] : KV)).length = 0 from rfl]
  go_wp2_with fail
  go_loopw [14] (fun v wr => v = .int .i64 0 ∧ Keep (Sep w0 wr (tabA tb sz [] :: l0))) (fun _ _ => 0)
  case atStart => exact ⟨rfl, H1⟩
  case round =>
    obtain ⟨rfl, hR⟩ := hrel
    go_wp2_with fail
    go_end0
    exact ⟨rfl, hR.out⟩
end Go.Proofs.Ytkaakbldkicnaaa
