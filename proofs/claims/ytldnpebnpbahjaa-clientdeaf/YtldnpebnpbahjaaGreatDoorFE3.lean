import Derived.Test.YtldnpebnpbahjaaGreatDoorFE2
/- frame.Decode -/
namespace Go.Proofs.YtldnpebnpbahjaaGreatDoor.Pk
open Go Go.RowKit

set_option maxRecDepth 100000 in
theorem results_cc {fn : Func} {p q : Tmp} {ty tz : TypeId} (h : fn.results = #[.cell p ty, .cell q tz]) (tmps : Array Value) (P : Program) (w : World) :
    (results fn tmps).run P w = ((asAddr (tmps.getD p undef)).run P w).andThen fun a w₁ => ((loadVar ty a).run P w₁).andThen fun v w₂ => ((asAddr (tmps.getD q undef)).run P w₂).andThen fun b w₃ => ((loadVar tz b).run P w₃).andThen fun u w₄ => .ok (.tuple #[v, u]) w₄ := by
  simp only [results, h]
  simp [Sem.run_bind, Result.andThen]
set_option maxRecDepth 100000 in
theorem load28 (w : World) (b : Nat) (x : Int) (h : Has w b [.int .i64 x] 30) : (loadVar 30 ⟨b, 0, none⟩).run Tryz.prog w = .ok (.int .i64 x) w := by
  have c : w.cell? ⟨b, 0, none⟩ = some (.int .i64 x) := h.cellv 0 _ rfl
  simp [loadVar, go_sem, c]
set_option maxRecDepth 100000 in
theorem leave_cc {fn : Func} {R : Ending → World → Prop} {tmps : Array Value} {w : World} {p q : Tmp} {b b' : Nat} {D : List Value} {x : Int}
    (hr : fn.results = #[.cell p 34, .cell q 30]) (hp : tmps.getD p undef = pv b) (hq : tmps.getD q undef = pv b') (h1 : Has w b D 34) (hl : D.length = 15) (h2 : Has w b' [.int .i64 x] 30)
    (h : R (.returned (.tuple #[.agg D.toArray, .int .i64 x])) w) : Leaves Tryz.prog fn tmps R [] .returning w := by
  obtain ⟨du, hdu, hdr⟩ := under26
  refine ⟨.tuple #[.agg D.toArray, .int .i64 x], ?_, h⟩
  rw [results_cc hr, hp, hq]
  have e1 := run_loadVar_mid (P := Tryz.prog) w b 0 34 D du h1.range hdu hdr (by rw [hl]; exact info26)
  have e2 := load28 w b' x h2
  simp [asAddr, Result.andThen, e1, e2]
set_option maxHeartbeats 8000000 in
set_option maxRecDepth 100000 in
theorem catch_panic (b b' : Nat) (v : Value) (D : List Value) (x : Int) (w : World) (h1 : Has w b D 34) (hl : D.length = 15) (h2 : Has w b' [.int .i64 x] 30) (hb : b ≠ b') :
    CallsD Tryz.prog  38 #[pv b, pv b'] (.panicking [{ v := .iface 30 v, recovered := false }]) w fun e u' w' =>
      e = .returned (.tuple #[]) ∧ u' = .panicking [{ v := .iface 30 v, recovered := true }] ∧ Has w' b (Dg.zero 0).cells 34 ∧ Has w' b' [.int .i64 72] 30 ∧ Fr (fun i => i = b ∨ i = b') w w' := by
  have HA : Keep (Has w b D 34 ∧ D.length = 15 ∧ Has w b' [.int .i64 x] 30) := ⟨h1, hl, h2⟩
  clear h1 hl h2
  refine callsD_of_wpS Tryz.func38 rfl fun c₀ cs hu => ?_
  apply wpS_seq
  apply wpS_region
  simp [wpOpsS, go_sem, recoverD, hu, Tryz.ntmps38, Exit.thenS]
  refine wpS_cond (t := true) (by simp [Act.eval, Array.replicate]) ?_
  simp only [if_true]
  refine wpS_of_wp ?_
  rw [show (#[pv b, pv b'] ++ ((Array.replicate 3 undef).setIfInBounds 0 (Value.iface 30 v)).setIfInBounds 1 (Value.bool true)) = #[pv b, pv b', .iface 30 v, .bool true, undef] from rfl]
  go_wp2_with (
    (refine wpList_store_mid rfl 34 _ _ rfl _ _ _ rfl rfl (HA.out.1.there 0 15 (by rw [HA.out.2.1]; exact Nat.le_refl 15)) info26 one15 ?_
     generalize hw2 : World.setCells _ _ _ _ = w9
     have HW9 : Keep (Has w9 b (Dg.zero 0).cells 34 ∧ Has w9 b' [.int .i64 x] 30 ∧ Fr (fun i => i = b ∨ i = b') w w9) := by
       have g := gr_sets b (Dg.zero 0).cells w 0
       rw [show w.setCells b 0 (Dg.zero 0).cells = w9 from hw2] at g
       refine ⟨?_, HA.out.2.2.kept g (by simp; omega), Fr.ofSome g (.inl rfl)⟩
       rw [← hw2]
       exact HA.out.1.setAll (Dg.zero 0).cells (by rw [HA.out.2.1]; rfl)
     have c9 : w9.cell? ⟨b', 0, none⟩ = some (.int .i64 x) := HW9.out.2.1.cellv 0 _ rfl
     have z9 : w9.frozen? ⟨b', 0, none⟩ = false := HW9.out.2.1.frozen 0
     clear hw2))
  have HF : Keep (Has (w9.setCell ⟨b', 0, none⟩ (.int .i64 72)) b (Dg.zero 0).cells 34 ∧ Has (w9.setCell ⟨b', 0, none⟩ (.int .i64 72)) b' [.int .i64 72] 30 ∧ Fr (fun i => i = b ∨ i = b') w (w9.setCell ⟨b', 0, none⟩ (.int .i64 72))) :=
    ⟨HW9.out.1.other _ _ (Ne.symm hb), HW9.out.2.1.setCell 0 _, HW9.out.2.2.trans (Fr.ofSome (gr_set w9 b' 0 _) (.inr rfl))⟩
  generalize w9.setCell ⟨b', 0, none⟩ (.int .i64 72) = w8 at HF ⊢
  clear HW9 c9 z9
  cases c₀
  simp_all [bodyPostS, results, Tryz.results38]
  exact HF.out
set_option maxHeartbeats 8000000 in
set_option maxRecDepth 100000 in
theorem catch_idle (b b' : Nat) (w : World) :
    CallsD Tryz.prog  38 #[pv b, pv b'] .returning w fun e u' w' => e = .returned (.tuple #[]) ∧ u' = .returning ∧ w' = w := by
  refine callsD_of_wpS Tryz.func38 rfl fun c₀ cs hu => ?_
  apply wpS_seq
  apply wpS_region
  simp [wpOpsS, go_sem, recoverD, hu, Tryz.ntmps38, Exit.thenS]
  refine wpS_cond (t := false) (by simp [Act.eval, Array.replicate]) ?_
  simp only [Bool.false_eq_true, if_false]
  refine wpS_of_wp (wp_skip ?_)
  cases c₀
  simp_all [bodyPostS, results, Tryz.results38]
set_option maxRecDepth 100000 in
theorem bp_ret {P : Program} {fn : Func} {R : Ending → World → Prop} {a : Act} {w : World} (h : Leaves P fn a.tmps R a.defers .returning w) : bodyPostD P fn R .ret a w := h
set_option maxRecDepth 100000 in
theorem dec_no {s : List UInt8} (h1 : ¬ 1200 < s.length) (h2 : s.take 3 = magic) (h3 : fieldsL (kindL s) ≠ []) : dec s = ended (takes (fieldsL (kindL s)) (Dg.zero (kindL s), s.drop 4, false)) := by
  rw [dec, if_neg h1, if_neg (by simp [h2]), if_neg h3]
set_option maxHeartbeats 8000000 in
set_option maxRecDepth 100000 in
theorem decode_c (s : ByteArray) (w : World) (hs : s.size ≤ 4611686018427387904) :
    Calls Tryz.prog 10 #[.string s] w fun e w' => e = .returned (.tuple #[dv (dec (sl s)).1, .int .i64 (dec (sl s)).2]) ∧ w.grownBy w' none := by
  have hmf : MF := fun _ _ _ _ => rfl
  by_cases h12 : 1200 < s.size
  · have hd : decide ((1200 : Int) < (s.size : Int)) = true := decide_eq_true (by omega)
    have he : dec (sl s) = (Dg.zero 0, 72) := by rw [dec, if_pos (by rw [sl_len]; exact h12)]
    rw [he]
    clear h12 he
    go_enter_defers Tryz.func10, Tryz.ntmps10
    go_wp2
    obtain ⟨q1, q2, q3⟩ := two w #[.int .i64 0, .string { data := #[] }, .int .u64 0, .string { data := #[] }, .string { data := #[] }, .int .u64 0, .int .i64 0, .string { data := #[] }, .int .u64 0, .int .i64 0, .int .i64 0, .bool false, .bool false, .string { data := #[] }, .string { data := #[] }] #[.int .i64 72] 34 30
    refine bp_ret ?_
    show Leaves Tryz.prog Tryz.f10 _ _ [] .returning _
    exact leave_cc rfl rfl rfl q1 rfl q2 ⟨rfl, q3⟩
  · have hd : decide ((1200 : Int) < (s.size : Int)) = false := decide_eq_false (by omega)
    have h12' : ¬ 1200 < (sl s).length := by rw [sl_len]; exact h12
    by_cases hm : (sl s).take 3 = magic
    · have HP := Keep.mk (fun W => hp_c s W)
      rw [decide_eq_true hm] at HP
      have HK := Keep.mk (fun W => kind_c s W hs)
      have hk0 : ∀ fs, fieldsL (kindL (sl s)) = fs → fs ≠ [] → 4 ≤ s.size := fun fs e hne => by
        by_cases h4 : s.size < 4
        · have : kindL (sl s) = 0 := by rw [kindL, if_pos (.inl (by rw [sl_len]; exact h4))]
          rw [this] at e
          exact absurd e.symm hne
        · omega
      have HD : Keep (∀ fs, fieldsL (kindL (sl s)) = fs → fs ≠ [] → dec (sl s) = ended (takes fs (Dg.zero (kindL (sl s)), (sl s).drop 4, false))) := ⟨fun fs e hne => by rw [← e]; exact dec_no h12' hm (by rw [e]; exact hne)⟩
      have HD0 : Keep (fieldsL (kindL (sl s)) = [] → dec (sl s) = (Dg.zero 0, 71)) := ⟨fun e => by rw [dec, if_neg h12', if_neg (by simp [hm]), if_pos e]⟩
      have HF := fields_c (kindL (sl s))
      have h6 := fieldsL_len (kindL (sl s))
      obtain ⟨fs, hfs⟩ : ∃ fs, fieldsL (kindL (sl s)) = fs := ⟨_, rfl⟩
      rw [hfs] at HF HD HD0 h6
      have hk0' := hk0 fs hfs
      replace HD := Keep.mk (HD.out fs rfl)
      have HFF := Keep.mk HF
      have HS : Keep (fs ≠ [] → 4 ≤ s.size ∧ s.size ≤ 1200) := ⟨fun h => ⟨hk0' h, by omega⟩⟩
      have HTK := Keep.mk (fun (W : World) a c (h : fs ≠ []) (hf : Flds W a fs) => take_c s a c fs W (HS.out h) h6 hf)
      obtain ⟨kk, hkk⟩ : ∃ kk, kindL (sl s) = kk := ⟨_, rfl⟩
      rw [hkk] at HFF HK
      obtain ⟨n, hn⟩ : ∃ n, fs.length = n := ⟨_, rfl⟩
      have HN := Keep.mk hn
      rw [hn] at HFF HTK h6
      obtain ⟨wA, hwA⟩ : ∃ q, (w.alloc (.cells #[.int .i64 0, .string { data := #[] }, .int .u64 0, .string { data := #[] }, .string { data := #[] }, .int .u64 0, .int .i64 0, .string { data := #[] }, .int .u64 0, .int .i64 0, .int .i64 0, .bool false, .bool false, .string { data := #[] }, .string { data := #[] }] 34)).alloc (.cells #[.int .i64 0] 30) = q := ⟨_, rfl⟩
      obtain ⟨q1, q2, q3⟩ := two w #[.int .i64 0, .string { data := #[] }, .int .u64 0, .string { data := #[] }, .string { data := #[] }, .int .u64 0, .int .i64 0, .string { data := #[] }, .int .u64 0, .int .i64 0, .int .i64 0, .bool false, .bool false, .string { data := #[] }, .string { data := #[] }] #[.int .i64 0] 34 30
      rw [hwA] at q1 q2 q3
      have HA : Keep (Has wA w.heap.size (Dg.zero 0).cells 34 ∧ Has wA (w.heap.size + 1) [.int .i64 0] 30 ∧ w.grownBy wA none) := ⟨q1, q2, q3⟩
      clear HF h12 h12' hm hk0 hfs hk0' hkk hn q1 q2 q3
      go_enter_defers Tryz.func10, Tryz.ntmps10
      go_wp2_with fail
      refine (HP.out wA).mono ?_
      rintro e wq ⟨rfl, hwq⟩
      rw [hwq]
      clear hwq wq
      go_wp2_with fail
      refine (HK.out wA).mono ?_
      rintro e wq ⟨rfl, hwq⟩
      rw [hwq]
      clear hwq wq
      go_wp2_with fail
      refine (HFF.out wA).mono ?_
      rintro e w1 ⟨a, c, rfl, fl, g1⟩
      have HB : Keep (Has w1 w.heap.size (Dg.zero 0).cells 34 ∧ Has w1 (w.heap.size + 1) [.int .i64 0] 30 ∧ w.grownBy w1 none ∧ Flds w1 a fs) := ⟨HA.out.1.kept g1 (by simp), HA.out.2.1.kept g1 (by simp), HA.out.2.2.trans g1, fl⟩
      clear fl g1
      obtain ⟨du, hdu, hdr⟩ := under26
      by_cases hn0 : n = 0
      · have hb0 : ((n : Int) == 0) = true := by simp; omega
        have hfs0 : fs = [] := List.eq_nil_of_length_eq_zero (HN.out.trans hn0)
        have HE := Keep.mk (HD0.out hfs0)
        have c9 : w1.cell? ⟨w.heap.size + 1, 0, none⟩ = some (.int .i64 0) := HB.out.2.1.cellv 0 _ rfl
        have z9 : w1.frozen? ⟨w.heap.size + 1, 0, none⟩ = false := HB.out.2.1.frozen 0
        clear hn0 hfs0
        go_wp2_with (first
          | (refine wpList_load_mid rfl 34 _ rfl _ _ rfl (Dg.zero 0).cells _ HB.out.1.range hdu hdr info26 ?_)
          | (refine wpList_store_mid rfl 34 _ _ rfl _ _ _ rfl rfl (HB.out.1.there 0 15 (Nat.le_refl 15)) info26 one15 ?_
             generalize hw2 : World.setCells _ _ _ _ = w9
             have HW9 : Keep (Has w9 w.heap.size (Dg.zero 0).cells 34 ∧ Has w9 (w.heap.size + 1) [.int .i64 0] 30 ∧ w.grownBy w9 none) := by
               have g := gr_sets w.heap.size (Dg.zero 0).cells w1 0
               rw [show w1.setCells w.heap.size 0 (Dg.zero 0).cells = w9 from hw2] at g
               refine ⟨?_, HB.out.2.1.kept g (by simp), gr_new HB.out.2.2.1 g (Nat.le_refl _)⟩
               rw [← hw2]
               exact HB.out.1.setAll (Dg.zero 0).cells rfl
             have c9 : w9.cell? ⟨w.heap.size + 1, 0, none⟩ = some (.int .i64 0) := HW9.out.2.1.cellv 0 _ rfl
             have z9 : w9.frozen? ⟨w.heap.size + 1, 0, none⟩ = false := HW9.out.2.1.frozen 0
             clear hw2))
        refine bp_ret ?_
        show Leaves Tryz.prog Tryz.f10 _ _ [] .returning _
        refine leave_cc rfl rfl rfl (HW9.out.1.other _ _ (by simp)) rfl (HW9.out.2.1.setCell 0 _) ⟨by rw [HE.out]; rfl, gr_new HW9.out.2.2 (gr_set _ _ _ _) (by omega)⟩
      · have hb0 : ((n : Int) == 0) = false := by simp; omega
        have hne : fs ≠ [] := fun e => hn0 (by rw [← HN.out, e]; rfl)
        have HE := Keep.mk (HD.out hne)
        have HT := Keep.mk (HTK.out w1 a c hne HB.out.2.2.2)
        clear hn0 hne
        go_wp2_with fail
        refine HT.out.mono ?_
        rintro e w2 ⟨g2, hres⟩
        have HC : Keep (Has w2 w.heap.size (Dg.zero 0).cells 34 ∧ Has w2 (w.heap.size + 1) [.int .i64 0] 30 ∧ w.grownBy w2 none) := ⟨HB.out.1.kept g2 (by simp), HB.out.2.1.kept g2 (by simp), HB.out.2.2.1.trans g2⟩
        clear g2
        cases ht : takes fs (Dg.zero (kindL (sl s)), (sl s).drop 4, false) with
        | none =>
          rw [ht] at hres
          obtain rfl : e = .panicked give := hres
          rw [ht] at HE
          show Leaves Tryz.prog Tryz.f10 _ _ [_] (.panicking give) _
          refine leaves_cons (f := 38) (args := #[pv w.heap.size, pv (w.heap.size + 1)]) (by simp) (by simp [go_sem]) ?_
          refine (catch_panic w.heap.size (w.heap.size + 1) (.int .i64 72) (Dg.zero 0).cells 0 w2 HC.out.1 rfl HC.out.2.1 (by omega)).mono ?_
          rintro e u' w9 ⟨rfl, rfl, k1, k2, f9⟩
          show Leaves Tryz.prog Tryz.f10 _ _ [] .returning _
          exact leave_cc rfl rfl rfl k1 rfl k2 ⟨by rw [HE.out]; rfl, fr_mine HC.out.2.2 f9 (fun i e => by omega)⟩
        | some t =>
          rw [ht] at hres
          obtain rfl : e = .returned (.tuple #[dv (ended (some t)).1, .int .i64 (ended (some t)).2]) := hres
          rw [ht] at HE
          obtain ⟨dx, hdx⟩ : ∃ x, (ended (some t)).1 = x := ⟨_, rfl⟩
          obtain ⟨ex, hex⟩ : ∃ x, (ended (some t)).2 = x := ⟨_, rfl⟩
          rw [hdx, hex]
          have HE2 : Keep (dec (sl s) = (dx, ex)) := ⟨by rw [HE.out, ← hdx, ← hex]⟩
          obtain ⟨D, hD⟩ : ∃ D, dx.cells = D := ⟨_, rfl⟩
          have hDl : D.length = 15 := by rw [← hD]; rfl
          have hD1 : D.toArray.all (·.oneCell') = true := by rw [← hD]; simp [Dg.cells, Value.oneCell']
          have HDD : Keep (D.length = 15 ∧ D.toArray.all (·.oneCell') = true ∧ (Tryz.prog.info? 34).map (·.size) = some D.toArray.size) := ⟨hDl, hD1, by rw [List.size_toArray, hDl]; exact info26⟩
          rw [show dv dx = .agg D.toArray from by rw [← hD]; rfl]
          clear hDl hD1 hdx hex HE ht
          go_wp2_with (
            (refine wpList_store_mid rfl 34 _ _ rfl _ _ _ rfl rfl (HC.out.1.there 0 _ (by rw [List.size_toArray, HDD.out.1]; exact Nat.le_refl 15)) HDD.out.2.2 HDD.out.2.1 ?_
             generalize hw2 : World.setCells _ _ _ _ = w9
             have HW9 : Keep (Has w9 w.heap.size D 34 ∧ Has w9 (w.heap.size + 1) [.int .i64 0] 30 ∧ w.grownBy w9 none) := by
               have g := gr_sets w.heap.size D w2 0
               rw [show w2.setCells w.heap.size 0 D = w9 from hw2] at g
               refine ⟨?_, HC.out.2.1.kept g (by simp), gr_new HC.out.2.2 g (Nat.le_refl _)⟩
               rw [← hw2]
               exact HC.out.1.setAll D (by rw [HDD.out.1]; rfl)
             have c9 : w9.cell? ⟨w.heap.size + 1, 0, none⟩ = some (.int .i64 0) := HW9.out.2.1.cellv 0 _ rfl
             have z9 : w9.frozen? ⟨w.heap.size + 1, 0, none⟩ = false := HW9.out.2.1.frozen 0
             clear hw2))
          show Leaves Tryz.prog Tryz.f10 _ _ [_] .returning _
          refine leaves_cons (f := 38) (args := #[pv w.heap.size, pv (w.heap.size + 1)]) (by simp) (by simp [go_sem]) ?_
          refine (catch_idle w.heap.size (w.heap.size + 1) _).mono ?_
          rintro e u' w8 ⟨rfl, rfl, rfl⟩
          show Leaves Tryz.prog Tryz.f10 _ _ [] .returning _
          exact leave_cc rfl rfl rfl (HW9.out.1.other _ _ (by simp)) HDD.out.1 (HW9.out.2.1.setCell 0 _) ⟨by rw [HE2.out, ← hD]; rfl, gr_new HW9.out.2.2 (gr_set _ _ _ _) (by omega)⟩
    · have HP := Keep.mk (fun W => hp_c s W)
      rw [decide_eq_false hm] at HP
      have he : dec (sl s) = (Dg.zero 0, 70) := by rw [dec, if_neg h12', if_pos hm]
      rw [he]
      clear h12 h12' he hm
      go_enter_defers Tryz.func10, Tryz.ntmps10
      go_wp2_with fail
      refine (HP.out _).mono ?_
      rintro e wq ⟨rfl, rfl⟩
      go_wp2
      obtain ⟨q1, q2, q3⟩ := two w #[.int .i64 0, .string { data := #[] }, .int .u64 0, .string { data := #[] }, .string { data := #[] }, .int .u64 0, .int .i64 0, .string { data := #[] }, .int .u64 0, .int .i64 0, .int .i64 0, .bool false, .bool false, .string { data := #[] }, .string { data := #[] }] #[.int .i64 70] 34 30
      refine bp_ret ?_
      show Leaves Tryz.prog Tryz.f10 _ _ [] .returning _
      exact leave_cc rfl rfl rfl q1 rfl q2 ⟨rfl, q3⟩
end Go.Proofs.YtldnpebnpbahjaaGreatDoor.Pk
