import Derived.Test.YtldnpebnpbahjaaGreatDoorX16
/- frame.take -/
namespace Go.Proofs.YtldnpebnpbahjaaGreatDoor.Pk
open Go Go.RowKit

set_option maxRecDepth 100000 in
theorem slice_from (s : ByteArray) (n : Nat) (hn : n ≤ s.size) (W : World) : (Instr.slice 9 (.string s) (some (.int .i64 (n : Int))) none none).run Tryz.prog W = .ok (.string (ba ((sl s).drop n))) W := by
  rw [run_slice_string_l W 9 s under9 .i64 (n : Int) (by omega) (by omega)]
  congr 2
  apply sl_inj
  rw [sl_mk, Int.toNat_natCast]
  exact sl_extract s n
set_option maxRecDepth 100000 in
theorem one15 {a b c d e f g h i j k l m n o : Value} (h1 : [a, b, c, d, e, f, g, h, i, j, k, l, m, n, o].all (·.oneCell') = true := by rfl) : (#[a, b, c, d, e, f, g, h, i, j, k, l, m, n, o] : Array Value).all (·.oneCell') = true := by simpa using h1
def TakeRes (o : Option TS) (e : Ending) : Prop :=
  match o with
  | none => e = .panicked give
  | some t => e = .returned (.tuple #[dv (ended (some t)).1, .int .i64 (ended (some t)).2])
set_option maxRecDepth 100000 in
theorem TakeRes.no : TakeRes none (.panicked give) := rfl
set_option maxRecDepth 100000 in
theorem TakeRes.yes {t : TS} {v : Value} (h : v = .tuple #[dv (ended (some t)).1, .int .i64 (ended (some t)).2]) : TakeRes (some t) (.returned v) := by rw [h]; rfl
set_option maxHeartbeats 8000000 in
set_option maxRecDepth 100000 in
theorem take_c (s : ByteArray) (a : Option Addr) (c : Nat) (fs : List Fd) (w : World) (hs : 4 ≤ s.size ∧ s.size ≤ 1200) (h6 : fs.length ≤ 6) (hfl : Flds w a fs) :
    Calls Tryz.prog 39 #[.string s, .slice a fs.length c] w fun e w' => w.grownBy w' none ∧ TakeRes (takes fs (Dg.zero (kindL (sl s)), (sl s).drop 4, false)) e := by
  obtain ⟨n, hn⟩ : ∃ n, fs.length = n := ⟨_, rfl⟩
  rw [hn] at h6 ⊢
  obtain ⟨s0, hs0⟩ : ∃ s0 : TS, (Dg.zero (kindL (sl s)), (sl s).drop 4, false) = s0 := ⟨_, rfl⟩
  rw [hs0]
  obtain ⟨du, hdu, hdr⟩ := under26
  have HK := Keep.mk (fun W => kind_c s W (by omega))
  obtain ⟨kk, hkk⟩ : ∃ kk, kindL (sl s) = kk := ⟨_, rfl⟩
  rw [hkk] at HK hs0
  obtain ⟨R, hR⟩ : ∃ R, s.extract 4 s.size = R := ⟨_, rfl⟩
  have HR : Keep (sl R = (sl s).drop 4 ∧ (sl s).drop 4 = s0.2.1 ∧ s0 = (Dg.zero kk, (sl s).drop 4, false) ∧ s0.2.1.length ≤ 4611686018427387904) := ⟨by rw [← hR]; exact sl_extract s 4, by rw [← hs0], hs0.symm, by rw [← hs0]; simp only [List.length_drop]; rw [sl_len]; omega⟩
  obtain ⟨wA, hwA⟩ : ∃ q, w.alloc (.cells #[.int .i64 0, .string { data := #[] }, .int .u64 0, .string { data := #[] }, .string { data := #[] }, .int .u64 0, .int .i64 0, .string { data := #[] }, .int .u64 0, .int .i64 0, .int .i64 0, .bool false, .bool false, .string { data := #[] }, .string { data := #[] }] 34) = q := ⟨_, rfl⟩
  obtain ⟨wB0, hwB⟩ : ∃ q, wA.alloc (.cells #[.int .i64 0, .string { data := #[] }, .int .u64 0, .string { data := #[] }, .string { data := #[] }, .int .u64 0, .int .i64 0, .string { data := #[] }, .int .u64 0, .int .i64 0, .int .i64 0, .bool false, .bool false, .string { data := #[] }, .string { data := #[] }] 34) = q := ⟨_, rfl⟩
  obtain ⟨db, hdb⟩ : ∃ q, wA.heap.size = q := ⟨_, rfl⟩
  have gA : w.grownBy wA none := by rw [← hwA]; exact World.grownBy_alloc _ _ _
  have gB : wA.grownBy wB0 none := by rw [← hwB]; exact World.grownBy_alloc _ _ _
  have hA : Has wA w.heap.size (Dg.zero 0).cells 34 := by rw [← hwA]; exact Has.newA w _ 34
  have hB : Has wB0 db (Dg.zero 0).cells 34 := by rw [← hwB, ← hdb]; exact Has.newA wA _ 34
  have HW0 : Keep (w.grownBy wB0 none ∧ Has wB0 w.heap.size (Dg.zero 0).cells 34 ∧ Has wB0 db (Dg.zero 0).cells 34 ∧ w.heap.size < db) := ⟨gA.trans gB, hA.kept gB (by simp), hB, by have := hA.lt; omega⟩
  have HFL : Keep (Flds w a fs ∧ fs.length = n) := ⟨hfl, hn⟩
  clear gA gB hA hB hfl hn hs0 hkk
  go_enter Tryz.func39, Tryz.ntmps39
  go_wp2_with fail
  refine (HK.out wA).mono ?_
  rintro e wq ⟨rfl, hwq⟩
  subst hwq
  go_wp2_with (
    (refine wpList_store_mid rfl 34 _ _ rfl _ _ _ rfl rfl (HW0.out.2.2.1.there 0 15 (Nat.le_refl 15)) info26 one15 ?_
     generalize hw2 : World.setCells _ _ _ _ = wB
     have HW : Keep (w.grownBy wB none ∧ Has wB w.heap.size (Dg.zero 0).cells 34 ∧ Has wB db (Dg.zero kk).cells 34 ∧ w.heap.size < db) := by
       obtain ⟨q1, q2, q3, q4⟩ := HW0.out
       have g := gr_sets db (Dg.zero kk).cells wB0 0
       rw [show wB0.setCells db 0 (Dg.zero kk).cells = wB from hw2] at g
       refine ⟨gr_new q1 g (Nat.le_of_lt q4), q2.kept g (by simp; omega), ?_, q4⟩
       rw [← hw2]
       exact q3.setAll (Dg.zero kk).cells rfl
     clear hw2))
  refine (newI_c R wB).mono ?_
  rintro e w3 ⟨ib, rb, B, rfl, i3, g3, l1, l2, l3⟩
  have HT : Keep (TL w w3 db ib rb B fs s0 0 s0) := by
    obtain ⟨q1, q2, q3, q4⟩ := HW.out
    have hlt := q3.lt
    refine ⟨q1.trans g3, q2.kept g3 (by simp), ⟨?_, ?_, ⟨by omega, by omega, by omega⟩, HR.out.2.2.2⟩, rfl, q4, by omega, by omega⟩
    · rw [HR.out.2.2.1]; exact q3.kept g3 (by simp)
    · rw [← HR.out.2.1, HR.out.2.2.1, ← HR.out.1]; exact i3
  clear i3 g3 l1 l2 l3 HW
  go_wp2_with fail
  go_loopw [19] (fun t w' => ∃ (k : Nat) (x : TS), k ≤ n ∧ t = .int .i64 k ∧ Keep (TL w w' db ib rb B fs s0 k x)) (fun t _ => n - (intOf t).toNat)
  case atStart => exact ⟨0, s0, by omega, rfl, HT⟩
  case round =>
    obtain ⟨k, x, hkn, rfl, hrel⟩ := hrel
    by_cases hlt : k < n
    · have hfk : ∃ f, fs[k]? = some f := ⟨fs[k]'(by rw [HFL.out.2]; exact hlt), List.getElem?_eq_getElem _⟩
      obtain ⟨f, hfk⟩ := hfk
      obtain ⟨vt, vl, fb, rfl, ct, cl, FC⟩ := HFL.out.1 k f hfk
      obtain ⟨nt, ct', nl, cl', rfl, rfl, ⟨enl, TC⟩, _⟩ := FC
      have ct := hrel.out.g.cell ct (by simp)
      have cl := hrel.out.g.cell cl (by simp)
      have HL := Keep.mk TC
      have HFK := Keep.mk hfk
      rw [Nat.mul_comm] at ct cl
      clear TC hfk
      obtain ⟨wz, hwz⟩ : ∃ q, wr.alloc (.cells #[fc nt ct', fc nl cl'] 109) = q := ⟨_, rfl⟩
      have HZ : Keep (TL w wz db ib rb B fs s0 k x) := ⟨hrel.out.grown (by rw [← hwz]; exact World.grownBy_alloc _ _ _)⟩
      have cz : wz.cell? ⟨wr.heap.size, 0, none⟩ = some (fc nt ct') := by rw [← hwz]; exact (Has.newA wr #[fc nt ct', fc nl cl'] 109).cellv 0 _ rfl
      clear hrel
      go_wp2_with fail
      refine (HL.out wz db ib rb B x HZ.out.g (Nat.le_of_lt HZ.out.d) (Nat.le_of_lt HZ.out.i) (Nat.le_of_lt HZ.out.r) HZ.out.t).mono ?_
      rintro e wy ⟨hres, hfr⟩
      cases hx : tk f x with
      | none =>
        rw [hx] at hres
        obtain rfl : e = .panicked give := hres
        have hno := takes_none HFK.out HZ.out.e hx
        have hg : w.grownBy wy none := fr_mine HZ.out.g hfr (fun i e => by
          have := HZ.out.d; have := HZ.out.i; have := HZ.out.r
          rcases e with e | e | e <;> omega)
        refine ⟨rfl, hg, ?_⟩
        rw [hno]
        exact TakeRes.no
      | some x' =>
        rw [hx] at hres
        obtain ⟨rfl, ht'⟩ := hres
        have HN : Keep (TL w wy db ib rb B fs s0 (k + 1) x') := ⟨HZ.out.next HFK.out hx ht' hfr⟩
        clear hx ht' hfr HZ
        go_wp2_with fail
        go_roundw
        case rel => exact ⟨k + 1, x', by omega, by go_num, HN⟩
        case measure => simp [intOf]; omega
    · obtain rfl : k = n := by omega
      have hx : takes fs s0 = some x := by
        have := hrel.out.e
        rw [← HFL.out.2, List.take_length] at this
        exact this
      have HXE := Keep.mk hx
      obtain ⟨dx, L, r⟩ := x
      have HX : Keep (TL w wr db ib rb B fs s0 k (dx, L, r)) := hrel
      have HI := Keep.mk (idone_c ib rb B L r wr HX.out.t.i)
      clear hx hrel
      by_cases h0 : 0 < L.length
      · have hend : ended (some (dx, L, r)) = (Dg.zero 0, 72) := by simp [ended, h0]
        rw [if_pos h0] at HI
        clear h0
        go_wp2_with fail
        refine HI.out.mono ?_
        rintro e wq ⟨rfl, hwq⟩
        rw [hwq]
        clear hwq wq
        go_wp2_with (
          (refine wpList_store_mid rfl 34 _ _ rfl _ _ _ rfl rfl (HX.out.z.there 0 15 (Nat.le_refl 15)) info26 one15 ?_
           generalize hw2 : World.setCells _ _ _ _ = w9
           have HW9 : Keep (w.grownBy w9 none ∧ Has w9 w.heap.size (Dg.zero 0).cells 34) := by
             have g := gr_sets w.heap.size (Dg.zero 0).cells wr 0
             rw [show wr.setCells w.heap.size 0 (Dg.zero 0).cells = w9 from hw2] at g
             refine ⟨gr_new HX.out.g g (Nat.le_refl _), ?_⟩
             rw [← hw2]
             exact HX.out.z.setAll (Dg.zero 0).cells rfl
           clear hw2))
        refine ret_ct rfl rfl HW9.out.2 hdu hdr info26 rfl ⟨HW9.out.1, ?_⟩
        rw [HXE.out]
        exact TakeRes.yes (by rw [hend]; rfl)
      · cases r
        · have hend : ended (some (dx, L, false)) = (dx, 0) := by simp [ended, h0]
          rw [if_neg h0] at HI
          simp only [Bool.false_eq_true, if_false] at HI
          clear h0
          obtain ⟨D, hD⟩ : ∃ D, dx.cells = D := ⟨_, rfl⟩
          have hDl : D.length = 15 := by rw [← hD]; rfl
          have hD1 : D.toArray.all (·.oneCell') = true := by rw [← hD]; simp [Dg.cells, Value.oneCell']
          have HDD : Keep (Has wr db D 34 ∧ D.length = 15 ∧ D.toArray.all (·.oneCell') = true ∧ (Tryz.prog.info? 34).map (·.size) = some D.length) := ⟨by rw [← hD]; exact HX.out.t.d, hDl, hD1, by rw [hDl]; exact info26⟩
          clear hDl hD1
          go_wp2_with fail
          refine HI.out.mono ?_
          rintro e wq ⟨rfl, hwq⟩
          rw [hwq]
          clear hwq wq
          go_wp2_with (first
            | (refine wpList_load_mid rfl 34 _ rfl _ _ rfl D _ HDD.out.1.range hdu hdr HDD.out.2.2.2 ?_)
            | (refine wpList_store_mid rfl 34 _ _ rfl _ _ _ rfl rfl (HX.out.z.there 0 _ (by rw [List.size_toArray, HDD.out.2.1]; exact Nat.le_refl 15)) (by rw [List.size_toArray]; exact HDD.out.2.2.2) HDD.out.2.2.1 ?_
               generalize hw2 : World.setCells _ _ _ _ = w9
               have HW9 : Keep (w.grownBy w9 none ∧ Has w9 w.heap.size D 34) := by
                 have g := gr_sets w.heap.size D wr 0
                 rw [show wr.setCells w.heap.size 0 D = w9 from hw2] at g
                 refine ⟨gr_new HX.out.g g (Nat.le_refl _), ?_⟩
                 rw [← hw2]
                 exact HX.out.z.setAll D (by rw [HDD.out.2.1]; rfl)
               clear hw2))
          refine ret_ct rfl rfl HW9.out.2 hdu hdr HDD.out.2.2.2 rfl ⟨HW9.out.1, ?_⟩
          rw [HXE.out]
          exact TakeRes.yes (by rw [hend, ← hD]; rfl)
        · have hend : ended (some (dx, L, true)) = (Dg.zero 0, 73) := by simp [ended, h0]
          rw [if_neg h0] at HI
          simp only [if_true] at HI
          clear h0
          go_wp2_with fail
          refine HI.out.mono ?_
          rintro e wq ⟨rfl, hwq⟩
          rw [hwq]
          clear hwq wq
          go_wp2_with (
            (refine wpList_store_mid rfl 34 _ _ rfl _ _ _ rfl rfl (HX.out.z.there 0 15 (Nat.le_refl 15)) info26 one15 ?_
             generalize hw2 : World.setCells _ _ _ _ = w9
             have HW9 : Keep (w.grownBy w9 none ∧ Has w9 w.heap.size (Dg.zero 0).cells 34) := by
               have g := gr_sets w.heap.size (Dg.zero 0).cells wr 0
               rw [show wr.setCells w.heap.size 0 (Dg.zero 0).cells = w9 from hw2] at g
               refine ⟨gr_new HX.out.g g (Nat.le_refl _), ?_⟩
               rw [← hw2]
               exact HX.out.z.setAll (Dg.zero 0).cells rfl
             clear hw2))
          refine ret_ct rfl rfl HW9.out.2 hdu hdr info26 rfl ⟨HW9.out.1, ?_⟩
          rw [HXE.out]
          exact TakeRes.yes (by rw [hend]; rfl)
end Go.Proofs.YtldnpebnpbahjaaGreatDoor.Pk
