import Derived.Test.YtiphnlfbgbemfaaGreatDoorX7
/- frame.take: what it leaves -/
namespace Go.Proofs.YtiphnlfbgbemfaaGreatDoor.Pk
open Go Go.RowKit

theorem takes_app : ∀ (xs bs : List Fd) (s : TS), takes (xs ++ bs) s = (takes xs s).bind (takes bs)
  | [], bs, s => rfl
  | f :: xs, bs, s => by
    show (tk f s).bind (takes (xs ++ bs)) = ((tk f s).bind (takes xs)).bind (takes bs)
    rw [Option.bind_assoc]
    congr 1
    funext x
    exact takes_app xs bs x
theorem takes_take {fs : List Fd} {s : TS} {k : Nat} {f : Fd} (h : fs[k]? = some f) : takes (fs.take (k + 1)) s = (takes (fs.take k) s).bind (tk f) := by
  obtain ⟨hk, rfl⟩ := List.getElem?_eq_some_iff.1 h
  rw [List.take_succ_eq_append_getElem hk, takes_app]
  congr 1
  funext x
  show (tk _ x).bind (takes []) = _
  cases tk _ x <;> rfl
theorem takes_none {fs : List Fd} {s t : TS} {k : Nat} {f : Fd} (h : fs[k]? = some f) (h1 : takes (fs.take k) s = some t) (h2 : tk f t = none) : takes fs s = none := by
  have e : takes (fs.take (k + 1)) s = none := by rw [takes_take h, h1]; exact h2
  rw [← List.take_append_drop (k + 1) fs, takes_app, e]; rfl
theorem results_ct {fn : Func} {p q : Tmp} {ty : TypeId} (h : fn.results = #[.cell p ty, .tmp q]) (tmps : Array Value) (P : Program) (w : World) :
    (results fn tmps).run P w = ((asAddr (tmps.getD p undef)).run P w).andThen fun a w₁ => ((loadVar ty a).run P w₁).andThen fun v w₂ => .ok (.tuple #[v, tmps.getD q undef]) w₂ := by
  simp only [results, h]
  simp [Sem.run_bind, Result.andThen]
theorem ret_ct {P : Program} {fn : Func} {R : Ending → World → Prop} {a : Act} {w : World} {p q : Tmp} {ty t : TypeId} {b : Nat} {cs : List Value} {d : TypeDesc}
    (hr : fn.results = #[.cell p ty, .tmp q]) (hp : a.tmps.getD p undef = .pointer (some ⟨b, 0, none⟩)) (hh : Has w b cs t) (hu : P.underlying ty = some d) (hd : d.isRow = true)
    (hi : (P.info? ty).map (·.size) = some cs.length) (hdf : a.defers = []) (h : R (.returned (.tuple #[.agg cs.toArray, a.tmps.getD q undef])) w) : bodyPost P fn R .ret a w := by
  refine bodyPost_ret (v := .tuple #[.agg cs.toArray, a.tmps.getD q undef]) ?_ hdf h
  rw [results_ct hr, hp]
  simp [asAddr, Result.andThen, run_loadVar_mid w b 0 ty cs d hh.range hu hd hi]
set_option maxRecDepth 100000 in
theorem under26 : ∃ d, Tryz.prog.underlying 26 = some d ∧ d.isRow = true := ⟨_, Tryz.underlying26, rfl⟩
set_option maxRecDepth 100000 in
theorem info26 : (Tryz.prog.info? 26).map (·.size) = some 15 := by kernel_rfl
/-- where take's loop stands -/
structure TL (w wr : World) (db ib rb B : Nat) (fs : List Fd) (s0 : TS) (k : Nat) (s : TS) : Prop where
  g : w.grownBy wr none
  z : Has wr w.heap.size (Dg.zero 0).cells 26
  t : TkAt wr db ib rb B s
  e : takes (fs.take k) s0 = some s
  d : w.heap.size < db
  i : w.heap.size < ib
  r : w.heap.size < rb
theorem TL.next {w wr wz : World} {db ib rb B : Nat} {fs : List Fd} {s0 s s' : TS} {k : Nat} {f : Fd} (h : TL w wr db ib rb B fs s0 k s) (hf : fs[k]? = some f) (hs : tk f s = some s') (ht : TkAt wz db ib rb B s') (hfr : Fr (TF db ib rb) wr wz) : TL w wz db ib rb B fs s0 (k + 1) s' := by
  have hn : ¬ TF db ib rb w.heap.size := by
    have := h.d; have := h.i; have := h.r
    rintro (e | e | e) <;> omega
  refine ⟨fr_mine h.g hfr (fun i e => ?_), h.z.fr hfr hn, ht, by rw [takes_take hf, h.e]; exact hs, h.d, h.i, h.r⟩
  have := h.d; have := h.i; have := h.r
  rcases e with e | e | e <;> omega
theorem TL.grown {w wr wz : World} {db ib rb B : Nat} {fs : List Fd} {s0 s : TS} {k : Nat} (h : TL w wr db ib rb B fs s0 k s) (g : wr.grownBy wz none) : TL w wz db ib rb B fs s0 k s :=
  ⟨h.g.trans g, h.z.kept g (by simp), ⟨h.t.d.kept g (by simp), h.t.i.kept g, h.t.n, h.t.l⟩, h.e, h.d, h.i, h.r⟩
end Go.Proofs.YtiphnlfbgbemfaaGreatDoor.Pk

/- frame.take -/
namespace Go.Proofs.YtiphnlfbgbemfaaGreatDoor.Pk
open Go Go.RowKit

theorem slice_from (s : ByteArray) (n : Nat) (hn : n ≤ s.size) (W : World) : (Instr.slice 9 (.string s) (some (.int .i64 (n : Int))) none none).run Tryz.prog W = .ok (.string (ba ((sl s).drop n))) W := by
  rw [run_slice_string_l W 9 s under9 .i64 (n : Int) (by omega) (by omega)]
  congr 2
  apply sl_inj
  rw [sl_mk, Int.toNat_natCast]
  exact sl_extract s n
theorem one15 {a b c d e f g h i j k l m n o : Value} (h1 : [a, b, c, d, e, f, g, h, i, j, k, l, m, n, o].all (·.oneCell') = true := by rfl) : (#[a, b, c, d, e, f, g, h, i, j, k, l, m, n, o] : Array Value).all (·.oneCell') = true := by simpa using h1
def TakeRes (o : Option TS) (e : Ending) : Prop :=
  match o with
  | none => e = .panicked give
  | some t => e = .returned (.tuple #[dv (ended (some t)).1, .int .i64 (ended (some t)).2])
theorem TakeRes.no : TakeRes none (.panicked give) := rfl
theorem TakeRes.yes {t : TS} {v : Value} (h : v = .tuple #[dv (ended (some t)).1, .int .i64 (ended (some t)).2]) : TakeRes (some t) (.returned v) := by rw [h]; rfl
set_option maxHeartbeats 8000000 in
set_option maxRecDepth 100000 in
theorem take_c (s : ByteArray) (a : Option Addr) (c : Nat) (fs : List Fd) (w : World) (hs : 4 ≤ s.size ∧ s.size ≤ 1200) (h6 : fs.length ≤ 6) (hfl : Flds w a fs) :
    Calls Tryz.prog 31 #[.string s, .slice a fs.length c] w fun e w' => w.grownBy w' none ∧ TakeRes (takes fs (Dg.zero (kindL (sl s)), (sl s).drop 4, false)) e := by
  obtain ⟨n, hn⟩ : ∃ n, fs.length = n := ⟨_, rfl⟩
  rw [hn] at h6 ⊢
  obtain ⟨s0, hs0⟩ : ∃ s0 : TS, (Dg.zero (kindL (sl s)), (sl s).drop 4, false) = s0 := ⟨_, rfl⟩
  rw [hs0]
  obtain ⟨du, hdu, hdr⟩ := under26
  have HK := Keep.mk (fun W => kind_c s W (by omega))
  obtain ⟨kk, hkk⟩ : ∃ kk, kindL (sl s) = kk := ⟨_, rfl⟩
  rw [hkk] at HK hs0
  obtain ⟨R, hR⟩ : ∃ R, s.extract 4 s.size = R := ⟨_, rfl⟩
  have HR : Keep (sl R = (sl s).drop 4 ∧ (sl s).drop 4 = s0.2.1 ∧ s0 = (Dg.zero kk, (sl s).drop 4, false) ∧ s0.2.1.length ≤ 4611686018427387904) := ⟨by rw [← hR]; exact sl_extract s 4, by rw [← hs0], hs0.symm, by rw [← hs0]; simp only [List.length_drop]; rw [sl_len]; omega⟩
  obtain ⟨wA, hwA⟩ : ∃ q, w.alloc (.cells #[.int .i64 0, .string { data := #[] }, .int .u64 0, .string { data := #[] }, .string { data := #[] }, .int .u64 0, .int .i64 0, .string { data := #[] }, .int .u64 0, .int .i64 0, .int .i64 0, .bool false, .bool false, .string { data := #[] }, .string { data := #[] }] 26) = q := ⟨_, rfl⟩
  obtain ⟨wB0, hwB⟩ : ∃ q, wA.alloc (.cells #[.int .i64 0, .string { data := #[] }, .int .u64 0, .string { data := #[] }, .string { data := #[] }, .int .u64 0, .int .i64 0, .string { data := #[] }, .int .u64 0, .int .i64 0, .int .i64 0, .bool false, .bool false, .string { data := #[] }, .string { data := #[] }] 26) = q := ⟨_, rfl⟩
  obtain ⟨db, hdb⟩ : ∃ q, wA.heap.size = q := ⟨_, rfl⟩
  have gA : w.grownBy wA none := by rw [← hwA]; exact World.grownBy_alloc _ _ _
  have gB : wA.grownBy wB0 none := by rw [← hwB]; exact World.grownBy_alloc _ _ _
  have hA : Has wA w.heap.size (Dg.zero 0).cells 26 := by rw [← hwA]; exact Has.newA w _ 26
  have hB : Has wB0 db (Dg.zero 0).cells 26 := by rw [← hwB, ← hdb]; exact Has.newA wA _ 26
  have HW0 : Keep (w.grownBy wB0 none ∧ Has wB0 w.heap.size (Dg.zero 0).cells 26 ∧ Has wB0 db (Dg.zero 0).cells 26 ∧ w.heap.size < db) := ⟨gA.trans gB, hA.kept gB (by simp), hB, by have := hA.lt; omega⟩
  have HFL : Keep (Flds w a fs ∧ fs.length = n) := ⟨hfl, hn⟩
  clear gA gB hA hB hfl hn hs0 hkk
  go_enter Tryz.func31, Tryz.ntmps31
  go_wp2_with fail
  refine (HK.out wA).mono ?_
  rintro e wq ⟨rfl, hwq⟩
  subst hwq
  go_wp2_with (
    (refine wpList_store_mid rfl 26 _ _ rfl _ _ _ rfl rfl (HW0.out.2.2.1.there 0 15 (Nat.le_refl 15)) info26 one15 ?_
     generalize hw2 : World.setCells _ _ _ _ = wB
     have HW : Keep (w.grownBy wB none ∧ Has wB w.heap.size (Dg.zero 0).cells 26 ∧ Has wB db (Dg.zero kk).cells 26 ∧ w.heap.size < db) := by
       obtain ⟨q1, q2, q3, q4⟩ := HW0.out
       have g := gr_sets db (Dg.zero kk).cells wB0 0
       rw [show wB0.setCells db 0 (Dg.zero kk).cells = wB from hw2] at g
       refine ⟨gr_new q1 g (Nat.le_of_lt q4), q2.kept g (by simp; omega), ?_, q4⟩
       rw [← hw2]
       exact q3.setAll (Dg.zero kk).cells rfl
     clear hw2))
  refine (newI_c R wB).mono ?_
  rintro e w3 ⟨ib, rb, B, rfl, i3, g3, l1, l2, l3⟩
  have HT : Keep (TL w w3 db ib rb B fs s0 0 s0) := by
    obtain ⟨q1, q2, q3, q4⟩ := HW.out
    have hlt := q3.lt
    refine ⟨q1.trans g3, q2.kept g3 (by simp), ⟨?_, ?_, ⟨by omega, by omega, by omega⟩, HR.out.2.2.2⟩, rfl, q4, by omega, by omega⟩
    · rw [HR.out.2.2.1]; exact q3.kept g3 (by simp)
    · rw [← HR.out.2.1, HR.out.2.2.1, ← HR.out.1]; exact i3
  clear i3 g3 l1 l2 l3 HW
  go_wp2_with fail
  go_loopw [19] (fun t w' => ∃ (k : Nat) (x : TS), k ≤ n ∧ t = .int .i64 k ∧ Keep (TL w w' db ib rb B fs s0 k x)) (fun t _ => n - (intOf t).toNat)
  case atStart => exact ⟨0, s0, by omega, rfl, HT⟩
  case round =>
    obtain ⟨k, x, hkn, rfl, hrel⟩ := hrel
    by_cases hlt : k < n
    · have hfk : ∃ f, fs[k]? = some f := ⟨fs[k]'(by rw [HFL.out.2]; exact hlt), List.getElem?_eq_getElem _⟩
      obtain ⟨f, hfk⟩ := hfk
      obtain ⟨vt, vl, fb, rfl, ct, cl, FC⟩ := HFL.out.1 k f hfk
      obtain ⟨nt, ct', nl, cl', rfl, rfl, ⟨enl, TC⟩, _⟩ := FC
      have ct := hrel.out.g.cell ct (by simp)
      have cl := hrel.out.g.cell cl (by simp)
      have HL := Keep.mk TC
      have HFK := Keep.mk hfk
      rw [Nat.mul_comm] at ct cl
      clear TC hfk
      obtain ⟨wz, hwz⟩ : ∃ q, wr.alloc (.cells #[fc nt ct', fc nl cl'] 57) = q := ⟨_, rfl⟩
      have HZ : Keep (TL w wz db ib rb B fs s0 k x) := ⟨hrel.out.grown (by rw [← hwz]; exact World.grownBy_alloc _ _ _)⟩
      have cz : wz.cell? ⟨wr.heap.size, 0, none⟩ = some (fc nt ct') := by rw [← hwz]; exact (Has.newA wr #[fc nt ct', fc nl cl'] 57).cellv 0 _ rfl
      clear hrel
      go_wp2_with fail
      refine (HL.out wz db ib rb B x HZ.out.g (Nat.le_of_lt HZ.out.d) (Nat.le_of_lt HZ.out.i) (Nat.le_of_lt HZ.out.r) HZ.out.t).mono ?_
      rintro e wy ⟨hres, hfr⟩
      cases hx : tk f x with
      | none =>
        rw [hx] at hres
        obtain rfl : e = .panicked give := hres
        have hno := takes_none HFK.out HZ.out.e hx
        have hg : w.grownBy wy none := fr_mine HZ.out.g hfr (fun i e => by
          have := HZ.out.d; have := HZ.out.i; have := HZ.out.r
          rcases e with e | e | e <;> omega)
        refine ⟨rfl, hg, ?_⟩
        rw [hno]
        exact TakeRes.no
      | some x' =>
        rw [hx] at hres
        obtain ⟨rfl, ht'⟩ := hres
        have HN : Keep (TL w wy db ib rb B fs s0 (k + 1) x') := ⟨HZ.out.next HFK.out hx ht' hfr⟩
        clear hx ht' hfr HZ
        go_wp2_with fail
        go_roundw
        case rel => exact ⟨k + 1, x', by omega, by go_num, HN⟩
        case measure => simp [intOf]; omega
    · obtain rfl : k = n := by omega
      have hx : takes fs s0 = some x := by
        have := hrel.out.e
        rw [← HFL.out.2, List.take_length] at this
        exact this
      have HXE := Keep.mk hx
      obtain ⟨dx, L, r⟩ := x
      have HX : Keep (TL w wr db ib rb B fs s0 k (dx, L, r)) := hrel
      have HI := Keep.mk (idone_c ib rb B L r wr HX.out.t.i)
      clear hx hrel
      by_cases h0 : 0 < L.length
      · have hend : ended (some (dx, L, r)) = (Dg.zero 0, 72) := by simp [ended, h0]
        rw [if_pos h0] at HI
        clear h0
        go_wp2_with fail
        refine HI.out.mono ?_
        rintro e wq ⟨rfl, hwq⟩
        rw [hwq]
        clear hwq wq
        go_wp2_with (
          (refine wpList_store_mid rfl 26 _ _ rfl _ _ _ rfl rfl (HX.out.z.there 0 15 (Nat.le_refl 15)) info26 one15 ?_
           generalize hw2 : World.setCells _ _ _ _ = w9
           have HW9 : Keep (w.grownBy w9 none ∧ Has w9 w.heap.size (Dg.zero 0).cells 26) := by
             have g := gr_sets w.heap.size (Dg.zero 0).cells wr 0
             rw [show wr.setCells w.heap.size 0 (Dg.zero 0).cells = w9 from hw2] at g
             refine ⟨gr_new HX.out.g g (Nat.le_refl _), ?_⟩
             rw [← hw2]
             exact HX.out.z.setAll (Dg.zero 0).cells rfl
           clear hw2))
        refine ret_ct rfl rfl HW9.out.2 hdu hdr info26 rfl ⟨HW9.out.1, ?_⟩
        rw [HXE.out]
        exact TakeRes.yes (by rw [hend]; rfl)
      · cases r
        · have hend : ended (some (dx, L, false)) = (dx, 0) := by simp [ended, h0]
          rw [if_neg h0] at HI
          simp only [Bool.false_eq_true, if_false] at HI
          clear h0
          obtain ⟨D, hD⟩ : ∃ D, dx.cells = D := ⟨_, rfl⟩
          have hDl : D.length = 15 := by rw [← hD]; rfl
          have hD1 : D.toArray.all (·.oneCell') = true := by rw [← hD]; simp [Dg.cells, Value.oneCell']
          have HDD : Keep (Has wr db D 26 ∧ D.length = 15 ∧ D.toArray.all (·.oneCell') = true ∧ (Tryz.prog.info? 26).map (·.size) = some D.length) := ⟨by rw [← hD]; exact HX.out.t.d, hDl, hD1, by rw [hDl]; exact info26⟩
          clear hDl hD1
          go_wp2_with fail
          refine HI.out.mono ?_
          rintro e wq ⟨rfl, hwq⟩
          rw [hwq]
          clear hwq wq
          go_wp2_with (first
            | (refine wpList_load_mid rfl 26 _ rfl _ _ rfl D _ HDD.out.1.range hdu hdr HDD.out.2.2.2 ?_)
            | (refine wpList_store_mid rfl 26 _ _ rfl _ _ _ rfl rfl (HX.out.z.there 0 _ (by rw [List.size_toArray, HDD.out.2.1]; exact Nat.le_refl 15)) (by rw [List.size_toArray]; exact HDD.out.2.2.2) HDD.out.2.2.1 ?_
               generalize hw2 : World.setCells _ _ _ _ = w9
               have HW9 : Keep (w.grownBy w9 none ∧ Has w9 w.heap.size D 26) := by
                 have g := gr_sets w.heap.size D wr 0
                 rw [show wr.setCells w.heap.size 0 D = w9 from hw2] at g
                 refine ⟨gr_new HX.out.g g (Nat.le_refl _), ?_⟩
                 rw [← hw2]
                 exact HX.out.z.setAll D (by rw [HDD.out.2.1]; rfl)
               clear hw2))
          refine ret_ct rfl rfl HW9.out.2 hdu hdr HDD.out.2.2.2 rfl ⟨HW9.out.1, ?_⟩
          rw [HXE.out]
          exact TakeRes.yes (by rw [hend, ← hD]; rfl)
        · have hend : ended (some (dx, L, true)) = (Dg.zero 0, 73) := by simp [ended, h0]
          rw [if_neg h0] at HI
          simp only [if_true] at HI
          clear h0
          go_wp2_with fail
          refine HI.out.mono ?_
          rintro e wq ⟨rfl, hwq⟩
          rw [hwq]
          clear hwq wq
          go_wp2_with (
            (refine wpList_store_mid rfl 26 _ _ rfl _ _ _ rfl rfl (HX.out.z.there 0 15 (Nat.le_refl 15)) info26 one15 ?_
             generalize hw2 : World.setCells _ _ _ _ = w9
             have HW9 : Keep (w.grownBy w9 none ∧ Has w9 w.heap.size (Dg.zero 0).cells 26) := by
               have g := gr_sets w.heap.size (Dg.zero 0).cells wr 0
               rw [show wr.setCells w.heap.size 0 (Dg.zero 0).cells = w9 from hw2] at g
               refine ⟨gr_new HX.out.g g (Nat.le_refl _), ?_⟩
               rw [← hw2]
               exact HX.out.z.setAll (Dg.zero 0).cells rfl
             clear hw2))
          refine ret_ct rfl rfl HW9.out.2 hdu hdr info26 rfl ⟨HW9.out.1, ?_⟩
          rw [HXE.out]
          exact TakeRes.yes (by rw [hend]; rfl)
end Go.Proofs.YtiphnlfbgbemfaaGreatDoor.Pk

/- frame.Decode -/
namespace Go.Proofs.YtiphnlfbgbemfaaGreatDoor.Pk
open Go Go.RowKit

theorem results_cc {fn : Func} {p q : Tmp} {ty tz : TypeId} (h : fn.results = #[.cell p ty, .cell q tz]) (tmps : Array Value) (P : Program) (w : World) :
    (results fn tmps).run P w = ((asAddr (tmps.getD p undef)).run P w).andThen fun a w₁ => ((loadVar ty a).run P w₁).andThen fun v w₂ => ((asAddr (tmps.getD q undef)).run P w₂).andThen fun b w₃ => ((loadVar tz b).run P w₃).andThen fun u w₄ => .ok (.tuple #[v, u]) w₄ := by
  simp only [results, h]
  simp [Sem.run_bind, Result.andThen]
set_option maxRecDepth 100000 in
theorem load28 (w : World) (b : Nat) (x : Int) (h : Has w b [.int .i64 x] 28) : (loadVar 28 ⟨b, 0, none⟩).run Tryz.prog w = .ok (.int .i64 x) w := by
  have c : w.cell? ⟨b, 0, none⟩ = some (.int .i64 x) := h.cellv 0 _ rfl
  simp [loadVar, go_sem, c]
theorem leave_cc {fn : Func} {R : Ending → World → Prop} {tmps : Array Value} {w : World} {p q : Tmp} {b b' : Nat} {D : List Value} {x : Int}
    (hr : fn.results = #[.cell p 26, .cell q 28]) (hp : tmps.getD p undef = pv b) (hq : tmps.getD q undef = pv b') (h1 : Has w b D 26) (hl : D.length = 15) (h2 : Has w b' [.int .i64 x] 28)
    (h : R (.returned (.tuple #[.agg D.toArray, .int .i64 x])) w) : Leaves Tryz.prog fn tmps R [] .returning w := by
  obtain ⟨du, hdu, hdr⟩ := under26
  refine ⟨.tuple #[.agg D.toArray, .int .i64 x], ?_, h⟩
  rw [results_cc hr, hp, hq]
  have e1 := run_loadVar_mid (P := Tryz.prog) w b 0 26 D du h1.range hdu hdr (by rw [hl]; exact info26)
  have e2 := load28 w b' x h2
  simp [asAddr, Result.andThen, e1, e2]
set_option maxHeartbeats 8000000 in
set_option maxRecDepth 100000 in
theorem catch_panic (b b' : Nat) (v : Value) (D : List Value) (x : Int) (w : World) (h1 : Has w b D 26) (hl : D.length = 15) (h2 : Has w b' [.int .i64 x] 28) (hb : b ≠ b') :
    CallsD Tryz.prog 30 #[pv b, pv b'] (.panicking [{ v := .iface 28 v, recovered := false }]) w fun e u' w' =>
      e = .returned (.tuple #[]) ∧ u' = .panicking [{ v := .iface 28 v, recovered := true }] ∧ Has w' b (Dg.zero 0).cells 26 ∧ Has w' b' [.int .i64 72] 28 ∧ Fr (fun i => i = b ∨ i = b') w w' := by
  have HA : Keep (Has w b D 26 ∧ D.length = 15 ∧ Has w b' [.int .i64 x] 28) := ⟨h1, hl, h2⟩
  clear h1 hl h2
  refine callsD_of_wpS Tryz.func30 rfl fun c₀ cs hu => ?_
  apply wpS_seq
  apply wpS_region
  simp [wpOpsS, go_sem, recoverD, hu, Tryz.ntmps30, Exit.thenS]
  refine wpS_cond (t := true) (by simp [Act.eval, Array.replicate]) ?_
  simp only [if_true]
  refine wpS_of_wp ?_
  rw [show (#[pv b, pv b'] ++ ((Array.replicate 3 undef).setIfInBounds 0 (Value.iface 28 v)).setIfInBounds 1 (Value.bool true)) = #[pv b, pv b', .iface 28 v, .bool true, undef] from rfl]
  go_wp2_with (
    (refine wpList_store_mid rfl 26 _ _ rfl _ _ _ rfl rfl (HA.out.1.there 0 15 (by rw [HA.out.2.1]; exact Nat.le_refl 15)) info26 one15 ?_
     generalize hw2 : World.setCells _ _ _ _ = w9
     have HW9 : Keep (Has w9 b (Dg.zero 0).cells 26 ∧ Has w9 b' [.int .i64 x] 28 ∧ Fr (fun i => i = b ∨ i = b') w w9) := by
       have g := gr_sets b (Dg.zero 0).cells w 0
       rw [show w.setCells b 0 (Dg.zero 0).cells = w9 from hw2] at g
       refine ⟨?_, HA.out.2.2.kept g (by simp; omega), Fr.ofSome g (.inl rfl)⟩
       rw [← hw2]
       exact HA.out.1.setAll (Dg.zero 0).cells (by rw [HA.out.2.1]; rfl)
     have c9 : w9.cell? ⟨b', 0, none⟩ = some (.int .i64 x) := HW9.out.2.1.cellv 0 _ rfl
     have z9 : w9.frozen? ⟨b', 0, none⟩ = false := HW9.out.2.1.frozen 0
     clear hw2))
  have HF : Keep (Has (w9.setCell ⟨b', 0, none⟩ (.int .i64 72)) b (Dg.zero 0).cells 26 ∧ Has (w9.setCell ⟨b', 0, none⟩ (.int .i64 72)) b' [.int .i64 72] 28 ∧ Fr (fun i => i = b ∨ i = b') w (w9.setCell ⟨b', 0, none⟩ (.int .i64 72))) :=
    ⟨HW9.out.1.other _ _ (Ne.symm hb), HW9.out.2.1.setCell 0 _, HW9.out.2.2.trans (Fr.ofSome (gr_set w9 b' 0 _) (.inr rfl))⟩
  generalize w9.setCell ⟨b', 0, none⟩ (.int .i64 72) = w8 at HF ⊢
  clear HW9 c9 z9
  cases c₀
  simp_all [bodyPostS, results, Tryz.results30]
  exact HF.out
set_option maxHeartbeats 8000000 in
set_option maxRecDepth 100000 in
theorem catch_idle (b b' : Nat) (w : World) :
    CallsD Tryz.prog 30 #[pv b, pv b'] .returning w fun e u' w' => e = .returned (.tuple #[]) ∧ u' = .returning ∧ w' = w := by
  refine callsD_of_wpS Tryz.func30 rfl fun c₀ cs hu => ?_
  apply wpS_seq
  apply wpS_region
  simp [wpOpsS, go_sem, recoverD, hu, Tryz.ntmps30, Exit.thenS]
  refine wpS_cond (t := false) (by simp [Act.eval, Array.replicate]) ?_
  simp only [Bool.false_eq_true, if_false]
  refine wpS_of_wp (wp_skip ?_)
  cases c₀
  simp_all [bodyPostS, results, Tryz.results30]
theorem bp_ret {P : Program} {fn : Func} {R : Ending → World → Prop} {a : Act} {w : World} (h : Leaves P fn a.tmps R a.defers .returning w) : bodyPostD P fn R .ret a w := h
theorem dec_no {s : List UInt8} (h1 : ¬ 1200 < s.length) (h2 : s.take 3 = magic) (h3 : fieldsL (kindL s) ≠ []) : dec s = ended (takes (fieldsL (kindL s)) (Dg.zero (kindL s), s.drop 4, false)) := by
  rw [dec, if_neg h1, if_neg (by simp [h2]), if_neg h3]
set_option maxHeartbeats 8000000 in
set_option maxRecDepth 100000 in
theorem decode_c (s : ByteArray) (w : World) (hs : s.size ≤ 4611686018427387904) :
    Calls Tryz.prog 11 #[.string s] w fun e w' => e = .returned (.tuple #[dv (dec (sl s)).1, .int .i64 (dec (sl s)).2]) ∧ w.grownBy w' none := by
  have hmf : MF := fun _ _ _ _ => rfl
  by_cases h12 : 1200 < s.size
  · have hd : decide ((1200 : Int) < (s.size : Int)) = true := decide_eq_true (by omega)
    have he : dec (sl s) = (Dg.zero 0, 72) := by rw [dec, if_pos (by rw [sl_len]; exact h12)]
    rw [he]
    clear h12 he
    go_enter_defers Tryz.func11, Tryz.ntmps11
    go_wp2
    obtain ⟨q1, q2, q3⟩ := two w #[.int .i64 0, .string { data := #[] }, .int .u64 0, .string { data := #[] }, .string { data := #[] }, .int .u64 0, .int .i64 0, .string { data := #[] }, .int .u64 0, .int .i64 0, .int .i64 0, .bool false, .bool false, .string { data := #[] }, .string { data := #[] }] #[.int .i64 72] 26 28
    refine bp_ret ?_
    show Leaves Tryz.prog Tryz.f11 _ _ [] .returning _
    exact leave_cc rfl rfl rfl q1 rfl q2 ⟨rfl, q3⟩
  · have hd : decide ((1200 : Int) < (s.size : Int)) = false := decide_eq_false (by omega)
    have h12' : ¬ 1200 < (sl s).length := by rw [sl_len]; exact h12
    by_cases hm : (sl s).take 3 = magic
    · have HP := Keep.mk (fun W => hp_c s W)
      rw [decide_eq_true hm] at HP
      have HK := Keep.mk (fun W => kind_c s W hs)
      have hk0 : ∀ fs, fieldsL (kindL (sl s)) = fs → fs ≠ [] → 4 ≤ s.size := fun fs e hne => by
        by_cases h4 : s.size < 4
        · have : kindL (sl s) = 0 := by rw [kindL, if_pos (.inl (by rw [sl_len]; exact h4))]
          rw [this] at e
          exact absurd e.symm hne
        · omega
      have HD : Keep (∀ fs, fieldsL (kindL (sl s)) = fs → fs ≠ [] → dec (sl s) = ended (takes fs (Dg.zero (kindL (sl s)), (sl s).drop 4, false))) := ⟨fun fs e hne => by rw [← e]; exact dec_no h12' hm (by rw [e]; exact hne)⟩
      have HD0 : Keep (fieldsL (kindL (sl s)) = [] → dec (sl s) = (Dg.zero 0, 71)) := ⟨fun e => by rw [dec, if_neg h12', if_neg (by simp [hm]), if_pos e]⟩
      have HF := fields_c (kindL (sl s))
      have h6 := fieldsL_len (kindL (sl s))
      obtain ⟨fs, hfs⟩ : ∃ fs, fieldsL (kindL (sl s)) = fs := ⟨_, rfl⟩
      rw [hfs] at HF HD HD0 h6
      have hk0' := hk0 fs hfs
      replace HD := Keep.mk (HD.out fs rfl)
      have HFF := Keep.mk HF
      have HS : Keep (fs ≠ [] → 4 ≤ s.size ∧ s.size ≤ 1200) := ⟨fun h => ⟨hk0' h, by omega⟩⟩
      have HTK := Keep.mk (fun (W : World) a c (h : fs ≠ []) (hf : Flds W a fs) => take_c s a c fs W (HS.out h) h6 hf)
      obtain ⟨kk, hkk⟩ : ∃ kk, kindL (sl s) = kk := ⟨_, rfl⟩
      rw [hkk] at HFF HK
      obtain ⟨n, hn⟩ : ∃ n, fs.length = n := ⟨_, rfl⟩
      have HN := Keep.mk hn
      rw [hn] at HFF HTK h6
      obtain ⟨wA, hwA⟩ : ∃ q, (w.alloc (.cells #[.int .i64 0, .string { data := #[] }, .int .u64 0, .string { data := #[] }, .string { data := #[] }, .int .u64 0, .int .i64 0, .string { data := #[] }, .int .u64 0, .int .i64 0, .int .i64 0, .bool false, .bool false, .string { data := #[] }, .string { data := #[] }] 26)).alloc (.cells #[.int .i64 0] 28) = q := ⟨_, rfl⟩
      obtain ⟨q1, q2, q3⟩ := two w #[.int .i64 0, .string { data := #[] }, .int .u64 0, .string { data := #[] }, .string { data := #[] }, .int .u64 0, .int .i64 0, .string { data := #[] }, .int .u64 0, .int .i64 0, .int .i64 0, .bool false, .bool false, .string { data := #[] }, .string { data := #[] }] #[.int .i64 0] 26 28
      rw [hwA] at q1 q2 q3
      have HA : Keep (Has wA w.heap.size (Dg.zero 0).cells 26 ∧ Has wA (w.heap.size + 1) [.int .i64 0] 28 ∧ w.grownBy wA none) := ⟨q1, q2, q3⟩
      clear HF h12 h12' hm hk0 hfs hk0' hkk hn q1 q2 q3
      go_enter_defers Tryz.func11, Tryz.ntmps11
      go_wp2_with fail
      refine (HP.out wA).mono ?_
      rintro e wq ⟨rfl, hwq⟩
      rw [hwq]
      clear hwq wq
      go_wp2_with fail
      refine (HK.out wA).mono ?_
      rintro e wq ⟨rfl, hwq⟩
      rw [hwq]
      clear hwq wq
      go_wp2_with fail
      refine (HFF.out wA).mono ?_
      rintro e w1 ⟨a, c, rfl, fl, g1⟩
      have HB : Keep (Has w1 w.heap.size (Dg.zero 0).cells 26 ∧ Has w1 (w.heap.size + 1) [.int .i64 0] 28 ∧ w.grownBy w1 none ∧ Flds w1 a fs) := ⟨HA.out.1.kept g1 (by simp), HA.out.2.1.kept g1 (by simp), HA.out.2.2.trans g1, fl⟩
      clear fl g1
      obtain ⟨du, hdu, hdr⟩ := under26
      by_cases hn0 : n = 0
      · have hb0 : ((n : Int) == 0) = true := by simp; omega
        have hfs0 : fs = [] := List.eq_nil_of_length_eq_zero (HN.out.trans hn0)
        have HE := Keep.mk (HD0.out hfs0)
        have c9 : w1.cell? ⟨w.heap.size + 1, 0, none⟩ = some (.int .i64 0) := HB.out.2.1.cellv 0 _ rfl
        have z9 : w1.frozen? ⟨w.heap.size + 1, 0, none⟩ = false := HB.out.2.1.frozen 0
        clear hn0 hfs0
        go_wp2_with (first
          | (refine wpList_load_mid rfl 26 _ rfl _ _ rfl (Dg.zero 0).cells _ HB.out.1.range hdu hdr info26 ?_)
          | (refine wpList_store_mid rfl 26 _ _ rfl _ _ _ rfl rfl (HB.out.1.there 0 15 (Nat.le_refl 15)) info26 one15 ?_
             generalize hw2 : World.setCells _ _ _ _ = w9
             have HW9 : Keep (Has w9 w.heap.size (Dg.zero 0).cells 26 ∧ Has w9 (w.heap.size + 1) [.int .i64 0] 28 ∧ w.grownBy w9 none) := by
               have g := gr_sets w.heap.size (Dg.zero 0).cells w1 0
               rw [show w1.setCells w.heap.size 0 (Dg.zero 0).cells = w9 from hw2] at g
               refine ⟨?_, HB.out.2.1.kept g (by simp), gr_new HB.out.2.2.1 g (Nat.le_refl _)⟩
               rw [← hw2]
               exact HB.out.1.setAll (Dg.zero 0).cells rfl
             have c9 : w9.cell? ⟨w.heap.size + 1, 0, none⟩ = some (.int .i64 0) := HW9.out.2.1.cellv 0 _ rfl
             have z9 : w9.frozen? ⟨w.heap.size + 1, 0, none⟩ = false := HW9.out.2.1.frozen 0
             clear hw2))
        refine bp_ret ?_
        show Leaves Tryz.prog Tryz.f11 _ _ [] .returning _
        refine leave_cc rfl rfl rfl (HW9.out.1.other _ _ (by simp)) rfl (HW9.out.2.1.setCell 0 _) ⟨by rw [HE.out]; rfl, gr_new HW9.out.2.2 (gr_set _ _ _ _) (by omega)⟩
      · have hb0 : ((n : Int) == 0) = false := by simp; omega
        have hne : fs ≠ [] := fun e => hn0 (by rw [← HN.out, e]; rfl)
        have HE := Keep.mk (HD.out hne)
        have HT := Keep.mk (HTK.out w1 a c hne HB.out.2.2.2)
        clear hn0 hne
        go_wp2_with fail
        refine HT.out.mono ?_
        rintro e w2 ⟨g2, hres⟩
        have HC : Keep (Has w2 w.heap.size (Dg.zero 0).cells 26 ∧ Has w2 (w.heap.size + 1) [.int .i64 0] 28 ∧ w.grownBy w2 none) := ⟨HB.out.1.kept g2 (by simp), HB.out.2.1.kept g2 (by simp), HB.out.2.2.1.trans g2⟩
        clear g2
        cases ht : takes fs (Dg.zero (kindL (sl s)), (sl s).drop 4, false) with
        | none =>
          rw [ht] at hres
          obtain rfl : e = .panicked give := hres
          rw [ht] at HE
          show Leaves Tryz.prog Tryz.f11 _ _ [_] (.panicking give) _
          refine leaves_cons (f := 30) (args := #[pv w.heap.size, pv (w.heap.size + 1)]) (by simp) (by simp [go_sem]) ?_
          refine (catch_panic w.heap.size (w.heap.size + 1) (.int .i64 72) (Dg.zero 0).cells 0 w2 HC.out.1 rfl HC.out.2.1 (by omega)).mono ?_
          rintro e u' w9 ⟨rfl, rfl, k1, k2, f9⟩
          show Leaves Tryz.prog Tryz.f11 _ _ [] .returning _
          exact leave_cc rfl rfl rfl k1 rfl k2 ⟨by rw [HE.out]; rfl, fr_mine HC.out.2.2 f9 (fun i e => by omega)⟩
        | some t =>
          rw [ht] at hres
          obtain rfl : e = .returned (.tuple #[dv (ended (some t)).1, .int .i64 (ended (some t)).2]) := hres
          rw [ht] at HE
          obtain ⟨dx, hdx⟩ : ∃ x, (ended (some t)).1 = x := ⟨_, rfl⟩
          obtain ⟨ex, hex⟩ : ∃ x, (ended (some t)).2 = x := ⟨_, rfl⟩
          rw [hdx, hex]
          have HE2 : Keep (dec (sl s) = (dx, ex)) := ⟨by rw [HE.out, ← hdx, ← hex]⟩
          obtain ⟨D, hD⟩ : ∃ D, dx.cells = D := ⟨_, rfl⟩
          have hDl : D.length = 15 := by rw [← hD]; rfl
          have hD1 : D.toArray.all (·.oneCell') = true := by rw [← hD]; simp [Dg.cells, Value.oneCell']
          have HDD : Keep (D.length = 15 ∧ D.toArray.all (·.oneCell') = true ∧ (Tryz.prog.info? 26).map (·.size) = some D.toArray.size) := ⟨hDl, hD1, by rw [List.size_toArray, hDl]; exact info26⟩
          rw [show dv dx = .agg D.toArray from by rw [← hD]; rfl]
          clear hDl hD1 hdx hex HE ht
          go_wp2_with (
            (refine wpList_store_mid rfl 26 _ _ rfl _ _ _ rfl rfl (HC.out.1.there 0 _ (by rw [List.size_toArray, HDD.out.1]; exact Nat.le_refl 15)) HDD.out.2.2 HDD.out.2.1 ?_
             generalize hw2 : World.setCells _ _ _ _ = w9
             have HW9 : Keep (Has w9 w.heap.size D 26 ∧ Has w9 (w.heap.size + 1) [.int .i64 0] 28 ∧ w.grownBy w9 none) := by
               have g := gr_sets w.heap.size D w2 0
               rw [show w2.setCells w.heap.size 0 D = w9 from hw2] at g
               refine ⟨?_, HC.out.2.1.kept g (by simp), gr_new HC.out.2.2 g (Nat.le_refl _)⟩
               rw [← hw2]
               exact HC.out.1.setAll D (by rw [HDD.out.1]; rfl)
             have c9 : w9.cell? ⟨w.heap.size + 1, 0, none⟩ = some (.int .i64 0) := HW9.out.2.1.cellv 0 _ rfl
             have z9 : w9.frozen? ⟨w.heap.size + 1, 0, none⟩ = false := HW9.out.2.1.frozen 0
             clear hw2))
          show Leaves Tryz.prog Tryz.f11 _ _ [_] .returning _
          refine leaves_cons (f := 30) (args := #[pv w.heap.size, pv (w.heap.size + 1)]) (by simp) (by simp [go_sem]) ?_
          refine (catch_idle w.heap.size (w.heap.size + 1) _).mono ?_
          rintro e u' w8 ⟨rfl, rfl, rfl⟩
          show Leaves Tryz.prog Tryz.f11 _ _ [] .returning _
          exact leave_cc rfl rfl rfl (HW9.out.1.other _ _ (by simp)) HDD.out.1 (HW9.out.2.1.setCell 0 _) ⟨by rw [HE2.out, ← hD]; rfl, gr_new HW9.out.2.2 (gr_set _ _ _ _) (by omega)⟩
    · have HP := Keep.mk (fun W => hp_c s W)
      rw [decide_eq_false hm] at HP
      have he : dec (sl s) = (Dg.zero 0, 70) := by rw [dec, if_neg h12', if_pos hm]
      rw [he]
      clear h12 h12' he hm
      go_enter_defers Tryz.func11, Tryz.ntmps11
      go_wp2_with fail
      refine (HP.out _).mono ?_
      rintro e wq ⟨rfl, rfl⟩
      go_wp2
      obtain ⟨q1, q2, q3⟩ := two w #[.int .i64 0, .string { data := #[] }, .int .u64 0, .string { data := #[] }, .string { data := #[] }, .int .u64 0, .int .i64 0, .string { data := #[] }, .int .u64 0, .int .i64 0, .int .i64 0, .bool false, .bool false, .string { data := #[] }, .string { data := #[] }] #[.int .i64 70] 26 28
      refine bp_ret ?_
      show Leaves Tryz.prog Tryz.f11 _ _ [] .returning _
      exact leave_cc rfl rfl rfl q1 rfl q2 ⟨rfl, q3⟩
end Go.Proofs.YtiphnlfbgbemfaaGreatDoor.Pk

/- frame.Seal -/
namespace Go.Proofs.YtiphnlfbgbemfaaGreatDoor.Pk
open Go Go.RowKit

def zero32 : ByteArray := ba (List.replicate 32 0)
def Dg.bare (d : Dg) : Dg := { d with tag := zero32 }
def sealD (d : Dg) (key : ByteArray) : ByteArray × Int :=
  if 3 ≤ d.kind ∧ d.kind ≤ 7 then
    if (enc d.bare).2 = 0 then (bodyB (ba (enc d.bare).1) ++ hmacB key (bodyB (ba (enc d.bare).1)), 0) else (nob, (enc d.bare).2)
  else (nob, 71)
theorem Dg.bare_fine {d : Dg} (h : d.fine) : d.bare.fine := ⟨h.k, h.e, h.s, h.p, h.q, h.h, h.t⟩
theorem Dg.bare_small {d : Dg} (h : d.small) : d.bare.small := ⟨h.n, h.c, h.m, h.s, h.dt, by show (ba (List.replicate 32 0)).size ≤ _; decide⟩
theorem finish_le (s : LS) : (finish s).1.length ≤ 1200 := by
  obtain ⟨st, r⟩ := s
  cases st with
  | none => simp [finish]
  | some L =>
    simp only [finish]
    by_cases h : r = true
    · simp [h]
    · by_cases h2 : 1200 < L.length
      · simp [h, h2]
      · simp [h, h2]; omega
theorem enc_le (d : Dg) : (enc d).1.length ≤ 1200 := by
  unfold enc
  split
  · simp
  · exact finish_le _
theorem hmacB_size (k t : ByteArray) : (hmacB k t).size = 32 := by
  rw [← sl_len]; show (Go.Proofs.YtiphnlfbgbemfaaGreatDoor.sl (hmacB k t)).length = _; rw [hmacB_sl]; exact Mac.sha_len _
set_option maxHeartbeats 8000000 in
set_option maxRecDepth 100000 in
theorem seal_c (d : Dg) (key : ByteArray) (hf : d.fine) (hs : d.small) (w : World) (hk : Kc w) (hkey : key.size ≤ 2305843009213693952) :
    Calls Tryz.prog 10 #[dv d, .string key] w fun e w' => e = .returned (.tuple #[.string (sealD d key).1, .int .i64 (sealD d key).2]) ∧ w.grownBy w' none := by
  obtain ⟨du, hdu, hdr⟩ := under26
  obtain ⟨kd, hkd⟩ : ∃ x, d.kind = x := ⟨_, rfl⟩
  obtain ⟨w0, hw0⟩ : ∃ q, w.alloc (.cells d.cells.toArray 26) = q := ⟨_, rfl⟩
  have h0 : Has w0 w.heap.size d.cells 26 := by rw [← hw0]; exact Has.new w _ 26
  have g0 : w.grownBy w0 none := by rw [← hw0]; exact World.grownBy_alloc _ _ _
  have c0 : w0.cell? ⟨w.heap.size, 0, none⟩ = some (.int .i64 kd) := h0.cellv 0 _ (by rw [← hkd]; rfl)
  have HW : Keep (w.grownBy w0 none ∧ Has w0 w.heap.size d.cells 26 ∧ Kc w ∧ d.bare.fine ∧ d.bare.small ∧ key.size ≤ 2305843009213693952) := ⟨g0, h0, hk, d.bare_fine hf, d.bare_small hs, hkey⟩
  have HT := Keep.mk (tagged_c kd w0)
  have hw1 : w.alloc (.cells #[.int .i64 kd, .string d.nonce, .int .u64 d.epoch, .string d.cookie, .string d.name, .int .u64 d.session, .int .i64 d.player, .string d.salt, .int .u64 d.seq, .int .i64 d.thr, .int .i64 d.turn, .bool d.fire, .bool d.boost, .string d.data, .string d.tag] 26) = w0 := by rw [← hkd]; exact hw0
  clear h0 g0 hw0 hf hs hk hkey
  by_cases ht : 3 ≤ kd ∧ kd ≤ 7
  · rw [decide_eq_true ht] at HT
    have hsl : sealD d key = if (enc d.bare).2 = 0 then (bodyB (ba (enc d.bare).1) ++ hmacB key (bodyB (ba (enc d.bare).1)), 0) else (nob, (enc d.bare).2) := by rw [sealD, if_pos (by rw [hkd]; exact ht)]
    have HSL := Keep.mk hsl
    clear ht hsl
    unfold dv
    rw [hkd]
    clear hkd
    go_enter Tryz.func10, Tryz.ntmps10
    go_wp2_with fail
    refine HT.out.mono ?_
    rintro e wq ⟨rfl, hwq⟩
    rw [hwq]
    clear hwq wq
    go_wp2_with fail
    refine (rep_c 32 w0 (by decide)).mono ?_
    rintro e w2 ⟨rfl, g2⟩
    have h2 := HW.out.2.1.kept g2 (by simp)
    have c2 : w2.cell? ⟨w.heap.size, 14, none⟩ = some (.string d.tag) := h2.cellv 14 _ rfl
    have z2 : w2.frozen? ⟨w.heap.size, 14, none⟩ = false := h2.frozen 14
    obtain ⟨Z, hZ⟩ : ∃ Z, ba (List.replicate 32 0) = Z := ⟨_, rfl⟩
    rw [hZ]
    obtain ⟨w3, hw3⟩ : ∃ q, w2.setCell ⟨w.heap.size, 14, none⟩ (.string Z) = q := ⟨_, rfl⟩
    have h3 : Has w3 w.heap.size d.bare.cells 26 := by rw [← hw3]; have := h2.setCell 14 (.string Z); rw [← hZ] at this ⊢; exact this
    have HW3 : Keep (Has w3 w.heap.size d.bare.cells 26 ∧ w.grownBy w3 none) := ⟨h3, by rw [← hw3]; exact gr_new (HW.out.1.trans g2) (gr_set _ _ _ _) (Nat.le_refl _)⟩
    clear h2 h3 g2 hZ
    go_wp2_with (refine wpList_load_mid rfl 26 _ rfl _ _ rfl d.bare.cells _ HW3.out.1.range hdu hdr info26 ?_)
    refine (encode_c d.bare HW.out.2.2.2.1 HW.out.2.2.2.2.1 w3).mono ?_
    rintro e w4 ⟨rfl, g4⟩
    have HG4 : Keep (w.grownBy w4 none) := ⟨HW3.out.2.trans g4⟩
    have hle := enc_le d.bare
    obtain ⟨en, hen⟩ : ∃ x, (enc d.bare).2 = x := ⟨_, rfl⟩
    obtain ⟨L, hL⟩ : ∃ x, ba (enc d.bare).1 = x := ⟨_, rfl⟩
    have hLs : L.size ≤ 1200 := by rw [← hL, ba_size]; exact hle
    rw [hen, hL]
    rw [hen, hL] at HSL
    have HL := Keep.mk hLs
    clear g4 hle hen hL hLs
    by_cases h0 : en = 0
    · subst h0
      rw [if_pos rfl] at HSL
      go_wp2_with fail
      refine (body_c L w4 (by have := HL.out; omega)).mono ?_
      rintro e w5 ⟨rfl, g5⟩
      have hbs := bodyB_size L
      obtain ⟨B, hB⟩ : ∃ B, bodyB L = B := ⟨_, rfl⟩
      rw [hB] at HSL hbs ⊢
      have HG5 : Keep (w.grownBy w5 none ∧ B.size ≤ 1200) := ⟨HG4.out.trans g5, by have := HL.out; omega⟩
      clear g5 hbs hB
      go_wp2_with fail
      refine (tag_any key B w5 (HW.out.2.2.1.kept HG5.out.1 (by simp)) HW.out.2.2.2.2.2 (by have := HG5.out.2; omega)).mono ?_
      rintro e w6 ⟨rfl, g6⟩
      have hadd := addS B (hmacB key B) (by rw [hmacB_size]; have := HG5.out.2; omega)
      have HG6 : Keep (w.grownBy w6 none) := ⟨HG5.out.1.trans g6⟩
      obtain ⟨Y, hY⟩ : ∃ Y, B ++ hmacB key B = Y := ⟨_, rfl⟩
      rw [hY] at hadd HSL
      clear g6 hY
      go_wp2_with fail
      go_ret2
      exact ⟨by rw [HSL.out]; rfl, HG6.out⟩
    · rw [if_neg h0] at HSL
      go_wp2_with fail
      go_ret2
      exact ⟨by rw [HSL.out]; rfl, HG4.out⟩
  · rw [decide_eq_false ht] at HT
    have hsl : sealD d key = (nob, 71) := by rw [sealD, if_neg (by rw [hkd]; exact ht)]
    rw [hsl]
    clear ht hsl
    unfold dv
    rw [hkd]
    clear hkd
    go_enter Tryz.func10, Tryz.ntmps10
    go_wp2_with fail
    refine HT.out.mono ?_
    rintro e wq ⟨rfl, hwq⟩
    rw [hwq]
    clear hwq wq
    go_wp2_with fail
    go_ret2
    exact ⟨rfl, HW.out.1⟩
end Go.Proofs.YtiphnlfbgbemfaaGreatDoor.Pk

/- what is sealed, by its fields -/
namespace Go.Proofs.YtiphnlfbgbemfaaGreatDoor.Pk
open Go Go.RowKit

theorem fields_tag {k : Int} (h : 3 ≤ k ∧ k ≤ 7) : ∃ fs, fieldsL k = fs ++ [.tag] ∧ ∀ f ∈ fs, f ≠ .tag := by
  have hk : k = 3 ∨ k = 4 ∨ k = 5 ∨ k = 6 ∨ k = 7 := by omega
  rcases hk with rfl | rfl | rfl | rfl | rfl
  · exact ⟨[.nonce, .epoch, .cookie, .name], rfl, by simp⟩
  · exact ⟨[.nonce, .session, .player, .salt], rfl, by simp⟩
  · exact ⟨[.session, .seq, .thr, .turn, .flags], rfl, by simp⟩
  · exact ⟨[.session, .seq, .view], rfl, by simp⟩
  · exact ⟨[.session, .seq], rfl, by simp⟩
def Dg.wear (d : Dg) (x : ByteArray) : Dg := { d with tag := x }
theorem lyB_wear (d : Dg) (x : ByteArray) (f : Fd) (h : f ≠ .tag) : lyB (d.wear x) f = lyB d f := by
  cases f <;> first | rfl | exact absurd rfl h
theorem fitF_wear (d : Dg) (x : ByteArray) (f : Fd) (h : f ≠ .tag) : fitF (d.wear x) f = fitF d f := by
  cases f <;> first | rfl | exact absurd rfl h
theorem bytes_wear (d : Dg) (x : ByteArray) (fs : List Fd) (h : ∀ f ∈ fs, f ≠ .tag) : bytesF (d.wear x) (fs ++ [.tag]) = bytesF d fs ++ sl x := by
  unfold bytesF
  rw [List.map_append, List.flatten_append]
  congr 1
  · congr 1
    exact List.map_congr_left (fun f hf => lyB_wear d x f (h f hf))
  · simp only [List.map_cons, List.map_nil, List.flatten_cons, List.flatten_nil, List.append_nil]; rfl
theorem Dg.wear_fine {d : Dg} (h : d.fine) (x : ByteArray) : (d.wear x).fine := ⟨h.k, h.e, h.s, h.p, h.q, h.h, h.t⟩
/-- a datagram that has a tag: its bytes ahead of the tag hang on no tag -/
theorem enc_wear (d : Dg) (hf : d.fine) (hk : 3 ≤ d.kind ∧ d.kind ≤ 7) : ∃ X : List UInt8, 4 ≤ X.length ∧ (∀ y : List UInt8, kindL (X ++ y) = d.kind) ∧
    ∀ x : ByteArray, x.size = 32 → enc (d.wear x) = @ite _ (∀ f ∈ fieldsL d.kind, f ≠ .tag → fitF d f) (Classical.propDecidable _) (if 1200 < X.length + 32 then ([], 72) else (X ++ sl x, 0)) ([], 73) := by
  obtain ⟨fs, hfs, hnt⟩ := fields_tag hk
  refine ⟨headL d ++ bytesF d fs, by simp [headL, magic], fun y => by rw [List.append_assoc]; exact (kind_head d (by omega) _).1, fun x hx => ?_⟩
  rw [enc_is _ (Dg.wear_fine hf x)]
  have hkk : (d.wear x).kind = d.kind := rfl
  have hh : headL (d.wear x) = headL d := rfl
  rw [hkk, hh, if_neg (fieldsL_some (by omega))]
  have e : bytesF (d.wear x) (fieldsL d.kind) = bytesF d fs ++ sl x := by rw [hfs]; exact bytes_wear d x fs hnt
  have hl : (headL d ++ (bytesF d fs ++ sl x)).length = (headL d ++ bytesF d fs).length + 32 := by
    rw [← List.append_assoc, List.length_append, sl_len, hx]
  have hq : (∀ f ∈ fieldsL d.kind, fitF (d.wear x) f) ↔ (∀ f ∈ fieldsL d.kind, f ≠ .tag → fitF d f) := by
    constructor
    · intro h f hm hne
      rw [← fitF_wear d x f hne]; exact h f hm
    · intro h f hm
      by_cases hne : f = .tag
      · subst hne; exact hx
      · rw [fitF_wear d x f hne]; exact h f hm hne
  rw [e, hl]
  by_cases h : ∀ f ∈ fieldsL d.kind, f ≠ .tag → fitF d f
  · rw [if_pos (hq.2 h), if_pos h, List.append_assoc]
  · rw [if_neg (fun c => h (hq.1 c)), if_neg h]
theorem zero32_size : zero32.size = 32 := by decide
/-- what Seal answers where it does not refuse -/
theorem seal_yes (d : Dg) (key : ByteArray) (hf : d.fine) (h : (sealD d key).2 = 0) : ∃ body : ByteArray, bodyB (sealD d key).1 = body ∧ (sealD d key).1 = body ++ hmacB key body ∧ enc (d.wear (hmacB key body)) = (sl (sealD d key).1, 0) ∧ (3 ≤ d.kind ∧ d.kind ≤ 7) ∧ 4 ≤ body.size ∧ body.size + 32 ≤ 1200 := by
  by_cases hk : 3 ≤ d.kind ∧ d.kind ≤ 7
  · obtain ⟨X, hX4, hXk, hX⟩ := enc_wear d hf hk
    have hb : enc d.bare = _ := hX zero32 zero32_size
    have hs : sealD d key = if (enc d.bare).2 = 0 then (bodyB (ba (enc d.bare).1) ++ hmacB key (bodyB (ba (enc d.bare).1)), 0) else (nob, (enc d.bare).2) := by rw [sealD, if_pos hk]
    by_cases hft : ∀ f ∈ fieldsL d.kind, f ≠ .tag → fitF d f
    · rw [if_pos hft] at hb
      by_cases hl : 1200 < X.length + 32
      · rw [if_pos hl] at hb
        rw [hs, hb] at h
        rw [if_neg (by decide)] at h; cases h
      · rw [if_neg hl] at hb
        have hbody : ∀ y : List UInt8, y.length = 32 → bodyB (ba (X ++ y)) = ba X := fun y hy => by
          rw [bodyB, show sl (ba (X ++ y)) = X ++ y from sl_mk _, bodyL, if_neg, List.length_append, hy, Nat.add_sub_cancel, List.take_left]
          rw [hXk, List.length_append, hy]
          omega
        have hb0 : bodyB (ba (X ++ sl zero32)) = ba X := hbody _ (by rw [sl_len]; exact zero32_size)
        rw [hb, if_pos rfl] at hs
        dsimp only at hs
        rw [hb0] at hs
        have hsl : ba X ++ hmacB key (ba X) = ba (X ++ sl (hmacB key (ba X))) := by
          apply sl_inj
          rw [sl_app, show sl (ba X) = X from sl_mk _, show sl (ba (X ++ sl (hmacB key (ba X)))) = X ++ sl (hmacB key (ba X)) from sl_mk _]
        refine ⟨ba X, ?_, by rw [hs], ?_, hk, by rw [ba_size]; exact hX4, by rw [ba_size]; omega⟩
        · rw [hs]
          dsimp only
          rw [hsl]; exact hbody _ (by rw [sl_len, hmacB_size])
        · rw [hX _ (hmacB_size _ _), if_pos hft, if_neg hl, hs]
          dsimp only
          rw [hsl, show sl (ba (X ++ sl (hmacB key (ba X)))) = X ++ sl (hmacB key (ba X)) from sl_mk _]
    · rw [if_neg hft] at hb
      rw [hs, hb] at h
      rw [if_neg (by decide)] at h; cases h
  · rw [sealD, if_neg hk] at h; cases h
theorem seal_dec (d : Dg) (key : ByteArray) (hf : d.fine) (h : (sealD d key).2 = 0) : ∃ body : ByteArray, bodyB (sealD d key).1 = body ∧ (sealD d key).1 = body ++ hmacB key body ∧ dec (sl (sealD d key).1) = (onlyD (d.wear (hmacB key body)), 0) := by
  obtain ⟨body, h1, h2, h3, _⟩ := seal_yes d key hf h
  refine ⟨body, h1, h2, ?_⟩
  have := dec_enc (d.wear (hmacB key body)) (Dg.wear_fine hf _) (by rw [h3])
  rw [h3] at this
  exact this
theorem cps_kind (d : Dg) : ∀ (fs : List Fd) (e : Dg), (cps d fs e).kind = e.kind
  | [], _ => rfl
  | f :: fs, e => by
    rw [cps, cps_kind d fs]
    cases f <;> rfl
end Go.Proofs.YtiphnlfbgbemfaaGreatDoor.Pk

/- what is taken apart is written again to the same, over lists -/
namespace Go.Proofs.YtiphnlfbgbemfaaGreatDoor.Pk
open Go Go.RowKit

theorem need_cut {L a b : List UInt8} {n : Int} (h : need L n = some (a, b)) : L = a ++ b ∧ (a.length : Int) = n := by
  obtain ⟨h0, h1, h2⟩ := need_some h
  injection h2 with h2 h3
  subst h2 h3
  exact ⟨(List.take_append_drop _ _).symm, by rw [List.length_take]; omega⟩
theorem sl_ba (l : List UInt8) : sl (ba l) = l := sl_mk l
theorem tk_back {f : Fd} {e e' : Dg} {L L' : List UInt8} {r : Bool} (h : tk f (e, L, r) = some (e', L', false)) : r = false ∧ L = lyB e' f ++ L' ∧ fitF e' f ∧ e' = cp e' f e := by
  cases f <;> simp only [tk] at h
  case nonce =>
    obtain ⟨⟨a, b⟩, h1, h2⟩ := Option.map_eq_some_iff.1 h
    obtain ⟨h3, h4⟩ := need_cut h1
    simp only [Prod.mk.injEq] at h2
    obtain ⟨rfl, rfl, rfl⟩ := h2
    exact ⟨rfl, by simp only [lyB, sl_ba]; exact h3, by simp only [fitF, ba_size]; omega, rfl⟩
  case salt =>
    obtain ⟨⟨a, b⟩, h1, h2⟩ := Option.map_eq_some_iff.1 h
    obtain ⟨h3, h4⟩ := need_cut h1
    simp only [Prod.mk.injEq] at h2
    obtain ⟨rfl, rfl, rfl⟩ := h2
    exact ⟨rfl, by simp only [lyB, sl_ba]; exact h3, by simp only [fitF, ba_size]; omega, rfl⟩
  case cookie =>
    obtain ⟨⟨a, b⟩, h1, h2⟩ := Option.map_eq_some_iff.1 h
    obtain ⟨h3, h4⟩ := need_cut h1
    simp only [Prod.mk.injEq] at h2
    obtain ⟨rfl, rfl, rfl⟩ := h2
    exact ⟨rfl, by simp only [lyB, sl_ba]; exact h3, by simp only [fitF, ba_size]; omega, rfl⟩
  case tag =>
    obtain ⟨⟨a, b⟩, h1, h2⟩ := Option.map_eq_some_iff.1 h
    obtain ⟨h3, h4⟩ := need_cut h1
    simp only [Prod.mk.injEq] at h2
    obtain ⟨rfl, rfl, rfl⟩ := h2
    exact ⟨rfl, by simp only [lyB, sl_ba]; exact h3, by simp only [fitF, ba_size]; omega, rfl⟩
  case view =>
    obtain ⟨⟨a, b⟩, h1, h2⟩ := Option.map_eq_some_iff.1 h
    obtain ⟨h3, h4⟩ := need_cut h1
    simp only [Prod.mk.injEq] at h2
    obtain ⟨rfl, rfl, rfl⟩ := h2
    exact ⟨rfl, by simp only [lyB, sl_ba]; exact h3, trivial, rfl⟩
  case epoch =>
    obtain ⟨⟨a, b⟩, h1, h2⟩ := Option.map_eq_some_iff.1 h
    obtain ⟨h3, h4⟩ := need_cut h1
    simp only [Prod.mk.injEq] at h2
    obtain ⟨rfl, rfl, rfl⟩ := h2
    have h8 : a.length = 8 := by omega
    have hv := val_lt a
    have hb := be_val a
    rw [h8] at hv hb
    exact ⟨rfl, by simp only [lyB, hb]; exact h3, by simp only [fitF]; simpa using hv, rfl⟩
  case session =>
    obtain ⟨⟨a, b⟩, h1, h2⟩ := Option.map_eq_some_iff.1 h
    obtain ⟨h3, h4⟩ := need_cut h1
    simp only [Prod.mk.injEq] at h2
    obtain ⟨rfl, rfl, rfl⟩ := h2
    have h8 : a.length = 8 := by omega
    have hv := val_lt a
    have hb := be_val a
    rw [h8] at hv hb
    exact ⟨rfl, by simp only [lyB, hb]; exact h3, by simp only [fitF]; simpa using hv, rfl⟩
  case seq =>
    obtain ⟨⟨a, b⟩, h1, h2⟩ := Option.map_eq_some_iff.1 h
    obtain ⟨h3, h4⟩ := need_cut h1
    simp only [Prod.mk.injEq] at h2
    obtain ⟨rfl, rfl, rfl⟩ := h2
    have h8 : a.length = 8 := by omega
    have hv := val_lt a
    have hb := be_val a
    rw [h8] at hv hb
    exact ⟨rfl, by simp only [lyB, hb]; exact h3, by simp only [fitF]; simpa using hv, rfl⟩
  case thr =>
    obtain ⟨⟨a, b⟩, h1, h2⟩ := Option.map_eq_some_iff.1 h
    obtain ⟨h3, h4⟩ := need_cut h1
    simp only [Prod.mk.injEq] at h2
    obtain ⟨rfl, rfl, rfl⟩ := h2
    have h8 : a.length = 1 := by omega
    have hv := fits_sval a
    have hb := be_sval a (by omega) (by omega)
    rw [h8] at hv hb
    exact ⟨rfl, by simp only [lyB, hb]; exact h3, ⟨by decide, hv⟩, rfl⟩
  case turn =>
    obtain ⟨⟨a, b⟩, h1, h2⟩ := Option.map_eq_some_iff.1 h
    obtain ⟨h3, h4⟩ := need_cut h1
    simp only [Prod.mk.injEq] at h2
    obtain ⟨rfl, rfl, rfl⟩ := h2
    have h8 : a.length = 1 := by omega
    have hv := fits_sval a
    have hb := be_sval a (by omega) (by omega)
    rw [h8] at hv hb
    exact ⟨rfl, by simp only [lyB, hb]; exact h3, ⟨by decide, hv⟩, rfl⟩
  case player =>
    obtain ⟨⟨a, b⟩, h1, h2⟩ := Option.map_eq_some_iff.1 h
    obtain ⟨h3, h4⟩ := need_cut h1
    simp only [Prod.mk.injEq] at h2
    obtain ⟨rfl, rfl, rfl⟩ := h2
    have h8 : a.length = 1 := by omega
    have hv := val_lt a
    have hb := be_val a
    rw [h8] at hv hb
    have hv2 : val a < 256 := by simpa using hv
    have hu : u64 ((val a : Nat) : Int) = val a := by unfold u64; omega
    exact ⟨rfl, by simp only [lyB, hu, hb]; exact h3, by simp only [fitF, hu]; exact ⟨by decide, by simpa using hv⟩, rfl⟩
  case flags =>
    obtain ⟨⟨a, b⟩, h1, h2⟩ := Option.map_eq_some_iff.1 h
    obtain ⟨h3, h4⟩ := need_cut h1
    simp only [Prod.mk.injEq] at h2
    obtain ⟨rfl, rfl, h5⟩ := h2
    have h8 : a.length = 1 := by omega
    have hb := be_val a
    rw [h8] at hb
    obtain ⟨hr, hle⟩ : r = false ∧ val a ≤ 3 := by
      cases r <;> simp at h5 ⊢
      exact h5
    refine ⟨hr, ?_, trivial, rfl⟩
    have hf : flagsN { e with fire := decide (val a % 2 = 1), boost := decide (val a / 2 % 2 = 1) } = val a := by
      unfold flagsN
      have hc : val a = 0 ∨ val a = 1 ∨ val a = 2 ∨ val a = 3 := by omega
      rcases hc with q | q | q | q <;> rw [q] <;> rfl
    simp only [lyB, hf, hb]; exact h3
  case name =>
    obtain ⟨⟨a, b⟩, h1, h2⟩ := Option.bind_eq_some_iff.1 h
    obtain ⟨⟨a2, b2⟩, h6, h7⟩ := Option.map_eq_some_iff.1 h2
    obtain ⟨h3, h4⟩ := need_cut h1
    simp only at h6
    obtain ⟨h8, h9⟩ := need_cut h6
    simp only [Prod.mk.injEq] at h7
    obtain ⟨rfl, rfl, rfl⟩ := h7
    obtain ⟨x, rfl⟩ : ∃ x, a = [x] := by
      match a, h4 with
      | [x], _ => exact ⟨x, rfl⟩
      | [], h4 => simp at h4
      | _ :: _ :: _, h4 => simp at h4; omega
    have hvx : val [x] = x.toNat := by simp [val]
    rw [hvx] at h9
    have hx := UInt8.toNat_lt x
    have hsz : (ba a2).size = x.toNat := by rw [ba_size]; omega
    refine ⟨rfl, ?_, by simp only [fitF, hsz]; omega, rfl⟩
    simp only [lyB, sl_ba, hsz]
    rw [h3, h8]
    simp
  case zeros =>
    obtain ⟨⟨a, b⟩, h1, h2⟩ := Option.map_eq_some_iff.1 h
    obtain ⟨h3, h4⟩ := need_cut h1
    simp only [Prod.mk.injEq] at h2
    obtain ⟨rfl, rfl, h5⟩ := h2
    obtain ⟨hr, hz⟩ : r = false ∧ a = zero76 := by
      cases r <;> simp at h5 ⊢
      exact h5
    subst hz
    exact ⟨hr, by simp only [lyB]; exact h3, trivial, rfl⟩
/-- fields lie apart -/
theorem apartF {f g : Fd} (h : g ≠ f) (d e : Dg) : lyB (cp d g e) f = lyB e f ∧ (fitF (cp d g e) f ↔ fitF e f) ∧ ∀ y, cp (cp d g e) f y = cp e f y := by
  cases f <;> cases g <;> first | exact absurd rfl h | exact ⟨rfl, Iff.rfl, fun _ => rfl⟩
theorem apartFs {f : Fd} (d : Dg) : ∀ (fs : List Fd) (e : Dg), (∀ g ∈ fs, g ≠ f) → lyB (cps d fs e) f = lyB e f ∧ (fitF (cps d fs e) f ↔ fitF e f) ∧ ∀ y, cp (cps d fs e) f y = cp e f y
  | [], _, _ => ⟨rfl, Iff.rfl, fun _ => rfl⟩
  | g :: fs, e, h => by
    obtain ⟨a1, a2, a3⟩ := apartFs d fs (cp d g e) (fun x hx => h x (by simp [hx]))
    obtain ⟨b1, b2, b3⟩ := apartF (h g (by simp)) d e
    exact ⟨a1.trans b1, a2.trans b2, fun y => (a3 y).trans (b3 y)⟩
theorem tk_r {f : Fd} {e e' : Dg} {L L' : List UInt8} {r' : Bool} (h : tk f (e, L, true) = some (e', L', r')) : r' = true := by
  cases f <;> simp only [tk] at h
  case name =>
    obtain ⟨⟨a, b⟩, h1, h2⟩ := Option.bind_eq_some_iff.1 h
    obtain ⟨⟨a2, b2⟩, h6, h7⟩ := Option.map_eq_some_iff.1 h2
    simp only [Prod.mk.injEq] at h7
    exact h7.2.2.symm
  all_goals
    obtain ⟨⟨a, b⟩, h1, h2⟩ := Option.map_eq_some_iff.1 h
    simp only [Prod.mk.injEq, Bool.true_or] at h2
    exact h2.2.2.symm
theorem takes_r : ∀ {fs : List Fd} {e e' : Dg} {L L' : List UInt8} {r' : Bool}, takes fs (e, L, true) = some (e', L', r') → r' = true
  | [], _, _, _, _, _, h => by simp only [takes, Option.some.injEq, Prod.mk.injEq] at h; exact h.2.2.symm
  | f :: fs, e, e', L, L', r', h => by
    rw [takes] at h
    obtain ⟨⟨e1, L1, r1⟩, h1, h2⟩ := Option.bind_eq_some_iff.1 h
    have := tk_r h1
    subst this
    exact takes_r h2
theorem takes_back : ∀ {fs : List Fd} {e x : Dg} {L : List UInt8} {r : Bool}, fs.Nodup → takes fs (e, L, r) = some (x, [], false) → L = bytesF x fs ∧ (∀ f ∈ fs, fitF x f) ∧ x = cps x fs e
  | [], e, x, L, r, _, h => by
    simp only [takes, Option.some.injEq, Prod.mk.injEq] at h
    obtain ⟨rfl, rfl, _⟩ := h
    exact ⟨rfl, fun f hf => (by cases hf), rfl⟩
  | f :: fs, e, x, L, r, hnd, h => by
    rw [takes] at h
    obtain ⟨⟨e1, L1, r1⟩, h1, h2⟩ := Option.bind_eq_some_iff.1 h
    have hr1 : r1 = false := by
      cases r1
      · rfl
      · cases takes_r h2
    subst hr1
    obtain ⟨_, hL, hfit, hcp⟩ := tk_back h1
    obtain ⟨hn1, hn2⟩ := List.nodup_cons.1 hnd
    obtain ⟨i1, i2, i3⟩ := takes_back hn2 h2
    obtain ⟨a1, a2, a3⟩ := apartFs (f := f) x fs e1 (fun g hg e => hn1 (e ▸ hg))
    rw [← i3] at a1 a2 a3
    refine ⟨?_, fun g hg => ?_, ?_⟩
    · show L = lyB x f ++ bytesF x fs
      rw [hL, i1, a1]
    · rcases List.mem_cons.1 hg with q | q
      · subst q; exact a2.2 hfit
      · exact i2 g q
    · show x = cps x fs (cp x f e)
      rw [a3 e, ← hcp]; exact i3
/-- what is taken is fine and small -/
structure Okd (d : Dg) : Prop where
  f : d.fine
  n : d.nonce.size ≤ 1200
  c : d.cookie.size ≤ 1200
  m : d.name.size ≤ 1200
  s : d.salt.size ≤ 1200
  dt : d.data.size ≤ 1200
  t : d.tag.size ≤ 1200
theorem vlt8 {a : List UInt8} (h : (a.length : Int) = 8) : val a < 18446744073709551616 := by
  have hv := val_lt a
  rw [show a.length = 8 by omega] at hv
  simpa using hv
theorem vlt1 {a : List UInt8} (h : (a.length : Int) = 1) : val a < 256 := by
  have hv := val_lt a
  rw [show a.length = 1 by omega] at hv
  simpa using hv
theorem sval1 {a : List UInt8} (h : (a.length : Int) = 1) : -128 ≤ sval a ∧ sval a < 128 := by
  have hv := fits_sval a
  rw [show a.length = 1 by omega] at hv
  have e : ((256 ^ 1 : Nat) : Int) = 256 := by decide
  rw [e] at hv
  omega
theorem tk_ok {f : Fd} {e e' : Dg} {L L' : List UInt8} {r r' : Bool} (h : tk f (e, L, r) = some (e', L', r')) (o : Okd e) (hl : L.length ≤ 1200) : Okd e' ∧ L'.length ≤ 1200 := by
  obtain ⟨⟨fk, fe, fs, fp, fq, fh, ft⟩, o2, o3, o4, o5, o6, o7⟩ := o
  cases f <;> simp only [tk] at h
  case name =>
    obtain ⟨⟨a, b⟩, h1, h2⟩ := Option.bind_eq_some_iff.1 h
    obtain ⟨⟨a2, b2⟩, h6, h7⟩ := Option.map_eq_some_iff.1 h2
    obtain ⟨h3, h4⟩ := need_cut h1
    simp only at h6
    obtain ⟨h8, h9⟩ := need_cut h6
    simp only [Prod.mk.injEq] at h7
    obtain ⟨rfl, rfl, rfl⟩ := h7
    have hL : L.length = a.length + (a2.length + b2.length) := by rw [h3, h8, List.length_append, List.length_append]
    exact ⟨⟨⟨fk, fe, fs, fp, fq, fh, ft⟩, o2, o3, by simp only [ba_size]; omega, o5, o6, o7⟩, by omega⟩
  all_goals
    obtain ⟨⟨a, b⟩, h1, h2⟩ := Option.map_eq_some_iff.1 h
    obtain ⟨h3, h4⟩ := need_cut h1
    simp only [Prod.mk.injEq] at h2
    obtain ⟨rfl, rfl, _⟩ := h2
    have hL : L.length = a.length + b.length := by rw [h3, List.length_append]
  case nonce => exact ⟨⟨⟨fk, fe, fs, fp, fq, fh, ft⟩, by simp only [ba_size]; omega, o3, o4, o5, o6, o7⟩, by omega⟩
  case cookie => exact ⟨⟨⟨fk, fe, fs, fp, fq, fh, ft⟩, o2, by simp only [ba_size]; omega, o4, o5, o6, o7⟩, by omega⟩
  case salt => exact ⟨⟨⟨fk, fe, fs, fp, fq, fh, ft⟩, o2, o3, o4, by simp only [ba_size]; omega, o6, o7⟩, by omega⟩
  case view => exact ⟨⟨⟨fk, fe, fs, fp, fq, fh, ft⟩, o2, o3, o4, o5, by simp only [ba_size]; omega, o7⟩, by omega⟩
  case tag => exact ⟨⟨⟨fk, fe, fs, fp, fq, fh, ft⟩, o2, o3, o4, o5, o6, by simp only [ba_size]; omega⟩, by omega⟩
  case epoch => exact ⟨⟨⟨fk, vlt8 h4, fs, fp, fq, fh, ft⟩, o2, o3, o4, o5, o6, o7⟩, by omega⟩
  case session => exact ⟨⟨⟨fk, fe, vlt8 h4, fp, fq, fh, ft⟩, o2, o3, o4, o5, o6, o7⟩, by omega⟩
  case seq => exact ⟨⟨⟨fk, fe, fs, fp, vlt8 h4, fh, ft⟩, o2, o3, o4, o5, o6, o7⟩, by omega⟩
  case thr => exact ⟨⟨⟨fk, fe, fs, fp, fq, by have := sval1 h4; simp only; omega, ft⟩, o2, o3, o4, o5, o6, o7⟩, by omega⟩
  case turn => exact ⟨⟨⟨fk, fe, fs, fp, fq, fh, by have := sval1 h4; simp only; omega⟩, o2, o3, o4, o5, o6, o7⟩, by omega⟩
  case player => exact ⟨⟨⟨fk, fe, fs, by have := vlt1 h4; simp only; omega, fq, fh, ft⟩, o2, o3, o4, o5, o6, o7⟩, by omega⟩
  case flags => exact ⟨⟨⟨fk, fe, fs, fp, fq, fh, ft⟩, o2, o3, o4, o5, o6, o7⟩, by omega⟩
  case zeros => exact ⟨⟨⟨fk, fe, fs, fp, fq, fh, ft⟩, o2, o3, o4, o5, o6, o7⟩, by omega⟩
theorem takes_ok : ∀ {fs : List Fd} {e e' : Dg} {L L' : List UInt8} {r r' : Bool}, takes fs (e, L, r) = some (e', L', r') → Okd e → L.length ≤ 1200 → Okd e'
  | [], _, _, _, _, _, _, h, o, _ => by simp only [takes, Option.some.injEq, Prod.mk.injEq] at h; rw [← h.1]; exact o
  | f :: fs, e, e', L, L', r, r', h, o, hl => by
    rw [takes] at h
    obtain ⟨⟨e1, L1, r1⟩, h1, h2⟩ := Option.bind_eq_some_iff.1 h
    obtain ⟨o1, l1⟩ := tk_ok h1 o hl
    exact takes_ok h2 o1 l1
theorem zero_ok {k : Int} (h : -9223372036854775808 ≤ k ∧ k < 9223372036854775808) : Okd (Dg.zero k) := by
  have n0 : nob.size ≤ 1200 := by decide
  have z0 : (0 : Nat) < 18446744073709551616 := by decide
  have i0 : (-9223372036854775808 : Int) ≤ 0 ∧ (0 : Int) < 9223372036854775808 := by decide
  exact ⟨⟨h, z0, z0, i0, z0, i0, i0⟩, n0, n0, n0, n0, n0, n0⟩
theorem fields_nodup (k : Int) : (fieldsL k).Nodup := by
  unfold fieldsL
  split
  · simp
  split
  · simp
  split
  · simp
  split
  · simp
  split
  · simp
  split
  · simp
  split
  · simp
  · simp
theorem ended_zero {o : Option TS} (h : (ended o).2 = 0) : ∃ d, o = some (d, [], false) ∧ ended o = (d, 0) := by
  match o, h with
  | none, h => cases h
  | some (d, L, r), h =>
    simp only [ended] at h ⊢
    by_cases hL : 0 < L.length
    · rw [if_pos hL] at h; cases h
    · rw [if_neg hL] at h ⊢
      cases r
      · have : L = [] := by cases L with
          | nil => rfl
          | cons x L => simp at hL
        subst this
        exact ⟨d, rfl, rfl⟩
      · cases h
theorem mem_len {f : Fd} {fs : List Fd} (x : Dg) (h : f ∈ fs) : (lyB x f).length ≤ (bytesF x fs).length := by
  induction fs with
  | nil => cases h
  | cons g fs ih =>
    show _ ≤ (lyB x g ++ bytesF x fs).length
    rw [List.length_append]
    rcases List.mem_cons.1 h with q | q
    · subst q; omega
    · have := ih q; omega
/-- what is taken apart is written to the same bytes -/
theorem dec_back {s : List UInt8} (h : (dec s).2 = 0) : enc (dec s).1 = (s, 0) ∧ onlyD (dec s).1 = (dec s).1 ∧ Okd (dec s).1 ∧ (bodyL s = [] ↔ (dec s).1.kind ≤ 2) ∧ (1 ≤ (dec s).1.kind ∧ (dec s).1.kind ≤ 7) := by
  unfold dec at h ⊢
  by_cases h12 : 1200 < s.length
  · rw [if_pos h12] at h; cases h
  rw [if_neg h12] at h ⊢
  by_cases hm : s.take 3 ≠ magic
  · rw [if_pos hm] at h; cases h
  rw [if_neg hm] at h ⊢
  by_cases hf : fieldsL (kindL s) = []
  · rw [if_pos hf] at h; cases h
  rw [if_neg hf] at h ⊢
  obtain ⟨x, hx, he⟩ := ended_zero h
  rw [he]
  dsimp only
  obtain ⟨b1, b2, b3⟩ := takes_back (fields_nodup _) hx
  have hkk : 1 ≤ kindL s ∧ kindL s ≤ 7 := Classical.byContradiction (fun hc => hf (fieldsL_nil (by omega)))
  have hk : x.kind = kindL s := by
    have := congrArg Dg.kind b3
    rw [cps_kind] at this
    exact this
  have hok : Okd x := takes_ok hx (zero_ok (by omega)) (by rw [List.length_drop]; omega)
  have hm' : s.take 3 = magic := Classical.byContradiction hm
  have h4 : ¬ (s.length < 4 ∨ s.take 3 ≠ magic) := by
    rintro (q | q)
    · have hk0 : kindL s = 0 := by rw [kindL, if_pos (.inl q)]
      omega
    · exact hm q
  have hkb : kindL s = ((s.getD 3 0).toNat : Int) := by rw [kindL, if_neg h4]
  have hl4 : 4 ≤ s.length := by omega
  have hs : s = headL x ++ bytesF x (fieldsL x.kind) := by
    have e0 : headL x = s.take 4 := by
      have e1 : s.take 4 = s.take 3 ++ [s.getD 3 0] := by
        rw [List.take_succ_eq_append_getElem (by omega)]
        simp [List.getD, List.getElem?_eq_getElem (show 3 < s.length by omega)]
      rw [e1, hm', headL, hk, hkb]
      have hb := UInt8.toNat_lt (s.getD 3 0)
      have e2 : u64 ((s.getD 3 0).toNat : Int) % 256 = (s.getD 3 0).toNat := by unfold u64; omega
      rw [e2]
      simp
    rw [e0, hk, ← b1, List.take_append_drop]
  refine ⟨?_, ?_, hok, ?_, by rw [hk]; exact hkk⟩
  · rw [enc, hk, if_neg hf, lays_fit x _ _ b2]
    rw [hk] at hs
    rw [← hs]
    simp only [finish]
    rw [if_neg (by simp), if_neg h12]
  · rw [onlyD, hk]; exact b3.symm
  · rw [hk, bodyL]
    by_cases hk3 : 3 ≤ kindL s
    · have htag : .tag ∈ fieldsL (kindL s) := by
        obtain ⟨fs, e, _⟩ := fields_tag (k := kindL s) (by omega)
        rw [e]; simp
      have h32 : (lyB x .tag).length = 32 := by
        have := b2 .tag htag
        simp only [lyB, sl_len]; exact this
      have hlen := mem_len x htag
      rw [← b1, h32, List.length_drop] at hlen
      rw [if_neg (by omega)]
      constructor
      · intro q
        have := congrArg List.length q
        rw [List.length_take] at this
        simp at this
        omega
      · intro q; omega
    · rw [if_pos (.inr (by omega))]
      exact ⟨fun _ => by omega, fun _ => rfl⟩
theorem dec_codes (s : List UInt8) : (dec s).2 = 0 ∨ ((dec s).1 = Dg.zero 0 ∧ 70 ≤ (dec s).2 ∧ (dec s).2 ≤ 73) := by
  unfold dec
  split
  · right; exact ⟨rfl, by decide, by decide⟩
  split
  · right; exact ⟨rfl, by decide, by decide⟩
  split
  · right; exact ⟨rfl, by decide, by decide⟩
  · cases takes (fieldsL (kindL s)) (Dg.zero (kindL s), s.drop 4, false) with
    | none => right; exact ⟨rfl, by decide, by decide⟩
    | some t =>
      obtain ⟨d, L, r⟩ := t
      simp only [ended]
      split
      · right; exact ⟨rfl, by decide, by decide⟩
      · cases r
        · left; rfl
        · right; rw [if_pos rfl]; exact ⟨rfl, by decide, by decide⟩
end Go.Proofs.YtiphnlfbgbemfaaGreatDoor.Pk

/- like bytes behind a head -/
namespace Go.Proofs.YtiphnlfbgbemfaaGreatDoor.Pk
open Go Go.RowKit

theorem need_rep (n j : Nat) (c : UInt8) : need (List.replicate n c) (j : Int) = if j ≤ n then some (List.replicate j c, List.replicate (n - j) c) else none := by
  unfold need
  by_cases h : j ≤ n
  · rw [if_pos h, if_neg (by simp; omega), Int.toNat_natCast, List.take_replicate, List.drop_replicate, Nat.min_eq_left h]
  · rw [if_neg h, if_pos (.inr (by simp; omega))]
theorem need1 (n : Nat) (c : UInt8) : need (List.replicate n c) 1 = if 1 ≤ n then some (List.replicate 1 c, List.replicate (n - 1) c) else none := need_rep n 1 c
theorem need8 (n : Nat) (c : UInt8) : need (List.replicate n c) 8 = if 8 ≤ n then some (List.replicate 8 c, List.replicate (n - 8) c) else none := need_rep n 8 c
theorem need16 (n : Nat) (c : UInt8) : need (List.replicate n c) 16 = if 16 ≤ n then some (List.replicate 16 c, List.replicate (n - 16) c) else none := need_rep n 16 c
theorem need32 (n : Nat) (c : UInt8) : need (List.replicate n c) 32 = if 32 ≤ n then some (List.replicate 32 c, List.replicate (n - 32) c) else none := need_rep n 32 c
theorem need76 (n : Nat) (c : UInt8) : need (List.replicate n c) 76 = if 76 ≤ n then some (List.replicate 76 c, List.replicate (n - 76) c) else none := need_rep n 76 c
theorem needv (n : Nat) (c : UInt8) : need (List.replicate n c) ((n : Int) - 32) = if 32 ≤ n then some (List.replicate (n - 32) c, List.replicate 32 c) else none := by
  by_cases h : 32 ≤ n
  · rw [if_pos h, show (n : Int) - 32 = ((n - 32 : Nat) : Int) by omega, need_rep, if_pos (by omega), show n - (n - 32) = 32 by omega]
  · rw [if_neg h, need, if_pos (.inl (by omega))]
theorem val_one (c : UInt8) : val (List.replicate 1 c) = c.toNat := by simp [val]
def codeL (k n : Nat) (c : UInt8) : Int :=
  if k = 1 then (if n = 92 then (if c = 0 then 0 else 73) else 72) else if k = 2 then (if n = 56 then 0 else 72) else if k = 3 then (if n = 89 + c.toNat then 0 else 72)
  else if k = 4 then (if n = 73 then 0 else 72) else if k = 5 then (if n = 51 then (if c.toNat ≤ 3 then 0 else 73) else 72) else if k = 6 then (if 48 ≤ n then 0 else 72) else (if n = 48 then 0 else 72)
theorem zero_rep (c : UInt8) : (List.replicate 76 c = zero76) ↔ c = 0 := by
  constructor
  · intro h
    have := congrArg (fun l => l.getD 0 0) h
    simpa [zero76, List.replicate] using this
  · intro h; rw [h]; rfl
/-- how many bytes a field takes out of like bytes; none: it gives up -/
def szF (f : Fd) (n : Nat) (c : UInt8) : Option Nat :=
  match f with
  | .nonce | .salt => if 16 ≤ n then some 16 else none
  | .cookie | .tag => if 32 ≤ n then some 32 else none
  | .epoch | .session | .seq => if 8 ≤ n then some 8 else none
  | .thr | .turn | .player | .flags => if 1 ≤ n then some 1 else none
  | .name => if 1 + c.toNat ≤ n then some (1 + c.toNat) else none
  | .view => if 32 ≤ n then some (n - 32) else none
  | .zeros => if 76 ≤ n then some 76 else none
def badF (f : Fd) (c : UInt8) : Bool :=
  match f with
  | .flags => !decide (c.toNat ≤ 3)
  | .zeros => !decide (c = 0)
  | _ => false
theorem tk_rep (f : Fd) (d : Dg) (n : Nat) (c : UInt8) (r : Bool) : (szF f n c = none → tk f (d, List.replicate n c, r) = none) ∧ ∀ j, szF f n c = some j → j ≤ n ∧ ∃ d', tk f (d, List.replicate n c, r) = some (d', List.replicate (n - j) c, r || badF f c) := by
  have one : ∀ m : Nat, ∀ j, (if m ≤ n then some m else none) = some j → j = m ∧ m ≤ n := fun m j h => by
    split at h
    · rename_i hm
      exact ⟨(Option.some.inj h).symm, hm⟩
    · cases h
  have no : ∀ m : Nat, (if m ≤ n then some m else none : Option Nat) = none → ¬ m ≤ n := fun m h hm => by rw [if_pos hm] at h; cases h
  cases f <;> simp only [szF, tk, badF, Bool.or_false]
  case nonce => exact ⟨fun h => by rw [need16, if_neg (no _ h)]; rfl, fun j h => by obtain ⟨rfl, hm⟩ := one _ _ h; exact ⟨hm, _, by rw [need16, if_pos hm]; rfl⟩⟩
  case salt => exact ⟨fun h => by rw [need16, if_neg (no _ h)]; rfl, fun j h => by obtain ⟨rfl, hm⟩ := one _ _ h; exact ⟨hm, _, by rw [need16, if_pos hm]; rfl⟩⟩
  case cookie => exact ⟨fun h => by rw [need32, if_neg (no _ h)]; rfl, fun j h => by obtain ⟨rfl, hm⟩ := one _ _ h; exact ⟨hm, _, by rw [need32, if_pos hm]; rfl⟩⟩
  case tag => exact ⟨fun h => by rw [need32, if_neg (no _ h)]; rfl, fun j h => by obtain ⟨rfl, hm⟩ := one _ _ h; exact ⟨hm, _, by rw [need32, if_pos hm]; rfl⟩⟩
  case epoch => exact ⟨fun h => by rw [need8, if_neg (no _ h)]; rfl, fun j h => by obtain ⟨rfl, hm⟩ := one _ _ h; exact ⟨hm, _, by rw [need8, if_pos hm]; rfl⟩⟩
  case session => exact ⟨fun h => by rw [need8, if_neg (no _ h)]; rfl, fun j h => by obtain ⟨rfl, hm⟩ := one _ _ h; exact ⟨hm, _, by rw [need8, if_pos hm]; rfl⟩⟩
  case seq => exact ⟨fun h => by rw [need8, if_neg (no _ h)]; rfl, fun j h => by obtain ⟨rfl, hm⟩ := one _ _ h; exact ⟨hm, _, by rw [need8, if_pos hm]; rfl⟩⟩
  case thr => exact ⟨fun h => by rw [need1, if_neg (no _ h)]; rfl, fun j h => by obtain ⟨rfl, hm⟩ := one _ _ h; exact ⟨hm, _, by rw [need1, if_pos hm]; rfl⟩⟩
  case turn => exact ⟨fun h => by rw [need1, if_neg (no _ h)]; rfl, fun j h => by obtain ⟨rfl, hm⟩ := one _ _ h; exact ⟨hm, _, by rw [need1, if_pos hm]; rfl⟩⟩
  case player => exact ⟨fun h => by rw [need1, if_neg (no _ h)]; rfl, fun j h => by obtain ⟨rfl, hm⟩ := one _ _ h; exact ⟨hm, _, by rw [need1, if_pos hm]; rfl⟩⟩
  case flags => exact ⟨fun h => by rw [need1, if_neg (no _ h)]; rfl, fun j h => by obtain ⟨rfl, hm⟩ := one _ _ h; exact ⟨hm, _, by rw [need1, if_pos hm, ← val_one c]; rfl⟩⟩
  case name =>
    refine ⟨fun h => ?_, fun j h => ?_⟩
    · have hn := no _ h
      rw [need1]
      by_cases h1 : 1 ≤ n
      · rw [if_pos h1]
        simp only [Option.bind_some]
        rw [val_one, need_rep, if_neg (by omega)]; rfl
      · rw [if_neg h1]; rfl
    · obtain ⟨rfl, hm⟩ := one _ _ h
      refine ⟨hm, { d with name := ba (List.replicate c.toNat c) }, ?_⟩
      rw [need1, if_pos (by omega)]
      simp only [Option.bind_some]
      rw [val_one, need_rep, if_pos (by omega), Nat.sub_sub]
      rfl
  case view =>
    rw [List.length_replicate, needv]
    refine ⟨fun h => ?_, fun j h => ?_⟩
    · split at h
      · cases h
      · rename_i hm; rw [if_neg hm]; rfl
    · split at h
      · rename_i hm
        obtain rfl := Option.some.inj h
        exact ⟨by omega, _, by rw [if_pos hm, show n - (n - 32) = 32 by omega]; rfl⟩
      · cases h
  case zeros =>
    refine ⟨fun h => by rw [need76, if_neg (no _ h)]; rfl, fun j h => ?_⟩
    obtain ⟨rfl, hm⟩ := one _ _ h
    refine ⟨hm, d, ?_⟩
    rw [need76, if_pos hm]
    simp only [Option.map_some]
    rw [show decide (List.replicate 76 c = zero76) = decide (c = 0) from decide_eq_decide.2 (zero_rep c)]
def codeR : List Fd → Nat → UInt8 → Bool → Int
  | [], n, _, r => if 0 < n then 72 else if r then 73 else 0
  | f :: fs, n, c, r => match szF f n c with
    | none => 72
    | some j => codeR fs (n - j) c (r || badF f c)
theorem code_rep : ∀ (fs : List Fd) (d : Dg) (n : Nat) (c : UInt8) (r : Bool), (ended (takes fs (d, List.replicate n c, r))).2 = codeR fs n c r
  | [], d, n, c, r => by
    simp only [takes, ended, codeR, List.length_replicate]
    split
    · rfl
    · split <;> rfl
  | f :: fs, d, n, c, r => by
    simp only [takes, codeR]
    cases hs : szF f n c with
    | none => rw [(tk_rep f d n c r).1 hs]; rfl
    | some j =>
      obtain ⟨_, d', e⟩ := (tk_rep f d n c r).2 j hs
      rw [e]
      exact code_rep fs d' (n - j) c _
set_option maxHeartbeats 4000000 in
theorem code_of (k n : Nat) (c : UInt8) (h : 1 ≤ k ∧ k ≤ 7) (d : Dg) : (ended (takes (fieldsL (k : Int)) (d, List.replicate n c, false))).2 = codeL k n c := by
  rw [code_rep]
  have hk : k = 1 ∨ k = 2 ∨ k = 3 ∨ k = 4 ∨ k = 5 ∨ k = 6 ∨ k = 7 := by omega
  rcases hk with rfl | rfl | rfl | rfl | rfl | rfl | rfl
  · show codeR [.nonce, .zeros] n c false = codeL 1 n c
    by_cases h1 : 16 ≤ n
    · by_cases h2 : 76 ≤ n - 16
      · simp only [codeR, szF, badF, h1, h2, if_true, codeL, Bool.false_or]
        by_cases h3 : n = 92
        · subst h3; by_cases hc : c = 0 <;> simp [hc]
        · rw [if_neg h3, if_pos (by omega)]
      · simp only [codeR, szF, h1, h2, if_true, if_false, codeL]; rw [if_neg (by omega)]
    · simp only [codeR, szF, h1, if_false, if_true, codeL]; rw [if_neg (by omega)]
  · show codeR [.nonce, .epoch, .cookie] n c false = codeL 2 n c
    have e : codeL 2 n c = if n = 56 then 0 else 72 := by simp [codeL]
    rw [e]
    by_cases h0 : 16 ≤ n
    · skip
      by_cases h1 : 8 ≤ n - 16
      · skip
        by_cases h2 : 32 ≤ n - 16 - 8
        · skip
          simp only [codeR, szF, badF, h0, h1, h2, if_true, Bool.or_false]
          by_cases h9 : n = 56
          · rw [if_pos h9, if_neg (by omega)]; rfl
          · rw [if_neg h9, if_pos (by omega)]
        · simp only [codeR, szF, h0, h1, h2, if_true, if_false]; rw [if_neg (by omega)]
      · simp only [codeR, szF, h0, h1, if_true, if_false]; rw [if_neg (by omega)]
    · simp only [codeR, szF, h0, if_false]; rw [if_neg (by omega)]
  · show codeR [.nonce, .epoch, .cookie, .name, .tag] n c false = codeL 3 n c
    have e : codeL 3 n c = if n = 89 + c.toNat then 0 else 72 := by simp [codeL]
    rw [e]
    by_cases h0 : 16 ≤ n
    · skip
      by_cases h1 : 8 ≤ n - 16
      · skip
        by_cases h2 : 32 ≤ n - 16 - 8
        · skip
          by_cases h3 : 1 + c.toNat ≤ n - 16 - 8 - 32
          · skip
            by_cases h4 : 32 ≤ n - 16 - 8 - 32 - (1 + c.toNat)
            · skip
              simp only [codeR, szF, badF, h0, h1, h2, h3, h4, if_true, Bool.or_false]
              by_cases h9 : n = 89 + c.toNat
              · rw [if_pos h9, if_neg (by omega)]; rfl
              · rw [if_neg h9, if_pos (by omega)]
            · simp only [codeR, szF, h0, h1, h2, h3, h4, if_true, if_false]; rw [if_neg (by omega)]
          · simp only [codeR, szF, h0, h1, h2, h3, if_true, if_false]; rw [if_neg (by omega)]
        · simp only [codeR, szF, h0, h1, h2, if_true, if_false]; rw [if_neg (by omega)]
      · simp only [codeR, szF, h0, h1, if_true, if_false]; rw [if_neg (by omega)]
    · simp only [codeR, szF, h0, if_false]; rw [if_neg (by omega)]
  · show codeR [.nonce, .session, .player, .salt, .tag] n c false = codeL 4 n c
    have e : codeL 4 n c = if n = 73 then 0 else 72 := by simp [codeL]
    rw [e]
    by_cases h0 : 16 ≤ n
    · skip
      by_cases h1 : 8 ≤ n - 16
      · skip
        by_cases h2 : 1 ≤ n - 16 - 8
        · skip
          by_cases h3 : 16 ≤ n - 16 - 8 - 1
          · skip
            by_cases h4 : 32 ≤ n - 16 - 8 - 1 - 16
            · skip
              simp only [codeR, szF, badF, h0, h1, h2, h3, h4, if_true, Bool.or_false]
              by_cases h9 : n = 73
              · rw [if_pos h9, if_neg (by omega)]; rfl
              · rw [if_neg h9, if_pos (by omega)]
            · simp only [codeR, szF, h0, h1, h2, h3, h4, if_true, if_false]; rw [if_neg (by omega)]
          · simp only [codeR, szF, h0, h1, h2, h3, if_true, if_false]; rw [if_neg (by omega)]
        · simp only [codeR, szF, h0, h1, h2, if_true, if_false]; rw [if_neg (by omega)]
      · simp only [codeR, szF, h0, h1, if_true, if_false]; rw [if_neg (by omega)]
    · simp only [codeR, szF, h0, if_false]; rw [if_neg (by omega)]
  · show codeR [.session, .seq, .thr, .turn, .flags, .tag] n c false = codeL 5 n c
    have e : codeL 5 n c = if n = 51 then (if c.toNat ≤ 3 then 0 else 73) else 72 := by simp [codeL]
    rw [e]
    by_cases h0 : 8 ≤ n
    · skip
      by_cases h1 : 8 ≤ n - 8
      · skip
        by_cases h2 : 1 ≤ n - 8 - 8
        · skip
          by_cases h3 : 1 ≤ n - 8 - 8 - 1
          · skip
            by_cases h4 : 1 ≤ n - 8 - 8 - 1 - 1
            · skip
              by_cases h5 : 32 ≤ n - 8 - 8 - 1 - 1 - 1
              · skip
                simp only [codeR, szF, badF, h0, h1, h2, h3, h4, h5, if_true, Bool.or_false, Bool.false_or]
                by_cases h9 : n = 51
                · subst h9; by_cases hc : c.toNat ≤ 3 <;> simp [hc]
                · rw [if_neg h9, if_pos (by omega)]
              · simp only [codeR, szF, h0, h1, h2, h3, h4, h5, if_true, if_false]; rw [if_neg (by omega)]
            · simp only [codeR, szF, h0, h1, h2, h3, h4, if_true, if_false]; rw [if_neg (by omega)]
          · simp only [codeR, szF, h0, h1, h2, h3, if_true, if_false]; rw [if_neg (by omega)]
        · simp only [codeR, szF, h0, h1, h2, if_true, if_false]; rw [if_neg (by omega)]
      · simp only [codeR, szF, h0, h1, if_true, if_false]; rw [if_neg (by omega)]
    · simp only [codeR, szF, h0, if_false]; rw [if_neg (by omega)]
  · show codeR [.session, .seq, .view, .tag] n c false = codeL 6 n c
    have e : codeL 6 n c = if 48 ≤ n then 0 else 72 := by simp [codeL]
    rw [e]
    by_cases h0 : 8 ≤ n
    · skip
      by_cases h1 : 8 ≤ n - 8
      · skip
        by_cases h2 : 32 ≤ n - 8 - 8
        · skip
          by_cases h3 : 32 ≤ n - 8 - 8 - (n - 8 - 8 - 32)
          · skip
            simp only [codeR, szF, badF, h0, h1, h2, h3, if_true, Bool.or_false]
            rw [if_neg (by omega), if_pos (show 48 ≤ n by omega)]; rfl
          · simp only [codeR, szF, h0, h1, h2, h3, if_true, if_false]; rw [if_neg (by omega)]
        · simp only [codeR, szF, h0, h1, h2, if_true, if_false]; rw [if_neg (by omega)]
      · simp only [codeR, szF, h0, h1, if_true, if_false]; rw [if_neg (by omega)]
    · simp only [codeR, szF, h0, if_false]; rw [if_neg (by omega)]
  · show codeR [.session, .seq, .tag] n c false = codeL 7 n c
    have e : codeL 7 n c = if n = 48 then 0 else 72 := by simp [codeL]
    rw [e]
    by_cases h0 : 8 ≤ n
    · skip
      by_cases h1 : 8 ≤ n - 8
      · skip
        by_cases h2 : 32 ≤ n - 8 - 8
        · skip
          simp only [codeR, szF, badF, h0, h1, h2, if_true, Bool.or_false]
          by_cases h9 : n = 48
          · rw [if_pos h9, if_neg (by omega)]; rfl
          · rw [if_neg h9, if_pos (by omega)]
        · simp only [codeR, szF, h0, h1, h2, if_true, if_false]; rw [if_neg (by omega)]
      · simp only [codeR, szF, h0, h1, if_true, if_false]; rw [if_neg (by omega)]
    · simp only [codeR, szF, h0, if_false]; rw [if_neg (by omega)]
def lenL (k n : Nat) (c : UInt8) : List UInt8 := [74, 48, 49, UInt8.ofNat k] ++ List.replicate n c
theorem lenL_len (k n : Nat) (c : UInt8) : (lenL k n c).length = 4 + n := by simp [lenL]; omega
def wantC (k n : Nat) (c : UInt8) : Int := if 1200 < 4 + n then 72 else if k < 1 ∨ 7 < k then 71 else codeL k n c
theorem dec_len (k n : Nat) (c : UInt8) (hk : k ≤ 8) : (dec (lenL k n c)).2 = wantC k n c := by
  unfold wantC dec
  rw [lenL_len]
  by_cases h1 : 1200 < 4 + n
  · rw [if_pos h1, if_pos h1]
  · rw [if_neg h1, if_neg h1]
    have e1 : (lenL k n c).take 3 = magic := rfl
    have e2 : (lenL k n c).drop 4 = List.replicate n c := rfl
    have e3 : kindL (lenL k n c) = (k : Int) := by
      rw [kindL, if_neg (by rw [lenL_len, e1]; simp)]
      show (((UInt8.ofNat k).toNat : Nat) : Int) = _
      simp; omega
    rw [if_neg (by simp [e1]), e3, e2]
    by_cases h2 : k < 1 ∨ 7 < k
    · rw [if_pos h2, if_pos (fieldsL_nil (by omega))]
    · rw [if_neg h2, if_neg (fieldsL_some (by omega))]
      exact code_of k n c (by omega) _
theorem dec_three (s : List UInt8) (h : s = magic) : (dec s).2 = 71 := by subst h; rfl
theorem dec_two : (dec [74, 48]).2 = 70 := by rfl
theorem dec_j (L : List UInt8) (h : L.take 3 ≠ magic) : (dec L).2 = if 1200 < L.length then 72 else 70 := by
  unfold dec
  by_cases h1 : 1200 < L.length
  · rw [if_pos h1, if_pos h1]
  · rw [if_neg h1, if_neg h1, if_pos h]
end Go.Proofs.YtiphnlfbgbemfaaGreatDoor.Pk

