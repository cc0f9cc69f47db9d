import Derived.Test.YtldnpebnpbahjaaGreatDoorFB4
namespace Go.Proofs.YtldnpebnpbahjaaGreatDoor.Pk
open Go Go.RowKit

/-- a datagram as a value: the cells of a struct lie flat -/
def dv (d : Dg) : Value := .agg #[.int .i64 d.kind, .string d.nonce, .int .u64 d.epoch, .string d.cookie, .string d.name, .int .u64 d.session, .int .i64 d.player, .string d.salt, .int .u64 d.seq, .int .i64 d.thr, .int .i64 d.turn, .bool d.fire, .bool d.boost, .string d.data, .string d.tag]
set_option maxRecDepth 100000 in
theorem ly_len (d : Dg) (f : Fd) (s : LS) (h : d.small) : ((ly d f s).1.getD []).length ≤ (s.1.getD []).length + 1099511627785 := by
  obtain ⟨st, r⟩ := s
  have hz : zero76.length = 76 := rfl
  cases f <;> dsimp only [ly]
  case nonce => have := wBytes_len st (sl d.nonce); have := h.n; rw [sl_len] at *; omega
  case salt => have := wBytes_len st (sl d.salt); have := h.s; rw [sl_len] at *; omega
  case cookie => have := wBytes_len st (sl d.cookie); have := h.c; rw [sl_len] at *; omega
  case tag => have := wBytes_len st (sl d.tag); have := h.t; rw [sl_len] at *; omega
  case view => have := wBytes_len st (sl d.data); have := h.dt; rw [sl_len] at *; omega
  case name => have := wText_len st (sl d.name); have := h.m; rw [sl_len] at *; omega
  case zeros => have := wBytes_len st zero76; omega
  case epoch => have := wNum_len st d.epoch 8; omega
  case session => have := wNum_len st d.session 8; omega
  case seq => have := wNum_len st d.seq 8; omega
  case player => have := wNum_len st (u64 d.player) 1; omega
  case flags => have := wNum_len st (flagsN d) 1; omega
  case thr => have := wSig_len st d.thr 1; omega
  case turn => have := wSig_len st d.turn 1; omega
set_option maxRecDepth 100000 in
theorem lays_len (d : Dg) (h : d.small) : ∀ (fs : List Fd) (s : LS), ((lays d fs s).1.getD []).length ≤ (s.1.getD []).length + 1099511627785 * fs.length
  | [], s => by simp [lays]
  | f :: fs, s => by
    have h1 := lays_len d h fs (ly d f s)
    have h2 := ly_len d f s h
    have e : lays d (f :: fs) s = lays d fs (ly d f s) := rfl
    rw [e, List.length_cons]
    omega
set_option maxRecDepth 100000 in
theorem lays_take (d : Dg) (fs : List Fd) (s : LS) (k : Nat) (f : Fd) (h : fs[k]? = some f) : lays d (fs.take (k + 1)) s = ly d f (lays d (fs.take k) s) := by
  have hk := (List.getElem?_eq_some_iff.1 h)
  obtain ⟨hk, rfl⟩ := hk
  rw [List.take_succ_eq_append_getElem hk, lays, lays, List.foldl_append]
  rfl
/-- where Encode's loop stands -/
structure EL (w1 wr : World) (db ob wb : Nat) (d : Dg) (fs : List Fd) (hd : List UInt8) (k : Nat) (v : Value) : Prop where
  g : w1.grownBy wr none
  l : Lay wr db ob wb v d.cells (lays d (fs.take k) (some hd, false)).1 (lays d (fs.take k) (some hd, false)).2
  o : w1.heap.size ≤ ob
  b : w1.heap.size ≤ wb
  v : ∀ k, v.ownBlock = some k → w1.heap.size ≤ k
set_option maxRecDepth 100000 in
theorem EL.next {w1 wr wz : World} {db ob wb : Nat} {d : Dg} {fs : List Fd} {hd : List UInt8} {k : Nat} {v v' : Value} {f : Fd} (h : EL w1 wr db ob wb d fs hd k v) (hf : fs[k]? = some f) (hs : d.small) (hh : hd.length ≤ 4) (h6 : fs.length ≤ 6) (hdb : db < w1.heap.size)
    (o : OD wr wz ob wb v (ly d f (lays d (fs.take k) (some hd, false))).1 (ly d f (lays d (fs.take k) (some hd, false))).2 v') : EL w1 wz db ob wb d fs hd (k + 1) v' := by
  have hv : ∀ k, v'.ownBlock = some k → w1.heap.size ≤ k := fun j e => by
    rcases o.n j e with q | q
    · exact h.v j q
    · exact Nat.le_trans h.g.size q
  refine ⟨fr_mine h.g o.f (fun i e => ?_), ⟨h.l.d.fr o.f h.l.n, ?_, not_of hdb h.o h.b hv, ?_⟩, h.o, h.b, hv⟩
  · rcases e with e | e | e
    · rw [e]; exact h.o
    · rw [e]; exact h.b
    · exact h.v i e
  · rw [lays_take d fs _ k f hf]; exact o.a
  · have h1 := lays_len d hs (fs.take (k + 1)) (some hd, false)
    have h2 : (fs.take (k + 1)).length ≤ 6 := by rw [List.length_take]; omega
    simp only [Option.getD_some] at h1
    omega
end Go.Proofs.YtldnpebnpbahjaaGreatDoor.Pk

namespace Go.Proofs.YtldnpebnpbahjaaGreatDoor.Pk
open Go Go.RowKit

set_option maxHeartbeats 8000000 in
set_option maxRecDepth 100000 in
theorem encode_no (d : Dg) (w : World) (h : fieldsL d.kind = []) :
    Calls Tryz.prog 31 #[dv d] w fun e w' => e = .returned (.tuple #[.string nob, .int .i64 71]) ∧ w.grownBy w' none := by
  have HF := fields_c d.kind
  rw [h] at HF
  obtain ⟨kd, no, ep, co, na, se, pl, sa, sq, th, tu, fi, bo, da, ta⟩ := d
  dsimp only [dv] at HF ⊢
  obtain ⟨w0, hw0⟩ : ∃ q, w.alloc (.cells #[.int .i64 kd, .string no, .int .u64 ep, .string co, .string na, .int .u64 se, .int .i64 pl, .string sa, .int .u64 sq, .int .i64 th, .int .i64 tu, .bool fi, .bool bo, .string da, .string ta] 34) = q := ⟨_, rfl⟩
  have h0 : Has w0 w.heap.size (Dg.cells ⟨kd, no, ep, co, na, se, pl, sa, sq, th, tu, fi, bo, da, ta⟩) 34 := by rw [← hw0]; exact Has.newA w _ 34
  have g0 : w.grownBy w0 none := by rw [← hw0]; exact World.grownBy_alloc _ _ _
  have c0 : w0.cell? ⟨w.heap.size, 0, none⟩ = some (.int .i64 kd) := h0.cellv 0 _ rfl
  have HG := Keep.mk g0
  have HFF := Keep.mk HF
  clear h h0 g0 HF
  go_enter Tryz.func31, Tryz.ntmps31
  go_wp2_with fail
  refine (HFF.out w0).mono ?_
  rintro e w1 ⟨a, c, rfl, _, g1⟩
  have HG1 := Keep.mk (HG.out.trans g1)
  clear g1
  dsimp only [List.length_nil]
  go_wp2
  go_ret2
  exact ⟨rfl, HG1.out⟩
end Go.Proofs.YtldnpebnpbahjaaGreatDoor.Pk

namespace Go.Proofs.YtldnpebnpbahjaaGreatDoor.Pk
open Go Go.RowKit

set_option maxHeartbeats 8000000 in
set_option maxRecDepth 100000 in
theorem encode_yes (d : Dg) (hf : d.fine) (hs : d.small) (w : World) (hk : 1 ≤ d.kind ∧ d.kind ≤ 7) :
    Calls Tryz.prog 31 #[dv d] w fun e w' => e = .returned (.tuple #[.string (ba (enc d).1), .int .i64 (enc d).2]) ∧ w.grownBy w' none := by
  have he : enc d = finish (lays d (fieldsL d.kind) (some (headL d), false)) := by rw [enc, if_neg (fieldsL_some (by omega))]
  have hne : fieldsL d.kind ≠ [] := fieldsL_some (by omega)
  have h6 := fieldsL_len d.kind
  have HD : Keep (d.fine ∧ d.small) := ⟨hf, hs⟩
  obtain ⟨fs, hfs⟩ : ∃ fs, fieldsL d.kind = fs := ⟨_, rfl⟩
  have HF := fields_c d.kind
  rw [hfs] at he hne h6 HF
  rw [he]
  obtain ⟨n, hn⟩ : ∃ n, fs.length = n := ⟨_, rfl⟩
  rw [hn] at h6 HF
  have hn0 : 0 < n := by rw [← hn]; exact List.length_pos_iff.2 hne
  obtain ⟨kn, hkn⟩ : ∃ kn : Nat, d.kind = (kn : Int) := ⟨d.kind.toNat, by omega⟩
  have hkn7 : kn ≤ 7 := by omega
  have hhead : headL d = [74, 48, 49, UInt8.ofNat kn] := by
    unfold headL u64
    rw [hkn]
    rw [show ((kn : Int) % 18446744073709551616).toNat % 256 = kn by omega]
    rfl
  have HH : Keep (headL d = [74, 48, 49, UInt8.ofNat kn]) := ⟨hhead⟩
  obtain ⟨D, hD⟩ : ∃ D, d.cells = D := ⟨_, rfl⟩
  obtain ⟨w0, hw0⟩ : ∃ q, w.alloc (.cells D.toArray 34) = q := ⟨_, rfl⟩
  have h0 : Has w0 w.heap.size D 34 := by rw [← hw0]; exact Has.new w _ 34
  have g0 : w.grownBy w0 none := by rw [← hw0]; exact World.grownBy_alloc _ _ _
  have c0 : w0.cell? ⟨w.heap.size, 0, none⟩ = some (.int .i64 (kn : Int)) := h0.cellv 0 _ (by rw [← hD, ← hkn]; rfl)
  have HW : Keep (w.grownBy w0 none ∧ Has w0 w.heap.size d.cells 34) := ⟨g0, by rw [hD]; exact h0⟩
  have HFF := Keep.mk (HF w0)
  have HN : Keep (fs.length = n ∧ n ≤ 6) := ⟨hn, h6⟩
  rw [hkn] at HFF
  rw [← hD] at hw0
  have hw1 : w.alloc (.cells #[.int .i64 d.kind, .string d.nonce, .int .u64 d.epoch, .string d.cookie, .string d.name, .int .u64 d.session, .int .i64 d.player, .string d.salt, .int .u64 d.seq, .int .i64 d.thr, .int .i64 d.turn, .bool d.fire, .bool d.boost, .string d.data, .string d.tag] 34) = w0 := hw0
  clear h0 g0 HF hne he hfs hk hhead hD hw0 hf hs hkn
  unfold dv
  go_enter Tryz.func31, Tryz.ntmps31
  go_wp2_with fail
  refine HFF.out.mono ?_
  rintro e w1 ⟨a, c, rfl, fl, g1⟩
  have HW1 : Keep (w.grownBy w1 none ∧ Has w1 w.heap.size d.cells 34 ∧ Flds w1 a fs) := ⟨HW.out.1.trans g1, HW.out.2.kept g1 (by simp), fl⟩
  have c1 : w1.cell? ⟨w.heap.size, 0, none⟩ = some (.int .i64 (kn : Int)) := g1.cell c0 (by simp)
  clear g1 fl HFF
  have hb0 : ((n : Int) == 0) = false := by simp; omega
  obtain ⟨x8, hx8⟩ : ∃ x, UInt8.ofNat kn = x := ⟨_, rfl⟩
  have hx8n : (kn : Int) = (x8.toNat : Int) := by rw [← hx8]; simp; omega
  obtain ⟨w2, hw2⟩ : ∃ q, w1.alloc (.cells #[.int .u8 (kn : Int)] 5) = q := ⟨_, rfl⟩
  have h2 : Has w2 w1.heap.size [.int .u8 (kn : Int)] 5 := by rw [← hw2]; exact Has.newA w1 _ 5
  have g2 : w1.grownBy w2 none := by rw [← hw2]; exact World.grownBy_alloc _ _ _
  have hcv : (convert 60 9 (.slice (some ⟨w1.heap.size, 0, none⟩) 1 1)).run Tryz.prog w2 = .ok (.string (ba [x8])) w2 := by
    have := cvt_cells w2 (some ⟨w1.heap.size, 0, none⟩) 1 [x8] (fun e => by cases e) (fun ad e j x hx => by
      obtain rfl := Option.some.inj e
      match j, hx with
      | 0, rfl => rw [show ((⟨w1.heap.size, 0, none⟩ : Addr).add 0) = ⟨w1.heap.size, 0, none⟩ from rfl, h2.cellv 0 _ rfl, hx8n])
    exact this
  obtain ⟨X, hX⟩ : ∃ X, ba [x8] = X := ⟨_, rfl⟩
  obtain ⟨Y, hY⟩ : ∃ Y, mgB ++ X = Y := ⟨_, rfl⟩
  have hadd : ∀ W, (Op.stringOp .add { data := #[74, 48, 49] } X).run Tryz.prog W = .ok (.string Y) W := fun W => by
    rw [← hY]; exact addS mgB X (by rw [← hX]; show 3 + 1 ≤ 9223372036854775807; decide) W
  rw [hX] at hcv
  have HY : Keep (sl Y = headL d ∧ Y.size ≤ 1048576) := by
    have e : sl Y = headL d := by rw [HH.out, ← hY, ← hX, hx8]; rfl
    exact ⟨e, by rw [← sl_len, e, HH.out]; show 4 ≤ 1048576; decide⟩
  have HW2 : Keep (w1.grownBy w2 none) := ⟨g2⟩
  clear h2 g2 hX hY hx8 hx8n
  go_wp2_with fail
  refine (newO_c Y HY.out.2 w2).mono ?_
  rintro e w3 ⟨ob, wb, v, rfl, o3, g3, l1, l2, l3⟩
  have hg13 := HW2.out.trans g3
  have hs12 := HW2.out.size
  have hdb : w.heap.size < w1.heap.size := HW1.out.2.1.lt
  have HE0 : Keep (EL w1 w3 w.heap.size ob wb d fs (headL d) 0 v) := ⟨hg13, ⟨HW1.out.2.1.kept hg13 (by simp), by rw [HY.out.1] at o3; exact o3, not_of (w := w1) hdb (Nat.le_trans hs12 l1) (Nat.le_trans hs12 l2) (fun k e => Nat.le_trans hs12 (l3 k e)), by simp [lays, HH.out]⟩, Nat.le_trans hs12 l1, Nat.le_trans hs12 l2, fun k e => Nat.le_trans hs12 (l3 k e)⟩
  have HDB : Keep (w.heap.size < w1.heap.size) := ⟨hdb⟩
  clear o3 g3 l1 l2 l3 hg13 hs12 hdb HW2
  go_wp2_with fail
  go_loopw [23] (fun t w' => ∃ (k : Nat) (v : Value), k ≤ n ∧ t = .int .i64 k ∧ Keep (EL w1 w' w.heap.size ob wb d fs (headL d) k v)) (fun t _ => n - (intOf t).toNat)
  case atStart => exact ⟨0, v, by omega, rfl, HE0⟩
  case round =>
    obtain ⟨k, v, hkn, rfl, hrel⟩ := hrel
    by_cases hlt : k < n
    · have hfk : ∃ f, fs[k]? = some f := ⟨fs[k]'(by rw [HN.out.1]; exact hlt), List.getElem?_eq_getElem _⟩
      obtain ⟨f, hfk⟩ := hfk
      obtain ⟨vt, vl, fb, rfl, ct, cl, FC⟩ := HW1.out.2.2 k f hfk
      obtain ⟨nt, ct', nl, cl', rfl, rfl, _, enl, LC⟩ := FC
      have ct := hrel.out.g.cell ct (by simp)
      have cl := hrel.out.g.cell cl (by simp)
      have HL := Keep.mk LC
      have HFK := Keep.mk hfk
      rw [Nat.mul_comm] at ct cl
      clear LC hfk
      obtain ⟨wz, hwz⟩ : ∃ q, wr.alloc (.cells #[fc nt ct', fc nl cl'] 109) = q := ⟨_, rfl⟩
      have gz : wr.grownBy wz none := by rw [← hwz]; exact World.grownBy_alloc _ _ _
      have HZ : Keep (EL w1 wz w.heap.size ob wb d fs (headL d) k v) := by
        have h := hrel.out
        exact ⟨h.g.trans gz, ⟨h.l.d.kept gz (by simp), h.l.o.kept gz, h.l.n, h.l.l⟩, h.o, h.b, h.v⟩
      have cz : wz.cell? ⟨wr.heap.size, 1, none⟩ = some (fc nl cl') := by rw [← hwz]; exact (Has.newA wr #[fc nt ct', fc nl cl'] 109).cellv 1 _ rfl
      clear gz hrel
      go_wp2_with fail
      refine (HL.out wz w.heap.size ob wb v d _ _ HZ.out.g HZ.out.o HZ.out.b HZ.out.v HZ.out.l HD.out.1 HD.out.2).mono ?_
      rintro e wy ⟨rfl, v', hod⟩
      have HY2 : Keep (EL w1 wy w.heap.size ob wb d fs (headL d) (k + 1) v') := ⟨HZ.out.next HFK.out HD.out.2 (by rw [HH.out]; exact Nat.le_refl _) (by rw [HN.out.1]; exact HN.out.2) HDB.out hod⟩
      clear hod HZ
      go_wp2_with fail
      go_roundw
      case rel => exact ⟨k + 1, v', by omega, by go_num, HY2⟩
      case measure => simp [intOf]; omega
    · obtain rfl : k = n := by omega
      have HO : Keep (Ot wr ob wb v (lays d fs (some (headL d), false)).1 (lays d fs (some (headL d), false)).2 ∧ w.grownBy wr none) := by
        have h := hrel.out.l.o
        rw [← HN.out.1, List.take_length] at h
        exact ⟨h, HW1.out.1.trans hrel.out.g⟩
      clear hrel
      go_wp2_with fail
      refine (odone_c ob wb v _ _ wr HO.out.1).mono ?_
      rintro e w9 ⟨rfl, g9⟩
      have HG9 : Keep (w.grownBy w9 none) := ⟨HO.out.2.trans g9⟩
      clear g9
      go_wp2_with fail
      go_ret2
      exact ⟨rfl, HG9.out⟩
set_option maxRecDepth 100000 in
theorem encode_c (d : Dg) (hf : d.fine) (hs : d.small) (w : World) :
    Calls Tryz.prog 31 #[dv d] w fun e w' => e = .returned (.tuple #[.string (ba (enc d).1), .int .i64 (enc d).2]) ∧ w.grownBy w' none := by
  by_cases h : 1 ≤ d.kind ∧ d.kind ≤ 7
  · exact encode_yes d hf hs w h
  · have hn : fieldsL d.kind = [] := fieldsL_nil (by omega)
    have he : enc d = ([], 71) := by rw [enc, if_pos hn]
    rw [he]
    exact encode_no d w hn
end Go.Proofs.YtldnpebnpbahjaaGreatDoor.Pk

namespace Go.Proofs.YtldnpebnpbahjaaGreatDoor.Pk
open Go Go.RowKit

set_option maxRecDepth 100000 in
theorem takes_app : ∀ (xs bs : List Fd) (s : TS), takes (xs ++ bs) s = (takes xs s).bind (takes bs)
  | [], bs, s => rfl
  | f :: xs, bs, s => by
    show (tk f s).bind (takes (xs ++ bs)) = ((tk f s).bind (takes xs)).bind (takes bs)
    rw [Option.bind_assoc]
    congr 1
    funext x
    exact takes_app xs bs x
set_option maxRecDepth 100000 in
theorem takes_take {fs : List Fd} {s : TS} {k : Nat} {f : Fd} (h : fs[k]? = some f) : takes (fs.take (k + 1)) s = (takes (fs.take k) s).bind (tk f) := by
  obtain ⟨hk, rfl⟩ := List.getElem?_eq_some_iff.1 h
  rw [List.take_succ_eq_append_getElem hk, takes_app]
  congr 1
  funext x
  show (tk _ x).bind (takes []) = _
  cases tk _ x <;> rfl
set_option maxRecDepth 100000 in
theorem takes_none {fs : List Fd} {s t : TS} {k : Nat} {f : Fd} (h : fs[k]? = some f) (h1 : takes (fs.take k) s = some t) (h2 : tk f t = none) : takes fs s = none := by
  have e : takes (fs.take (k + 1)) s = none := by rw [takes_take h, h1]; exact h2
  rw [← List.take_append_drop (k + 1) fs, takes_app, e]; rfl
set_option maxRecDepth 100000 in
theorem results_ct {fn : Func} {p q : Tmp} {ty : TypeId} (h : fn.results = #[.cell p ty, .tmp q]) (tmps : Array Value) (P : Program) (w : World) :
    (results fn tmps).run P w = ((asAddr (tmps.getD p undef)).run P w).andThen fun a w₁ => ((loadVar ty a).run P w₁).andThen fun v w₂ => .ok (.tuple #[v, tmps.getD q undef]) w₂ := by
  simp only [results, h]
  simp [Sem.run_bind, Result.andThen]
set_option maxRecDepth 100000 in
theorem ret_ct {P : Program} {fn : Func} {R : Ending → World → Prop} {a : Act} {w : World} {p q : Tmp} {ty t : TypeId} {b : Nat} {cs : List Value} {d : TypeDesc}
    (hr : fn.results = #[.cell p ty, .tmp q]) (hp : a.tmps.getD p undef = .pointer (some ⟨b, 0, none⟩)) (hh : Has w b cs t) (hu : P.underlying ty = some d) (hd : d.isRow = true)
    (hi : (P.info? ty).map (·.size) = some cs.length) (hdf : a.defers = []) (h : R (.returned (.tuple #[.agg cs.toArray, a.tmps.getD q undef])) w) : bodyPost P fn R .ret a w := by
  refine bodyPost_ret (v := .tuple #[.agg cs.toArray, a.tmps.getD q undef]) ?_ hdf h
  rw [results_ct hr, hp]
  simp [asAddr, Result.andThen, run_loadVar_mid w b 0 ty cs d hh.range hu hd hi]
set_option maxRecDepth 100000 in
theorem under26 : ∃ d, Tryz.prog.underlying 34 = some d ∧ d.isRow = true := ⟨_, Tryz.underlying34, rfl⟩
set_option maxRecDepth 100000 in
theorem info26 : (Tryz.prog.info? 34).map (·.size) = some 15 := by kernel_rfl
/-- where take's loop stands -/
structure TL (w wr : World) (db ib rb B : Nat) (fs : List Fd) (s0 : TS) (k : Nat) (s : TS) : Prop where
  g : w.grownBy wr none
  z : Has wr w.heap.size (Dg.zero 0).cells 34
  t : TkAt wr db ib rb B s
  e : takes (fs.take k) s0 = some s
  d : w.heap.size < db
  i : w.heap.size < ib
  r : w.heap.size < rb
set_option maxRecDepth 100000 in
theorem TL.next {w wr wz : World} {db ib rb B : Nat} {fs : List Fd} {s0 s s' : TS} {k : Nat} {f : Fd} (h : TL w wr db ib rb B fs s0 k s) (hf : fs[k]? = some f) (hs : tk f s = some s') (ht : TkAt wz db ib rb B s') (hfr : Fr (TF db ib rb) wr wz) : TL w wz db ib rb B fs s0 (k + 1) s' := by
  have hn : ¬ TF db ib rb w.heap.size := by
    have := h.d; have := h.i; have := h.r
    rintro (e | e | e) <;> omega
  refine ⟨fr_mine h.g hfr (fun i e => ?_), h.z.fr hfr hn, ht, by rw [takes_take hf, h.e]; exact hs, h.d, h.i, h.r⟩
  have := h.d; have := h.i; have := h.r
  rcases e with e | e | e <;> omega
set_option maxRecDepth 100000 in
theorem TL.grown {w wr wz : World} {db ib rb B : Nat} {fs : List Fd} {s0 s : TS} {k : Nat} (h : TL w wr db ib rb B fs s0 k s) (g : wr.grownBy wz none) : TL w wz db ib rb B fs s0 k s :=
  ⟨h.g.trans g, h.z.kept g (by simp), ⟨h.t.d.kept g (by simp), h.t.i.kept g, h.t.n, h.t.l⟩, h.e, h.d, h.i, h.r⟩
end Go.Proofs.YtldnpebnpbahjaaGreatDoor.Pk

