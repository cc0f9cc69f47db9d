import Derived.Test.YtldnpebnpbahjaaGreatDoorX29
namespace Go.Proofs.YtldnpebnpbahjaaGreatDoor.Pk.Sn
open Go Go.RowKit

theorem says_app : ∀ {ms ms' : List Mk} {xs xs' : List Lv} {zs zs' : List Value}, Says ms xs zs → Says ms' xs' zs' → Says (ms ++ ms') (xs ++ xs') (zs ++ zs')
  | [], _, [], _, [], _, _, k => k
  | _ :: ms, _, _ :: _, _, _ :: _, _, h, k => ⟨h.1, says_app (ms := ms) h.2 k⟩
theorem take_snoc {α : Type} {l : List α} {k : Nat} {x : α} (h : l[k]? = some x) : l.take (k + 1) = l.take k ++ [x] := by
  rw [List.take_add_one, h]; rfl
theorem takeL_take (ks : List Kd) (st : RS) (k : Nat) (kd : Kd) (h : ks[k]? = some kd) : takeL (ks.take (k + 1)) st = ((takeL (ks.take k) st).1 ++ [(takeK kd (takeL (ks.take k) st).2).1], (takeK kd (takeL (ks.take k) st).2).2) := by
  rw [take_snoc h, takeL_app]; rfl
theorem says_take {ms : List Mk} {k : Nat} {m : Mk} {xs : List Lv} {zs : List Value} {x : Lv} {z : Value} (h : Says (ms.take k) xs zs) (hm : ms[k]? = some m) (hr : m.r x z) : Says (ms.take (k + 1)) (xs ++ [x]) (zs ++ [z]) := by
  rw [take_snoc hm]; exact says_app h ⟨hr, trivial⟩
theorem set_mid {A Z : List Value} {k : Nat} (v : Value) (hA : A.length = k) (hk : k < Z.length) : (A ++ Z.drop k).set k v = (A ++ [v]) ++ Z.drop (k + 1) := by
  rw [List.set_append_right _ _ (by omega), hA, Nat.sub_self, List.drop_eq_getElem_cons hk, List.set_cons_zero]
  simp
/-- one that was taken -/
def snOf : List Lv → Sn
  | [.num a, .num b, .num c, .num d, .num e] => ⟨a, b, c, d, e⟩
  | _ => ⟨0, 0, 0, 0, 0⟩
theorem snOf_lv (st : RS) : (snOf (takeL tK st).1).lv = (takeL tK st).1 := by
  simp only [tK, tMs, List.map_cons, List.map_nil, Mk.kd, takeL, takeK, snOf, Sn.lv]
/-- so many that are seen, taken -/
def takeSn : Nat → RS → List Sn × RS
  | 0, st => ([], st)
  | n + 1, st => ((takeSn n st).1 ++ [snOf (takeL tK (takeSn n st).2).1], (takeL tK (takeSn n st).2).2)
theorem takeSn_len : ∀ (n : Nat) (st : RS), (takeSn n st).1.length = n
  | 0, _ => rfl
  | n + 1, st => by rw [takeSn, List.length_append, takeSn_len n st]; rfl
def fls (S : List Sn) : List Value := S.flatMap Sn.cs
theorem fls_len (S : List Sn) : (fls S).length = 5 * S.length := by
  unfold fls
  induction S with
  | nil => rfl
  | cons s r ih => rw [List.flatMap_cons, List.length_append, ih, List.length_cons]; show 5 + 5 * r.length = _; omega
theorem fls_app (S : List Sn) (s : Sn) : fls (S ++ [s]) = fls S ++ s.cs := by simp [fls]
theorem says_cs {st : RS} {zs : List Value} (h : Says tMs (takeL tK st).1 zs) : zs = (snOf (takeL tK st).1).cs := by
  rw [← snOf_lv] at h
  generalize snOf (takeL tK st).1 = s at h
  match zs, h with
  | [z1, z2, z3, z4, z5], ⟨⟨_, e1, h1⟩, ⟨_, e2, h2⟩, ⟨_, e3, h3⟩, ⟨_, e4, h4⟩, ⟨_, e5, h5⟩, _⟩ =>
    cases e1; cases e2; cases e3; cases e4; cases e5
    subst h1 h2 h3 h4 h5
    rfl
  | [], h => exact h.elim
  | [_], h => exact h.2.elim
  | [_, _], h => exact h.2.2.elim
  | [_, _, _], h => exact h.2.2.2.elim
  | [_, _, _, _], h => exact h.2.2.2.2.elim
  | _ :: _ :: _ :: _ :: _ :: _ :: _, h => exact h.2.2.2.2.2.elim
theorem t_r {m : Mk} {W w1 : World} {x : Lv} {v : Value} (h : m.t W w1 x v) : m.r x v := by
  cases m with
  | C => obtain ⟨n, g, cs, e1, e2, _⟩ := h; exact ⟨_, n, n, e1, e2⟩
  | _ => exact h
theorem t_old {m : Mk} {W W' w1 : World} {x : Lv} {v : Value} (h : m.t W' w1 x v) (g : W.heap.size ≤ W'.heap.size) : m.t W w1 x v := by
  cases m with
  | C => obtain ⟨n, b, cs, e1, e2, e3, e4⟩ := h; exact ⟨n, b, cs, e1, e2, by omega, e4⟩
  | _ => exact h
set_option maxRecDepth 100000 in
theorem entR : Ent 94 := fun _ _ => by kernel_rfl
set_option maxHeartbeats 8000000 in
set_option maxRecDepth 100000 in
theorem dor_c (w : World) (lo hi : Nat) (m : Mk) (b o nl nt : Nat) (cl ct : Array Value) (h : TakeC w lo hi m b o nt ct) (W : World) (rb B rx : Nat) (st : RS) (z : Value)
    (hk : Kpt lo hi w W) (hh : hi ≤ W.heap.size) (h1 : rb < lo ∨ hi ≤ rb) (h2 : b < lo ∨ hi ≤ b) (h3 : b ≠ rb) (hz : W.cell? ⟨b, o, none⟩ = some z) (hf : W.frozen? ⟨b, o, none⟩ = false) (ha : RAt W rb B st) (hx : W.cell? ⟨rx, 0, none⟩ = some (pa rb 0)) :
    Calls Tryz.prog 94 #[.agg #[fc nl cl, fc nt ct], pa rx 0] W fun e w' => e = .returned (.tuple #[]) ∧ ∃ w1 v, RDid W w1 rb B (takeK m.kd st).2 ∧ m.t W w1 (takeK m.kd st).1 v ∧ w' = w1.setCell ⟨b, o, none⟩ v := by
  obtain ⟨w1, hw1⟩ : ∃ q, W.alloc (.cells #[fc nl cl, fc nt ct] 132) = q := ⟨_, rfl⟩
  obtain ⟨i1, g1, s1⟩ := hasN hw1
  have HC := Keep.mk (h.2 w1 rb B st z (hk.trans (Kpt.grown g1 hh)) h1 h2 h3 (g1.cell hz (by simp)) (fr_frozen (S := fun _ => False) (Fr.ofNone g1) (fun e => e) hz hf) (ha.kept g1))
  have hen := h.1
  have c1 : w1.cell? ⟨W.heap.size, 1, none⟩ = some (fc nt ct) := i1.cellv 1 _ rfl
  have c2 : w1.cell? ⟨rx, 0, none⟩ = some (pa rb 0) := g1.cell hx (by simp)
  have HG := Keep.mk g1
  clear h hk hh h1 h2 h3 hz hf ha i1 g1 s1 hx
  go_enter Tryz.func94, Tryz.ntmps94
  go_wp2_with fail
  refine HC.out.mono ?_
  rintro e w2 ⟨rfl, w3, v, d, mt, hw2⟩
  have HD := Keep.mk (And.intro (RDid.ahead HG.out d) (And.intro (t_old mt HG.out.size) hw2))
  clear d mt hw2 HC
  go_wp2_with fail
  go_end0
  exact ⟨rfl, w3, v, HD.out.1, HD.out.2.1, HD.out.2.2⟩

/-- how far taking has come: so many cells of a block were written -/
structure Tk (w1 w : World) (rb B vb k : Nat) (A Z : List Value) (ty : TypeId) (ms : List Mk) (xs : List Lv) (st : RS) (Cs : List Value) : Prop where
  h : Has w vb (A ++ (Cs ++ Z.drop k)) ty
  n : Cs.length = k
  s : Says (ms.take k) xs Cs
  r : RAt w rb B st
  f : Fr (fun i => i = rb ∨ i = vb) w1 w
theorem Tk.next {w1 wr wz w2 : World} {rb B vb k : Nat} {A Z : List Value} {ty : TypeId} {ms : List Mk} {xs : List Lv} {st : RS} {Cs : List Value} (h : Tk w1 wr rb B vb k A Z ty ms xs st Cs) (g : wr.grownBy wz none) (hk : k < Z.length) (hn : vb ≠ rb) (hB : vb ≠ B)
    {m : Mk} {v : Value} (hm : ms[k]? = some m) (d : RDid wz w2 rb B (takeK m.kd st).2) (ht : m.t wz w2 (takeK m.kd st).1 v) :
    Tk w1 (w2.setCell ⟨vb, A.length + k, none⟩ v) rb B vb (k + 1) A Z ty ms (xs ++ [(takeK m.kd st).1]) (takeK m.kd st).2 (Cs ++ [v]) := by
  have h2 : Has w2 vb (A ++ (Cs ++ Z.drop k)) ty := (h.h.kept g (by simp)).fr d.f hn
  have f3 : Fr (fun i => i = vb) w2 (w2.setCell ⟨vb, A.length + k, none⟩ v) := Fr.ofSome (gr_set _ _ _ _) rfl
  refine ⟨?_, by rw [List.length_append, h.n]; rfl, says_take h.s hm (t_r ht), d.a.fr f3 (fun e => hn e.symm) (fun e => hB e.symm), ?_⟩
  · have := h2.setCell (A.length + k) v
    rw [List.set_append_right _ _ (by omega), Nat.add_sub_cancel_left, set_mid v h.n hk] at this
    exact this
  · have f1 : Fr (fun i => i = rb ∨ i = vb) wr w2 := ((Fr.ofNone g).trans (d.f.mono (fun i e => .inl (.inl e))))
    exact (h.f.trans f1).trans (f3.mono (fun i e => .inl (.inr e)))
end Go.Proofs.YtldnpebnpbahjaaGreatDoor.Pk.Sn

namespace Go.Proofs.YtldnpebnpbahjaaGreatDoor.Pk.Sn
open Go Go.RowKit

theorem cell_lt {w : World} {b o : Nat} {v : Value} (h : w.cell? ⟨b, o, none⟩ = some v) : b < w.heap.size := by
  refine Nat.lt_of_not_le (fun q => ?_)
  unfold World.cell? at h
  rw [Array.getElem?_eq_none q] at h
  cases h
/-- the list of those seen, as taking its number made it -/
def Lst (w1 w : World) (Cs : List Value) : Prop := ∃ n g cs, Cs[15]? = some (.slice (some ⟨g, 0, none⟩) n n) ∧ n ≤ 255 ∧ w1.heap.size ≤ g ∧ Has w g cs 98 ∧ cs.length = n * 5
/-- what each leaves, taking -/
structure EaR (w w' : World) (vb rb B : Nat) (st0 : RS) (Cs : List Value) (n g : Nat) : Prop where
  v : Has w' vb Cs 49
  s : Says hMs (takeL hK st0).1 Cs
  c : Cs[15]? = some (.slice (some ⟨g, 0, none⟩) n n)
  nn : n ≤ 255
  gg : w.heap.size ≤ g
  h : Has w' g (fls (takeSn n (takeL hK st0).2).1) 98
  r : RAt w' rb B (takeSn n (takeL hK st0).2).2
  f : Fr (fun i => i = rb ∨ i = vb) w w'
/-- behind so many of those seen -/
structure Ou (w w' : World) (vb rb B g j : Nat) (st1 : RS) (Cs cs : List Value) : Prop where
  v : Has w' vb Cs 49
  h : Has w' g (fls (takeSn j st1).1 ++ cs.drop (5 * j)) 98
  r : RAt w' rb B (takeSn j st1).2
  f : Fr (fun i => i = rb ∨ i = vb) w w'
theorem u1_lt {st : RS} {n : Nat} (h : (takeK .u1 st).1 = .num (n : Nat)) : n ≤ 255 := by
  have h2 : (((rNum st 1).1 : Nat) : Int) = (n : Nat) := by
    have := h; simp only [takeK, Lv.num.injEq] at this; exact this
  have := rNum_lt1 st
  omega
theorem m15 {m : Mk} (h : hMs[15]? = some m) : m = .C := (Option.some.inj h).symm
theorem lst_next {w1 wz w2 : World} {vb k : Nat} {m : Mk} {Cs : List Value} {x : Lv} {v : Value} (hm : hMs[k]? = some m) (hk : k + 1 = 16) (hn : Cs.length = k) (ht : m.t wz w2 x v) (hx : ∀ n : Nat, x = .num (n : Nat) → m = .C → n ≤ 255) (hz : w1.heap.size ≤ wz.heap.size) (hv : vb < wz.heap.size) : Lst w1 (w2.setCell ⟨vb, k, none⟩ v) (Cs ++ [v]) := by
  obtain rfl : k = 15 := by omega
  obtain rfl := m15 hm
  obtain ⟨n, g, cs, e1, e2, e3, e4, e5⟩ := ht
  refine ⟨n, g, cs, ?_, hx n e1 rfl, by omega, e4.fr (S := fun i => i = vb) (Fr.ofSome (gr_set _ _ _ _) rfl) (by omega), e5⟩
  rw [List.getElem?_append_right (by omega), hn, Nat.sub_self, e2]; rfl
theorem Lst.fr {w1 w w' : World} {Cs : List Value} {S : Nat → Prop} (h : Lst w1 w Cs) (f : Fr S w w') (hs : ∀ i, w1.heap.size ≤ i → ¬ S i) : Lst w1 w' Cs := by
  obtain ⟨n, g, cs, e1, e2, e3, e4, e5⟩ := h
  exact ⟨n, g, cs, e1, e2, e3, e4.fr f (hs g e3), e5⟩
set_option maxHeartbeats 8000000 in
set_option maxRecDepth 100000 in
theorem each_r (w : World) (vb rb B rx : Nat) (st0 : RS) (Z : List Value) (hZ : Has w vb Z 49) (hl : Z.length = 16) (ha : RAt w rb B st0) (hn : vb ≠ rb) (hB : vb ≠ B) (hx : w.cell? ⟨rx, 0, none⟩ = some (pa rb 0)) (hx1 : rx ≠ rb) (hx2 : rx ≠ vb) :
    Calls Tryz.prog 90 #[pa vb 0, fc 94 #[pa rx 0]] w fun e w' => e = .returned (.tuple #[]) ∧ ∃ Cs n g, EaR w w' vb rb B st0 Cs n g := by
  have HZ := Keep.mk (And.intro hZ hl)
  have HA := Keep.mk (And.intro ha (And.intro hn (And.intro hB (And.intro hx (And.intro hx1 hx2)))))
  have HLT : Keep (vb < w.heap.size ∧ rb < w.heap.size ∧ B < w.heap.size ∧ rx < w.heap.size) := by
    obtain ⟨⟨a, c, h1, h2⟩, h3, h4, h5⟩ := ha
    exact ⟨hZ.lt, h1.lt, h4, cell_lt hx⟩
  have hen := entR
  clear hZ hl ha hn hB hx hx1 hx2
  go_enter Tryz.func90, Tryz.ntmps90
  go_wp2_with fail
  refine (head_c vb w).mono ?_
  rintro e w1 ⟨hb, L, rfl, P, g1⟩
  have HP := Keep.mk P
  have HG1 := Keep.mk g1
  clear P g1
  go_wp2_with fail
  go_loopw [12] (fun t w' => ∃ (k : Nat) (Cs : List Value), k ≤ 16 ∧ t = .int .i64 k ∧ Keep (Tk w1 w' rb B vb k [] Z 49 hMs (takeL (hK.take k) st0).1 (takeL (hK.take k) st0).2 Cs ∧ (k = 16 → Lst w1 w' Cs))) (fun t _ => 16 - (intOf t).toNat)
  case atStart => exact ⟨0, [], by omega, rfl, ⟨⟨HZ.out.1.kept HG1.out (by simp), rfl, trivial, HA.out.1.kept HG1.out, Fr.refl _ _⟩, fun e => by cases e⟩⟩
  case round =>
    obtain ⟨k, Cs, hk16, rfl, hrel⟩ := hrel
    by_cases hlt : k < 16
    · obtain ⟨m, hm⟩ := some_at (l := hMs) (k := k) hlt
      obtain ⟨p, hp⟩ := some_at (l := L) (k := k) (by rw [HP.out.n]; exact hlt)
      obtain ⟨q1, q2⟩ := flat_at L k p hp
      obtain ⟨nl, cl, nt, ct, e1, e2, LC, TC⟩ := HP.out.p k p m hp hm
      rw [Nat.zero_add] at TC
      obtain ⟨hT, hT16⟩ := hrel.out
      have hsz := HG1.out.size
      have hlts := HLT.out
      have hbq := HP.out.q
      have hfs := hT.f.size
      have nhb : ¬ (hb = rb ∨ hb = vb) := by omega
      have cl0 : wr.cell? ⟨hb, 2 * k, none⟩ = some (fc nl cl) := fr_cell hT.f nhb (by rw [HP.out.h.cell, q1, e1])
      have cl1 : wr.cell? ⟨hb, 2 * k + 1, none⟩ = some (fc nt ct) := fr_cell hT.f nhb (by rw [HP.out.h.cell, q2, e2])
      have hvk : ∃ z, wr.cell? ⟨vb, k, none⟩ = some z := by
        obtain ⟨z, hz⟩ := some_at (l := ([] : List Value) ++ (Cs ++ Z.drop k)) (k := k) (by simp [hT.n]; have := HZ.out.2; omega)
        exact ⟨z, hT.h.cellv k z hz⟩
      obtain ⟨z, hzc⟩ := hvk
      obtain ⟨wz, hwz⟩ : ∃ q, wr.alloc (.cells #[fc nl cl, fc nt ct] 132) = q := ⟨_, rfl⟩
      obtain ⟨hz, gz, sz⟩ := hasN hwz
      have d0 : wz.cell? ⟨wr.heap.size, 0, none⟩ = some (fc nl cl) := hz.cellv 0 _ rfl
      have d1 : wz.cell? ⟨wr.heap.size, 1, none⟩ = some (fc nt ct) := hz.cellv 1 _ rfl
      have hkd : hK[k]? = some m.kd := by unfold hK; rw [List.getElem?_map, hm]; rfl
      have hgz := gz.size
      have HDW := Keep.mk (dor_c w1 w.heap.size w1.heap.size m vb k nl nt cl ct TC wz rb B rx (takeL (hK.take k) st0).2 z
        ((Kpt.fr hT.f (Nat.le_refl _) (fun i e => by omega)).trans (Kpt.grown gz hfs)) (by omega) (by omega) (by omega) HA.out.2.1
        (gz.cell hzc (by simp)) (fr_frozen (S := fun _ => False) (Fr.ofNone gz) (fun e => e) hzc (hT.h.frozen k)) (hT.r.kept gz)
        (gz.cell (fr_cell hT.f (by have := HA.out.2.2.2.2; omega) (HG1.out.cell HA.out.2.2.2.1 (by simp))) (by simp)))
      have HRL := Keep.mk (And.intro hT (And.intro gz (And.intro (takeL_take hK st0 k m.kd hkd) (And.intro hm (And.intro hgz hfs)))))
      rw [Nat.mul_comm] at cl0 cl1
      clear hm hp q1 q2 e1 e2 LC TC hT hT16 hsz hlts hbq hfs nhb hzc hz gz sz hkd hgz hrel
      go_wp2_with fail
      refine HDW.out.mono ?_
      rintro e w2 ⟨rfl, w4, v, dd, mt, hw2⟩
      have HNX : Keep (Tk w1 w2 rb B vb (k + 1) [] Z 49 hMs (takeL (hK.take (k + 1)) st0).1 (takeL (hK.take (k + 1)) st0).2 (Cs ++ [v]) ∧ (k + 1 = 16 → Lst w1 w2 (Cs ++ [v]))) := by
        obtain ⟨hT, gz, htk, hm, hgz, hfs⟩ := HRL.out
        have hsz := HG1.out.size
        have hlts := HLT.out
        have h1 := hT.next gz (by have := HZ.out.2; omega) HA.out.2.1 HA.out.2.2.1 hm dd mt
        simp only [List.length_nil, Nat.zero_add] at h1
        rw [htk, hw2]
        refine ⟨h1, fun e => lst_next hm e hT.n mt (fun n hx hmC => ?_) (by omega) (by omega)⟩
        subst hmC
        exact u1_lt hx
      clear dd mt hw2 HDW HRL
      go_wp2_with fail
      go_roundw
      case rel => exact ⟨k + 1, Cs ++ [v], by omega, by go_num, HNX⟩
      case measure => simp [intOf]; omega
    · have HK16 : Keep (k = 16) := ⟨by omega⟩
      have hlt' : ¬ ((k : Int) < 16) := by omega
      obtain ⟨hT, hT16⟩ := hrel.out
      obtain ⟨n, g, cs, hc15, hn255, hg1, hg, hcs⟩ := hT16 HK16.out
      obtain ⟨st1, hst1⟩ : ∃ q, (takeL hK st0).2 = q := ⟨_, rfl⟩
      have hkl : hK.take k = hK := by rw [HK16.out]; exact List.take_of_length_le (by show 16 ≤ 16; omega)
      have hml : hMs.take k = hMs := by rw [HK16.out]; exact List.take_of_length_le (by show 16 ≤ 16; omega)
      have hV : Has wr vb Cs 49 := by
        have h := hT.h
        rw [List.drop_eq_nil_of_le (by rw [HZ.out.2, HK16.out]; omega), List.append_nil, List.nil_append] at h
        exact h
      have HSY : Keep (Says hMs (takeL hK st0).1 Cs) := by
        have h := hT.s
        rw [hkl, hml] at h
        exact ⟨h⟩
      have HCS := Keep.mk (And.intro hc15 (And.intro hg1 hcs))
      have HOU : Keep (Ou w wr vb rb B g 0 st1 Cs cs) := by
        refine ⟨hV, ?_, ?_, (Fr.ofNone HG1.out).trans hT.f⟩
        · simpa [takeSn, fls] using hg
        · have h := hT.r
          rw [hkl, hst1] at h
          exact h
      have HST := Keep.mk hst1
      have c15 : wr.cell? ⟨vb, 15, none⟩ = some (.slice (some ⟨g, 0, none⟩) n n) := hV.cellv 15 _ hc15
      clear hT hT16 hc15 hg1 hg hcs hst1 hkl hml hV hrel HP
      go_wp2_with fail
      clear c15
      go_loopw [25] (fun t w' => ∃ j : Nat, j ≤ n ∧ t = .int .i64 j ∧ Keep (Ou w w' vb rb B g j st1 Cs cs)) (fun t _ => n - (intOf t).toNat)
      case atStart => exact ⟨0, by omega, rfl, HOU⟩
      case round =>
        obtain ⟨j, hjn, rfl, hrel⟩ := hrel
        rename World => wo
        by_cases hlt : j < n
        · have c15 : wo.cell? ⟨vb, 15, none⟩ = some (.slice (some ⟨g, 0, none⟩) n n) := hrel.out.v.cellv 15 _ HCS.out.1
          have hltI : (j : Int) < (n : Int) := by omega
          have HO := Keep.mk hrel.out
          clear hrel
          go_wp2_with fail
          refine (thing_c g (j * 5) wo).mono ?_
          rintro e w3 ⟨hb2, L2, rfl, P2, g3⟩
          have HP2 := Keep.mk P2
          have HG3 := Keep.mk g3
          obtain ⟨st2, hst2⟩ : ∃ q, (takeSn j st1).2 = q := ⟨_, rfl⟩
          obtain ⟨A, hAA⟩ : ∃ q, fls (takeSn j st1).1 = q := ⟨_, rfl⟩
          have HAL : Keep (A.length = j * 5 ∧ fls (takeSn j st1).1 = A ∧ (takeSn j st1).2 = st2) := ⟨by rw [← hAA, fls_len, takeSn_len]; omega, hAA, hst2⟩
          have HGL : Keep (g < wo.heap.size ∧ w.heap.size ≤ wo.heap.size ∧ w.heap.size ≤ g) := by
            have := HG1.out.size
            have := HCS.out.2.1
            exact ⟨HO.out.h.lt, HO.out.f.size, by omega⟩
          have HT0 : Keep (Tk w3 w3 rb B g 0 A (cs.drop (5 * j)) 98 tMs (takeL (tK.take 0) st2).1 (takeL (tK.take 0) st2).2 []) := by
            have h := HO.out.h
            have r := HO.out.r
            rw [hAA] at h
            rw [hst2] at r
            exact ⟨⟨h.kept HG3.out (by simp), rfl, trivial, r.kept HG3.out, Fr.refl _ _⟩⟩
          clear P2 g3 c15 hst2 hAA
          go_wp2_with fail
          go_loopw [36] (fun t w' => ∃ (k : Nat) (Ps : List Value), k ≤ 5 ∧ t = .int .i64 k ∧ Keep (Tk w3 w' rb B g k A (cs.drop (5 * j)) 98 tMs (takeL (tK.take k) st2).1 (takeL (tK.take k) st2).2 Ps)) (fun t _ => 5 - (intOf t).toNat)
          case atStart => exact ⟨0, [], by omega, rfl, HT0⟩
          case round =>
            obtain ⟨k, Ps, hk5, rfl, hrel⟩ := hrel
            have hgs3 := HG3.out.size
            have hlts := HLT.out
            have hgl := HGL.out
            by_cases hlt5 : k < 5
            · obtain ⟨m, hm⟩ := some_at (l := tMs) (k := k) hlt5
              obtain ⟨p, hp⟩ := some_at (l := L2) (k := k) (by rw [HP2.out.n]; exact hlt5)
              obtain ⟨q1, q2⟩ := flat_at L2 k p hp
              obtain ⟨nl, cl, nt, ct, e1, e2, LC, TC⟩ := HP2.out.p k p m hp hm
              have hT := hrel.out
              have hbq := HP2.out.q
              have hfs := hT.f.size
              have nhb : ¬ (hb2 = rb ∨ hb2 = g) := by omega
              have cl0 : wr.cell? ⟨hb2, 2 * k, none⟩ = some (fc nl cl) := fr_cell hT.f nhb (by rw [HP2.out.h.cell, q1, e1])
              have cl1 : wr.cell? ⟨hb2, 2 * k + 1, none⟩ = some (fc nt ct) := fr_cell hT.f nhb (by rw [HP2.out.h.cell, q2, e2])
              have hZl : k < (cs.drop (5 * j)).length := by rw [List.length_drop, HCS.out.2.2]; omega
              have hvk : ∃ z, wr.cell? ⟨g, j * 5 + k, none⟩ = some z := by
                obtain ⟨z, hz⟩ := some_at (l := A ++ (Ps ++ (cs.drop (5 * j)).drop k)) (k := j * 5 + k) (by
                  rw [List.length_append, List.length_append, HAL.out.1, hT.n, List.length_drop]; omega)
                exact ⟨z, hT.h.cellv _ z hz⟩
              obtain ⟨z, hzc⟩ := hvk
              obtain ⟨wz, hwz⟩ : ∃ q, wr.alloc (.cells #[fc nl cl, fc nt ct] 132) = q := ⟨_, rfl⟩
              obtain ⟨hz, gz, sz⟩ := hasN hwz
              have d0 : wz.cell? ⟨wr.heap.size, 0, none⟩ = some (fc nl cl) := hz.cellv 0 _ rfl
              have d1 : wz.cell? ⟨wr.heap.size, 1, none⟩ = some (fc nt ct) := hz.cellv 1 _ rfl
              have hkd : tK[k]? = some m.kd := by unfold tK; rw [List.getElem?_map, hm]; rfl
              have hgz := gz.size
              have nrx : ¬ (rx = rb ∨ rx = g) := by have := HA.out.2.2.2.2; omega
              have nrx2 : ¬ (rx = rb ∨ rx = vb) := by have := HA.out.2.2.2.2; omega
              have HDW := Keep.mk (dor_c w3 wo.heap.size w3.heap.size m g (j * 5 + k) nl nt cl ct TC wz rb B rx (takeL (tK.take k) st2).2 z
                ((Kpt.fr hT.f (Nat.le_refl _) (fun i e => by omega)).trans (Kpt.grown gz hfs)) (by omega) (by omega) (by omega) (by omega)
                (gz.cell hzc (by simp)) (fr_frozen (S := fun _ => False) (Fr.ofNone gz) (fun e => e) hzc (hT.h.frozen _)) (hT.r.kept gz)
                (gz.cell (fr_cell hT.f nrx (HG3.out.cell (fr_cell HO.out.f nrx2 HA.out.2.2.2.1) (by simp))) (by simp)))
              have HRL := Keep.mk (And.intro hT (And.intro gz (And.intro (takeL_take tK st2 k m.kd hkd) (And.intro hm hZl))))
              rw [Nat.mul_comm] at cl0 cl1
              clear hm hp q1 q2 e1 e2 LC TC hT hbq hfs nhb hzc hz gz sz hkd hgz hrel nrx nrx2 hZl hgs3 hlts hgl
              go_wp2_with fail
              refine HDW.out.mono ?_
              rintro e w2 ⟨rfl, w4, v, dd, mt, hw2⟩
              have HNX : Keep (Tk w3 w2 rb B g (k + 1) A (cs.drop (5 * j)) 98 tMs (takeL (tK.take (k + 1)) st2).1 (takeL (tK.take (k + 1)) st2).2 (Ps ++ [v])) := by
                obtain ⟨hT, gz, htk, hm, hZl⟩ := HRL.out
                have hlts := HLT.out
                have hgl := HGL.out
                have h1 := hT.next gz hZl (by omega) (by omega) hm dd mt
                rw [HAL.out.1] at h1
                rw [htk, hw2]
                exact ⟨h1⟩
              clear dd mt hw2 HDW HRL
              go_wp2_with fail
              go_roundw
              case rel => exact ⟨k + 1, Ps ++ [v], by omega, by go_num, HNX⟩
              case measure => simp [intOf]; omega
            · obtain rfl : k = 5 := by omega
              have HNX : Keep (Ou w wr vb rb B g (j + 1) st1 Cs cs) := by
                have hT := hrel.out
                have hks : tK.take 5 = tK := rfl
                have hms : tMs.take 5 = tMs := rfl
                have hs := hT.s
                rw [hks, hms] at hs
                have hPs := says_cs hs
                have hn : takeSn (j + 1) st1 = ((takeSn j st1).1 ++ [snOf (takeL tK st2).1], (takeL tK st2).2) := by rw [takeSn, HAL.out.2.2]
                have hv : vb ≠ g := by omega
                refine ⟨⟨(HO.out.v.kept HG3.out (by simp)).fr hT.f (by have := HA.out.2.1; omega), ?_, ?_, ?_⟩⟩
                · have h := hT.h
                  rw [hPs, ← List.append_assoc, ← HAL.out.2.1, ← fls_app, List.drop_drop] at h
                  rw [hn, show 5 * (j + 1) = 5 * j + 5 by omega]
                  exact h
                · have h := hT.r
                  rw [hks] at h
                  rw [hn]; exact h
                · exact (HO.out.f.trans (Fr.ofNone HG3.out)).then hT.f (fun i e => by omega)
              clear hrel hgs3 hlts hgl
              go_wp2_with fail
              go_roundw
              case rel => exact ⟨j + 1, by omega, by go_num, HNX⟩
              case measure => simp [intOf]; omega
        · obtain rfl : j = n := by omega
          have HF : Keep (EaR w wo vb rb B st0 Cs j g) := by
            have h := hrel.out
            have hh := h.h
            rw [List.drop_eq_nil_of_le (by have := HCS.out.2.2; omega), List.append_nil] at hh
            have hr := h.r
            rw [← HST.out] at hh hr
            have := HG1.out.size
            have := HCS.out.2.1
            exact ⟨h.v, HSY.out, HCS.out.1, by omega, by omega, hh, hr, h.f⟩
          clear hrel
          go_wp2_with fail
          go_end0
          exact ⟨rfl, Cs, j, g, HF.out⟩
end Go.Proofs.YtldnpebnpbahjaaGreatDoor.Pk.Sn

