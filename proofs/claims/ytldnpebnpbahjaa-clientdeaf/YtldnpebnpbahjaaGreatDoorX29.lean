import Derived.Test.YtldnpebnpbahjaaGreatDoorSnD
namespace Go.Proofs.YtldnpebnpbahjaaGreatDoor.Pk.Sn
open Go Go.RowKit

/-- one that is seen -/
structure Sn where
  k : Int
  i : Int
  x : Int
  y : Int
  h : Int
deriving DecidableEq
def Sn.lv (s : Sn) : List Lv := [.num s.k, .num s.i, .num s.x, .num s.y, .num s.h]
def Sn.cs (s : Sn) : List Value := [iv s.k, iv s.i, iv s.x, iv s.y, iv s.h]
def hK : List Kd := hMs.map Mk.kd
def tK : List Kd := tMs.map Mk.kd
/-- all that are seen, as parts -/
def laySn (S : List Sn) (st : WS) : WS := S.foldl (fun st s => Pk.layL tK s.lv st) st
/-- those seen, as they are read -/
def SnR (w : World) (b o : Nat) (S : List Sn) : Prop := ∀ (j : Nat) (s : Sn), S[j]? = some s → ∀ (i : Nat) (z : Value), s.cs[i]? = some z → w.cell? ⟨b, o + 5 * j + i, none⟩ = some z
theorem SnR.fr {F : Nat → Prop} {w w' : World} {b o : Nat} {S : List Sn} (h : SnR w b o S) (f : Fr F w w') (hb : ¬ F b) : SnR w' b o S := fun j s e i z hz => fr_cell f hb (h j s e i z hz)
/-- cells and parts that say the same -/
def Says : List Mk → List Lv → List Value → Prop
  | [], [], [] => True
  | m :: ms, x :: xs, z :: zs => m.r x z ∧ Says ms xs zs
  | _, _, _ => False
theorem Says.at : ∀ {ms : List Mk} {xs : List Lv} {zs : List Value} (_ : Says ms xs zs) (k : Nat) (m : Mk), ms[k]? = some m → ∃ x z, xs[k]? = some x ∧ zs[k]? = some z ∧ m.r x z
  | [], [], [], _, k, m, e => by cases e
  | m0 :: ms, x :: xs, z :: zs, h, 0, m, e => by obtain rfl := Option.some.inj e; exact ⟨x, z, rfl, rfl, h.1⟩
  | m0 :: ms, x :: xs, z :: zs, h, k + 1, m, e => Says.at (ms := ms) h.2 k m e
theorem Says.len : ∀ {ms : List Mk} {xs : List Lv} {zs : List Value} (_ : Says ms xs zs), xs.length = ms.length ∧ zs.length = ms.length
  | [], [], [], _ => ⟨rfl, rfl⟩
  | _ :: ms, _ :: xs, _ :: zs, h => by have := Says.len h.2; exact ⟨by simp [this.1], by simp [this.2]⟩
theorem okL_at : ∀ {ks : List Kd} {vs : List Lv} (_ : okL ks vs) (k : Nat) (kd : Kd) (x : Lv), ks[k]? = some kd → vs[k]? = some x → okK kd x
  | [], [], _, k, kd, x, e, _ => by cases e
  | k0 :: ks, v :: vs, h, 0, kd, x, e1, e2 => by obtain rfl := Option.some.inj e1; obtain rfl := Option.some.inj e2; exact h.1
  | k0 :: ks, v :: vs, h, k + 1, kd, x, e1, e2 => okL_at (ks := ks) h.2 k kd x e1 e2
theorem layL_take : ∀ (ks : List Kd) (vs : List Lv) (st : WS) (k : Nat) (kd : Kd) (x : Lv), ks[k]? = some kd → vs[k]? = some x → Pk.layL (ks.take (k + 1)) (vs.take (k + 1)) st = layK kd x (Pk.layL (ks.take k) (vs.take k) st)
  | [], vs, st, k, kd, x, e1, _ => by cases e1
  | k0 :: ks, [], st, k, kd, x, _, e2 => by cases e2
  | k0 :: ks, v :: vs, st, 0, kd, x, e1, e2 => by obtain rfl := Option.some.inj e1; obtain rfl := Option.some.inj e2; simp [Pk.layL]
  | k0 :: ks, v :: vs, st, k + 1, kd, x, e1, e2 => by
    rw [List.take_succ_cons, List.take_succ_cons, Pk.layL, List.take_succ_cons, List.take_succ_cons, Pk.layL]
    exact layL_take ks vs _ k kd x e1 e2
theorem layL_len : ∀ (ks : List Kd) (vs : List Lv) (st : WS), okL ks vs → ((Pk.layL ks vs st).getD []).length ≤ (st.getD []).length + 256 * ks.length
  | [], [], st, _ => by simp [Pk.layL]
  | k :: ks, v :: vs, st, h => by
    have h1 := layK_len k v st h.1
    have h2 := layL_len ks vs (layK k v st) h.2
    rw [Pk.layL, List.length_cons]; omega
theorem okL_take : ∀ {ks : List Kd} {vs : List Lv} (_ : okL ks vs) (k : Nat), okL (ks.take k) (vs.take k)
  | [], [], _, k => by simp [okL]
  | _ :: ks, _ :: vs, h, 0 => by simp [okL]
  | _ :: ks, _ :: vs, h, k + 1 => ⟨h.1, okL_take (ks := ks) h.2 k⟩
def Sn.ok (s : Sn) : Prop := okL tK s.lv
theorem laySn_len (S : List Sn) (st : WS) (h : ∀ s ∈ S, s.ok) : ((laySn S st).getD []).length ≤ (st.getD []).length + 1280 * S.length := by
  induction S generalizing st with
  | nil => simp [laySn]
  | cons s r ih =>
    have h1 := layL_len tK s.lv st (h s (by simp))
    have h2 := ih (Pk.layL tK s.lv st) (fun x hx => h x (by simp [hx]))
    have h3 : laySn (s :: r) st = laySn r (Pk.layL tK s.lv st) := rfl
    have h4 : tK.length = 5 := rfl
    rw [h3, List.length_cons]; omega
theorem laySn_take (S : List Sn) (st : WS) (j : Nat) (s : Sn) (h : S[j]? = some s) : laySn (S.take (j + 1)) st = Pk.layL tK s.lv (laySn (S.take j) st) := by
  unfold laySn
  rw [List.take_add_one, h, List.foldl_append]
  rfl
theorem hasN {w : World} {a : Array Value} {t : TypeId} {wz : World} (h : w.alloc (.cells a t) = wz) : Has wz w.heap.size a.toList t ∧ w.grownBy wz none ∧ wz.heap.size = w.heap.size + 1 := by
  subst h; exact ⟨Has.newA w a t, gr_al _ _, hs1 _ _⟩
set_option maxHeartbeats 8000000 in
set_option maxRecDepth 100000 in
theorem dow_c (w : World) (lo hi : Nat) (m : Mk) (b o nl nt : Nat) (cl ct : Array Value) (h : LayC w lo hi m b o nl cl) (W : World) (wb wx : Nat) (v : Value) (st : WS) (x : Lv) (z : Value)
    (hk : Kpt lo hi w W) (hh : hi ≤ W.heap.size) (hd : ∀ i, WF wb v i → (i < lo ∨ hi ≤ i) ∧ i ≠ b) (hz : W.cell? ⟨b, o, none⟩ = some z) (hr : m.r x z) (ho : okK m.kd x) (ha : WAt W wb v st) (hl : (st.getD []).length ≤ 1000000) (hx : W.cell? ⟨wx, 0, none⟩ = some (pa wb 0)) :
    Calls Tryz.prog 91 #[.agg #[fc nl cl, fc nt ct], pa wx 0] W fun e w' => e = .returned (.tuple #[]) ∧ ∃ v', WDid W w' wb v (layK m.kd x st) v' := by
  obtain ⟨w1, hw1⟩ : ∃ q, W.alloc (.cells #[fc nl cl, fc nt ct] 132) = q := ⟨_, rfl⟩
  obtain ⟨h1, g1, s1⟩ := hasN hw1
  have HC := Keep.mk (h.2 w1 wb v st x z (hk.trans (Kpt.grown g1 hh)) hd (g1.cell hz (by simp)) hr ho (ha.kept g1) hl)
  have hen := h.1
  have c1 : w1.cell? ⟨W.heap.size, 0, none⟩ = some (fc nl cl) := h1.cellv 0 _ rfl
  have c2 : w1.cell? ⟨wx, 0, none⟩ = some (pa wb 0) := g1.cell hx (by simp)
  have HG := Keep.mk g1
  clear h hk hh hd hz hr ho ha hl h1 g1 s1 hx
  go_enter Tryz.func91, Tryz.ntmps91
  go_wp2_with fail
  refine HC.out.mono ?_
  rintro e w2 ⟨rfl, v', d⟩
  have HD := Keep.mk (WDid.ahead HG.out d)
  clear d HC
  go_wp2_with fail
  go_end0
  exact ⟨rfl, v', HD.out⟩
end Go.Proofs.YtldnpebnpbahjaaGreatDoor.Pk.Sn

namespace Go.Proofs.YtldnpebnpbahjaaGreatDoor.Pk.Sn
open Go Go.RowKit

theorem hKl (k : Nat) : (hK.take k).length ≤ 16 := by
  rw [List.length_take]; have : hK.length = 16 := rfl; omega
theorem tKl (k : Nat) : (tK.take k).length ≤ 5 := by
  rw [List.length_take]; have : tK.length = 5 := rfl; omega
theorem hM_len : hMs.length = 16 := rfl
theorem tM_len : tMs.length = 5 := rfl
theorem some_at {α : Type} {l : List α} {k : Nat} (h : k < l.length) : ∃ x, l[k]? = some x := ⟨l[k], List.getElem?_eq_getElem h⟩
/-- where the writer may not stand -/
theorem wd_apart {w w' : World} {wb : Nat} {v v' : Value} {st' : WS} (d : WDid w w' wb v st' v') {lo hi : Nat} (h1 : ∀ i, WF wb v i → i < lo ∨ hi ≤ i) (hh : hi ≤ w.heap.size) : ∀ i, WF wb v' i → i < lo ∨ hi ≤ i := by
  intro i hi
  rcases hi with e | e
  · exact h1 i (.inl e)
  · rcases d.n i e with q | q
    · exact h1 i (.inr q)
    · omega
theorem wd_ne {w w' : World} {wb : Nat} {v v' : Value} {st' : WS} (d : WDid w w' wb v st' v') {b : Nat} (hb : b < w.heap.size) (h : ¬ WF wb v b) : ¬ WF wb v' b := by
  intro q
  rcases q with e | e
  · exact h (.inl e)
  · rcases d.n b e with q | q
    · exact h (.inr q)
    · omega
/-- one round: a part is laid -/
theorem round_w {w1 wr wz w2 : World} {wb : Nat} {v0 v v' : Value} {st st' : WS} (d : WDid w1 wr wb v0 st v) (g : wr.grownBy wz none) (e : WDid wz w2 wb v st' v') : WDid w1 w2 wb v0 st' v' := d.trans (WDid.ahead g e)
theorem sn_says (s : Sn) : Says tMs s.lv s.cs := ⟨⟨_, rfl, rfl⟩, ⟨_, rfl, rfl⟩, ⟨_, rfl, rfl⟩, ⟨_, rfl, rfl⟩, ⟨_, rfl, rfl⟩, trivial⟩
set_option maxRecDepth 100000 in
theorem entW : Ent 91 := fun _ _ => by kernel_rfl
set_option maxHeartbeats 8000000 in
set_option maxRecDepth 100000 in
theorem each_w (w : World) (vb wb wx : Nat) (v0 : Value) (st0 : WS) (X : List Lv) (C : List Value) (S : List Sn) (a : Option Addr) (c : Nat)
    (hC : Has w vb C 49) (hS : Says hMs X C) (hl5 : C[15]? = some (.slice a S.length c)) (hX : okL hK X)
    (hR : S ≠ [] → ∃ sb so, a = some ⟨sb, so, none⟩ ∧ SnR w sb so S ∧ ¬ WF wb v0 sb) (hok : ∀ s ∈ S, s.ok)
    (hA : WAt w wb v0 st0) (hd1 : ¬ WF wb v0 vb) (hd2 : ¬ WF wb v0 wx) (hx : w.cell? ⟨wx, 0, none⟩ = some (pa wb 0)) (hl : (st0.getD []).length ≤ 1000) (hn : S.length ≤ 255) :
    Calls Tryz.prog 90 #[pa vb 0, fc 91 #[pa wx 0]] w fun e w' => e = .returned (.tuple #[]) ∧ ∃ v', WDid w w' wb v0 (laySn S (Pk.layL hK X st0)) v' := by
  have HV := Keep.mk (And.intro hC (And.intro hS (And.intro hl5 hX)))
  have HR := Keep.mk (And.intro hR (And.intro hok hn))
  have HA := Keep.mk (And.intro hA (And.intro hd1 (And.intro hd2 (And.intro hx hl))))
  have hen := entW
  have hvl : vb < w.heap.size := hC.lt
  obtain ⟨n, hnn⟩ : ∃ n, S.length = n := ⟨_, rfl⟩
  have HN := Keep.mk hnn
  have hn255 : n ≤ 255 := by omega
  have HVL := Keep.mk hvl
  clear hC hS hl5 hX hR hok hA hd1 hd2 hx hl hn hvl hnn
  go_enter Tryz.func90, Tryz.ntmps90
  go_wp2_with fail
  refine (head_c vb w).mono ?_
  rintro e w1 ⟨hb, L, rfl, P, g1⟩
  have HP := Keep.mk P
  have HG1 := Keep.mk g1
  have HW1 : Keep (WDid w w1 wb v0 st0 v0) := ⟨(WDid.refl HA.out.1).grown g1⟩
  clear P g1
  go_wp2_with fail
  go_loopw [12] (fun t w' => ∃ (k : Nat) (v : Value), k ≤ 16 ∧ t = .int .i64 k ∧ Keep (WDid w1 w' wb v0 (Pk.layL (hK.take k) (X.take k) st0) v)) (fun t _ => 16 - (intOf t).toNat)
  case atStart => exact ⟨0, v0, by omega, rfl, ⟨by simpa [Pk.layL] using WDid.refl HW1.out.a⟩⟩
  case round =>
    obtain ⟨k, v, hk16, rfl, hrel⟩ := hrel
    by_cases hlt : k < 16
    · obtain ⟨m, hm⟩ := some_at (l := hMs) (k := k) hlt
      obtain ⟨p, hp⟩ := some_at (l := L) (k := k) (by rw [HP.out.n]; exact hlt)
      obtain ⟨x, z, hxk, hzk, hmr⟩ := HV.out.2.1.at k m hm
      obtain ⟨q1, q2⟩ := flat_at L k p hp
      obtain ⟨nl, cl, nt, ct, e1, e2, LC, TC⟩ := HP.out.p k p m hp hm
      rw [Nat.zero_add] at LC
      have hlo : ∀ i, WF wb v0 i → i < w.heap.size := HA.out.1.lt
      have hapt : ∀ i, WF wb v0 i → i < w.heap.size ∨ w1.heap.size ≤ i := fun i hi => .inl (hlo i hi)
      have hbq := HP.out.q
      have nhb : ¬ WF wb v0 hb := fun e => by have := hlo _ e; omega
      have cl0 : wr.cell? ⟨hb, 2 * k, none⟩ = some (fc nl cl) := fr_cell hrel.out.f nhb (by rw [HP.out.h.cell, q1, e1])
      have cl1 : wr.cell? ⟨hb, 2 * k + 1, none⟩ = some (fc nt ct) := fr_cell hrel.out.f nhb (by rw [HP.out.h.cell, q2, e2])
      have czb : w1.cell? ⟨vb, k, none⟩ = some z := HG1.out.cell (HV.out.1.cellv k z hzk) (by simp)
      obtain ⟨wz, hwz⟩ : ∃ q, wr.alloc (.cells #[fc nl cl, fc nt ct] 132) = q := ⟨_, rfl⟩
      obtain ⟨hz, gz, sz⟩ := hasN hwz
      have d0 : wz.cell? ⟨wr.heap.size, 0, none⟩ = some (fc nl cl) := hz.cellv 0 _ rfl
      have d1 : wz.cell? ⟨wr.heap.size, 1, none⟩ = some (fc nt ct) := hz.cellv 1 _ rfl
      have hkd : hK[k]? = some m.kd := by unfold hK; rw [List.getElem?_map, hm]; rfl
      have hfs := hrel.out.f.size
      have HDW := Keep.mk (dow_c w1 w.heap.size w1.heap.size m vb k nl nt cl ct LC wz wb wx v (Pk.layL (hK.take k) (X.take k) st0) x z
        ((Kpt.fr hrel.out.f (Nat.le_refl _) hapt).trans (Kpt.grown gz hfs)) (Nat.le_trans hfs gz.size)
        (fun i hi => ⟨wd_apart hrel.out hapt (Nat.le_refl _) i hi, fun e => wd_ne hrel.out (by have := HG1.out.size; have := HVL.out; omega) HA.out.2.1 (e ▸ hi)⟩)
        (gz.cell (fr_cell hrel.out.f HA.out.2.1 czb) (by simp)) hmr (okL_at HV.out.2.2.2 k m.kd x hkd hxk) (hrel.out.a.kept gz)
        (by have h1 := layL_len _ _ st0 (okL_take HV.out.2.2.2 k); have h2 := HA.out.2.2.2.2; have h3 := hKl k; omega)
        (gz.cell (fr_cell hrel.out.f HA.out.2.2.1 (HG1.out.cell HA.out.2.2.2.1 (by simp))) (by simp)))
      have HRL := Keep.mk (And.intro hrel.out (And.intro gz (layL_take hK X st0 k m.kd x hkd hxk)))
      rw [Nat.mul_comm] at cl0 cl1
      clear hm hp hxk hzk hmr q1 q2 e1 e2 LC TC hlo hapt hbq nhb czb hz gz sz hkd hfs hrel
      go_wp2_with fail
      refine HDW.out.mono ?_
      rintro e w2 ⟨rfl, v', dd⟩
      have HNX : Keep (WDid w1 w2 wb v0 (Pk.layL (hK.take (k + 1)) (X.take (k + 1)) st0) v') := ⟨by rw [HRL.out.2.2]; exact round_w HRL.out.1 HRL.out.2.1 dd⟩
      clear dd HDW HRL
      go_wp2_with fail
      go_roundw
      case rel => exact ⟨k + 1, v', by omega, by go_num, HNX⟩
      case measure => simp [intOf]; omega
    · have HK16 : Keep (k = 16) := ⟨by omega⟩
      have hlt' : ¬ ((k : Int) < 16) := by omega
      have HS2 : Keep (WDid w wr wb v0 (Pk.layL hK X st0) v) := by
        have h := hrel.out
        rw [HK16.out] at h
        rw [List.take_of_length_le (by show 16 ≤ 16; omega), List.take_of_length_le (by rw [HV.out.2.1.len.1]; show 16 ≤ 16; omega)] at h
        exact ⟨WDid.ahead HG1.out h⟩
      have c15 : wr.cell? ⟨vb, 15, none⟩ = some (.slice a n c) := fr_cell HS2.out.f HA.out.2.1 (by rw [HV.out.1.cell, HV.out.2.2.1, HN.out])
      clear hrel
      clear HP HG1 HW1
      go_wp2_with fail
      clear c15
      go_loopw [25] (fun t w' => ∃ (j : Nat) (v : Value), j ≤ n ∧ t = .int .i64 j ∧ Keep (WDid w w' wb v0 (laySn (S.take j) (Pk.layL hK X st0)) v)) (fun t _ => n - (intOf t).toNat)
      case atStart => exact ⟨0, v, by omega, rfl, ⟨by simpa [laySn] using HS2.out⟩⟩
      case round =>
        obtain ⟨j, v, hjn, rfl, hrel⟩ := hrel
        rename World => wo
        by_cases hlt : j < n
        · obtain ⟨s, hs⟩ := some_at (l := S) (k := j) (by rw [HN.out]; exact hlt)
          obtain ⟨sb, so, ha, hSR, hsb⟩ := HR.out.1 (fun e => by rw [e] at hs; cases hs)
          have HSR := Keep.mk (And.intro hSR (And.intro hsb hs))
          have c15 : wo.cell? ⟨vb, 15, none⟩ = some (.slice (some ⟨sb, so, none⟩) n c) := fr_cell hrel.out.f HA.out.2.1 (by rw [HV.out.1.cell, HV.out.2.2.1, HN.out, ha])
          have hlt' : (j : Int) < (n : Int) := by omega
          have HO := Keep.mk hrel.out
          clear hSR hsb hs hrel ha
          go_wp2_with fail
          refine (thing_c sb (so + j * 5) wo).mono ?_
          rintro e w3 ⟨hb2, L2, rfl, P2, g3⟩
          have HP2 := Keep.mk P2
          have HG3 := Keep.mk g3
          have HLo : Keep (∀ i, WF wb v i → i < wo.heap.size) := ⟨HO.out.a.lt⟩
          have HSZ : Keep (sb < w.heap.size ∧ wx < w.heap.size) := by
            constructor; constructor
            · exact Nat.lt_of_not_le (fun q => by
                have := HSR.out.1 j s HSR.out.2.2 0 _ rfl
                unfold World.cell? at this
                rw [Array.getElem?_eq_none q] at this; cases this)
            · exact Nat.lt_of_not_le (fun q => by
                have := HA.out.2.2.2.1
                unfold World.cell? at this
                rw [Array.getElem?_eq_none q] at this; cases this)
          have hsj : S[j]? = some s := HSR.out.2.2
          obtain ⟨st1, hst1⟩ : ∃ q, laySn (S.take j) (Pk.layL hK X st0) = q := ⟨_, rfl⟩
          have HST : Keep (laySn (S.take (j + 1)) (Pk.layL hK X st0) = Pk.layL tK s.lv st1) := ⟨by rw [laySn_take S _ j s hsj, hst1]⟩
          have HOK : Keep (okL tK s.lv ∧ (st1.getD []).length ≤ 500000) := by
            refine ⟨HR.out.2.1 s (List.mem_of_getElem? hsj), ?_⟩
            have h1 := laySn_len (S.take j) (Pk.layL hK X st0) (fun x hx => HR.out.2.1 x (List.mem_of_mem_take hx))
            have h2 := layL_len hK X st0 HV.out.2.2.2
            have h3 : hK.length = 16 := rfl
            have h4 := HA.out.2.2.2.2
            have h5 : (S.take j).length ≤ 255 := by rw [List.length_take]; have := HR.out.2.2; omega
            rw [hst1] at h1
            omega
          rw [hst1] at HO
          clear P2 g3 c15 hsj hst1
          go_wp2_with fail
          go_loopw [36] (fun t w' => ∃ (k : Nat) (v' : Value), k ≤ 5 ∧ t = .int .i64 k ∧ Keep (WDid w3 w' wb v (Pk.layL (tK.take k) (s.lv.take k) st1) v')) (fun t _ => 5 - (intOf t).toNat)
          case atStart => exact ⟨0, v, by omega, rfl, ⟨by simpa [Pk.layL] using WDid.refl (HO.out.a.kept HG3.out)⟩⟩
          case round =>
            obtain ⟨k, v', hk5, rfl, hrel⟩ := hrel
            by_cases hlt5 : k < 5
            · obtain ⟨m, hm⟩ := some_at (l := tMs) (k := k) hlt5
              obtain ⟨p, hp⟩ := some_at (l := L2) (k := k) (by rw [HP2.out.n]; exact hlt5)
              obtain ⟨x, z, hxk, hzk, hmr⟩ := (sn_says s).at k m hm
              obtain ⟨q1, q2⟩ := flat_at L2 k p hp
              obtain ⟨nl, cl, nt, ct, e1, e2, LC, TC⟩ := HP2.out.p k p m hp hm
              have hapt : ∀ i, WF wb v i → i < wo.heap.size ∨ w3.heap.size ≤ i := fun i hi => .inl (HLo.out i hi)
              have hbq := HP2.out.q
              have nhb : ¬ WF wb v hb2 := fun e => by have := HLo.out _ e; omega
              have nsb : ¬ WF wb v sb := wd_ne HO.out HSZ.out.1 HSR.out.2.1
              have nwx : ¬ WF wb v wx := wd_ne HO.out HSZ.out.2 HA.out.2.2.1
              have cl0 : wr.cell? ⟨hb2, 2 * k, none⟩ = some (fc nl cl) := fr_cell hrel.out.f nhb (by rw [HP2.out.h.cell, q1, e1])
              have cl1 : wr.cell? ⟨hb2, 2 * k + 1, none⟩ = some (fc nt ct) := fr_cell hrel.out.f nhb (by rw [HP2.out.h.cell, q2, e2])
              have czw : w.cell? ⟨sb, so + j * 5 + k, none⟩ = some z := by rw [Nat.mul_comm j 5]; exact HSR.out.1 j s HSR.out.2.2 k z hzk
              have czb : w3.cell? ⟨sb, so + j * 5 + k, none⟩ = some z := HG3.out.cell (fr_cell HO.out.f HSR.out.2.1 czw) (by simp)
              obtain ⟨wz, hwz⟩ : ∃ q, wr.alloc (.cells #[fc nl cl, fc nt ct] 132) = q := ⟨_, rfl⟩
              obtain ⟨hz, gz, sz⟩ := hasN hwz
              have d0 : wz.cell? ⟨wr.heap.size, 0, none⟩ = some (fc nl cl) := hz.cellv 0 _ rfl
              have d1 : wz.cell? ⟨wr.heap.size, 1, none⟩ = some (fc nt ct) := hz.cellv 1 _ rfl
              have hkd : tK[k]? = some m.kd := by unfold tK; rw [List.getElem?_map, hm]; rfl
              have hfs := hrel.out.f.size
              have hos := HO.out.f.size
              have hgs := HG3.out.size
              have HDW := Keep.mk (dow_c w3 wo.heap.size w3.heap.size m sb (so + j * 5 + k) nl nt cl ct LC wz wb wx v' (Pk.layL (tK.take k) (s.lv.take k) st1) x z
                ((Kpt.fr hrel.out.f (Nat.le_refl _) hapt).trans (Kpt.grown gz hfs)) (Nat.le_trans hfs gz.size)
                (fun i hi => ⟨wd_apart hrel.out hapt (Nat.le_refl _) i hi, fun e => wd_ne hrel.out (by have := HSZ.out.1; omega) nsb (e ▸ hi)⟩)
                (gz.cell (fr_cell hrel.out.f nsb czb) (by simp)) hmr (okL_at HOK.out.1 k m.kd x hkd hxk) (hrel.out.a.kept gz)
                (by have h1 := layL_len _ _ st1 (okL_take HOK.out.1 k); have h2 := HOK.out.2; have h3 := tKl k; omega)
                (gz.cell (fr_cell hrel.out.f nwx (HG3.out.cell (fr_cell HO.out.f HA.out.2.2.1 HA.out.2.2.2.1) (by simp))) (by simp)))
              have HRL := Keep.mk (And.intro hrel.out (And.intro gz (layL_take tK s.lv st1 k m.kd x hkd hxk)))
              rw [Nat.mul_comm] at cl0 cl1
              clear hm hp hxk hzk hmr q1 q2 e1 e2 LC TC hapt hbq nhb nsb nwx czw czb hz gz sz hkd hfs hos hgs hrel
              go_wp2_with fail
              refine HDW.out.mono ?_
              rintro e w2 ⟨rfl, v'', dd⟩
              have HNX : Keep (WDid w3 w2 wb v (Pk.layL (tK.take (k + 1)) (s.lv.take (k + 1)) st1) v'') := ⟨by rw [HRL.out.2.2]; exact round_w HRL.out.1 HRL.out.2.1 dd⟩
              clear dd HDW HRL
              go_wp2_with fail
              go_roundw
              case rel => exact ⟨k + 1, v'', by omega, by go_num, HNX⟩
              case measure => simp [intOf]; omega
            · obtain rfl : k = 5 := by omega
              have HNX : Keep (WDid w wr wb v0 (laySn (S.take (j + 1)) (Pk.layL hK X st0)) v') := by
                have h := hrel.out
                rw [List.take_of_length_le (by show 5 ≤ 5; omega), List.take_of_length_le (by show 5 ≤ 5; omega)] at h
                rw [HST.out]
                exact ⟨(HO.out.grown HG3.out).trans h⟩
              clear hrel
              go_wp2_with fail
              go_roundw
              case rel => exact ⟨j + 1, v', by omega, by go_num, HNX⟩
              case measure => simp [intOf]; omega
        · obtain rfl : j = n := by omega
          have HF : Keep (WDid w wo wb v0 (laySn S (Pk.layL hK X st0)) v) := by
            have h := hrel.out
            rw [List.take_of_length_le (by rw [HN.out]; omega)] at h
            exact ⟨h⟩
          clear hrel
          go_wp2_with fail
          go_end0
          exact ⟨rfl, v, HF.out⟩
end Go.Proofs.YtldnpebnpbahjaaGreatDoor.Pk.Sn

