/- the laws' step: a take; a new ring. -/
import Derived.Test.YtflglflggeaokaaG5
namespace Go.Proofs.Ytflglflggeaokaa
open Go Go.RowKit Go.Shelf

theorem twins_left {X : List (Nat × List Value × TypeId)} {ts ws : List Value} (h : Twins X ts ws) (hl : ws.length ≤ ts.length) (t : Value) : Twins X (ts ++ [t]) ws := fun k t' u ht hu => by
  have hk : k < ws.length := (List.getElem?_eq_some_iff.1 hu).1
  rw [List.getElem?_append_left (by omega)] at ht
  exact h k t' u ht hu
theorem twins_both {X : List (Nat × List Value × TypeId)} {ts ws : List Value} (h : Twins X ts ws) (hl : ts.length = ws.length) {a b : Option Addr} {n ca cb : Nat} {xs : List Int} (hn : n ≤ 4096) (hi : ∀ W : World, (∀ p ∈ X, Has W p.1 p.2.1 p.2.2) → Ints W a n xs ∧ Ints W b n xs) : Twins X (ts ++ [.slice a n ca]) (ws ++ [.slice b n cb]) := fun k t u ht hu => by
  by_cases hk : k < ts.length
  · rw [List.getElem?_append_left hk] at ht
    rw [List.getElem?_append_left (by omega)] at hu
    exact h k t u ht hu
  · have hk2 : k = ts.length := by
      have := (List.getElem?_eq_some_iff.1 ht).1
      rw [List.length_append, List.length_singleton] at this
      omega
    rw [List.getElem?_append_right (by omega), show k - ts.length = 0 by omega] at ht
    rw [List.getElem?_append_right (by omega), show k - ws.length = 0 by omega] at hu
    cases ht
    cases hu
    exact ⟨a, n, ca, b, cb, xs, rfl, rfl, hn, hi⟩

set_option maxRecDepth 100000 in
set_option maxHeartbeats 4000000 in
theorem step_take (pb rb db : Nat) (v : Value) (a : Option Addr) (sz : Nat) (L : List Int) (At N : Int) (W : World) (h : PR W pb (which At) rb v db a sz L) (lo n : Nat) (tv wv r0 r1 d0 d1 : Value) (ts ws : List Value) (X : List (Nat × List Value × TypeId)) (A B : List Ob) (hs : Sep lo W (bookO lo tv wv n n ts ws X :: playO pb [r0, r1, d0, d1, tv, wv] :: (A ++ pairO rb v db a sz L L :: B))) (hlo : lo ≤ W.heap.size) (hn : (n + 1) * 24 ≤ 140737488355328) :
    Calls Try.prog 24 #[.pointer (some ⟨pb, 0, none⟩), .agg #[.int .i64 5, .int .i64 At, .int .i64 N]] W fun e W' => e = .returned (.bool true) ∧ ∃ tv' wv' ts' ws' X' v' a' Q, Sep lo W' (bookO lo tv' wv' (n + 1) (n + 1) ts' ws' X' :: playO pb [r0, r1, d0, d1, tv', wv'] :: (A ++ pairO rb v' db a' sz Q Q :: B)) ∧ Fr (fun i => lo ≤ i) W W' := by
  have HSEP : Keep (Sep lo W ((bookO lo tv wv n n ts ws X :: playO pb [r0, r1, d0, d1, tv, wv] :: A) ++ pairO rb v db a sz L L :: B) ∧ lo ≤ W.heap.size ∧ (n + 1) * 24 ≤ 140737488355328) := ⟨hs, hlo, hn⟩
  obtain ⟨ta, tc, htv⟩ := own_slice (hs.p (bookO lo tv wv n n ts ws X) (by simp)).1
  obtain ⟨wa, wc, hwv⟩ := own_slice (hs.p (bookO lo tv wv n n ts ws X) (by simp)).2.1
  subst htv hwv
  clear hs hlo hn
  have HR : Keep (PR W pb (which At) rb v db a sz L) := ⟨h⟩
  have H0 := (RG.start h.p).add (World.grownBy_alloc W (.cells #[.int .i64 5, .int .i64 At, .int .i64 N] 61) none) (Has.newA W #[.int .i64 5, .int .i64 At, .int .i64 N] 61) (Nat.le_refl _)
  clear h
  have hc0 : (W.alloc (.cells #[.int .i64 5, .int .i64 At, .int .i64 N] 61)).cell? ⟨pb, which At, none⟩ = some (.pointer (some ⟨rb, 0, none⟩)) := by rw [World.cell?_alloc_lt _ _ _ HR.out.lt]; exact HR.out.r
  have hc1 : (W.alloc (.cells #[.int .i64 5, .int .i64 At, .int .i64 N] 61)).cell? ⟨pb, 2 + which At, none⟩ = some (.pointer (some ⟨db, 0, none⟩)) := by rw [World.cell?_alloc_lt _ _ _ HR.out.lt]; exact HR.out.d
  obtain ⟨W1, hW1⟩ : ∃ W1, W.alloc (.cells #[.int .i64 5, .int .i64 At, .int .i64 N] 61) = W1 := ⟨_, rfl⟩
  obtain ⟨ob, hob⟩ : ∃ ob, W.heap.size = ob := ⟨_, rfl⟩
  rw [hob] at H0
  rw [hW1] at H0 hc0 hc1
  have HG : Keep (RG W W1 rb v db a sz L L [(ob, [.int .i64 5, .int .i64 At, .int .i64 N], 61)] []) := ⟨H0⟩
  have HO : Keep (∀ (W' : World) (A B : List Int), RG W W' rb v db a sz A B [(ob, [.int .i64 5, .int .i64 At, .int .i64 N], 61)] [] → W'.cell? ⟨ob, 2, none⟩ = some (.int .i64 N)) := ⟨fun W' A B h => h.cellAt ob _ 61 (List.mem_singleton.2 rfl) 2 _ rfl⟩
  have o0 : W1.cell? ⟨ob, 0, none⟩ = some (.int .i64 5) := HG.out.cellAt ob _ 61 (List.mem_singleton.2 rfl) 0 _ rfl
  have o1 : W1.cell? ⟨ob, 1, none⟩ = some (.int .i64 At) := HG.out.cellAt ob _ 61 (List.mem_singleton.2 rfl) 1 _ rfl
  have o2 : W1.cell? ⟨ob, 2, none⟩ = some (.int .i64 N) := HG.out.cellAt ob _ 61 (List.mem_singleton.2 rfl) 2 _ rfl
  clear H0
  go_enter Try.func24, Try.ntmps24
  rcases which_or At with ⟨hwh, hat⟩ | ⟨hwh, hat⟩
  all_goals
    rw [hwh] at hc0 hc1
    go_wp2_with fail
    clear hc0 hc1 o0 o1 hW1 hob hat hwh
    obtain ⟨kk, hkk⟩ : ∃ kk, kk = (min N (L.length : Nat)).toNat := ⟨_, rfl⟩
    have HK : Keep (kk = (min N (L.length : Nat)).toNat) := ⟨hkk⟩
    clear hkk
    refine (rg_take HG.out N kk HK.out).mono ?_
    rintro e W2 ⟨rfl, h2⟩
    obtain ⟨lb, hlb⟩ : ∃ lb, W1.heap.size = lb := ⟨_, rfl⟩
    rw [hlb] at h2 ⊢
    have H2 : Keep (RG W W2 rb v db a sz (L.drop kk) L ((lb, (L.take kk).map iv, 3) :: [(ob, [.int .i64 5, .int .i64 At, .int .i64 N], 61)]) []) := ⟨h2⟩
    have o3 : W2.cell? ⟨ob, 2, none⟩ = some (.int .i64 N) := h2.cellAt ob _ 61 (by simp; rfl) 2 _ rfl
    clear h2 hlb o2 HG HO
    go_wp2_with fail
    refine (rg_dtake H2.out N kk HK.out).mono ?_
    rintro e W3 ⟨ao, co, XW, rfl, h3, hrow⟩
    obtain ⟨v', a', hs3⟩ := Sep.rg HSEP.out.1 HSEP.out.2.1 h3
    have hlo3 : lo ≤ W3.heap.size := Nat.le_trans HSEP.out.2.1 h3.f.size
    have S3 := Sep.book hs3 hlo3
    obtain ⟨Y, hY⟩ : ∃ Y, (XW ++ (lb, (L.take kk).map iv, 3) :: [(ob, [.int .i64 5, .int .i64 At, .int .i64 N], 61)]) ++ X = Y := ⟨_, rfl⟩
    rw [hY] at S3
    have hkl : kk ≤ L.length := by have := HK.out; omega
    have hin : ∀ W' : World, (∀ p ∈ Y, Has W' p.1 p.2.1 p.2.2) → Ints W' (some ⟨lb, 0, none⟩) kk (L.take kk) ∧ Ints W' ao kk (L.take kk) := fun W' hW' => by
      have e : (L.take kk).length = kk := by rw [List.length_take]; omega
      have i1 := Ints.of (hW' (lb, (L.take kk).map iv, 3) (by rw [← hY]; simp))
      have i2 := (hrow W' (fun p hp => hW' p (by rw [← hY]; simp [hp]))).ints
      rw [e] at i1 i2
      exact ⟨i1, i2⟩
    have hk4 : kk ≤ 4096 := by
      obtain ⟨_, _, c, _, d, _⟩ := H2.out.e
      have := d.le
      have := d.hi
      omega
    have htw := (S3.p _ (List.mem_cons_self ..)).2.2.2.2.2
    have hl1 : ts.length = n := by have := (S3.p _ (List.mem_cons_self ..)).1.1; omega
    have hl2 : ws.length = n := by have := (S3.p _ (List.mem_cons_self ..)).2.1.1; omega
    obtain ⟨a4, c4, W4, r4, S4, f4⟩ := S3.tell hlo3 (.slice (some ⟨lb, 0, none⟩) kk kk) rfl HSEP.out.2.2 (twins_left htw (by omega) _)
    have hlo4 : lo ≤ W4.heap.size := Nat.le_trans hlo3 f4.size
    obtain ⟨S5, f5⟩ := S4.play hlo4 4 (.slice a4 (n + 1) c4)
    have P3 : Has W3 pb [r0, r1, d0, d1, .slice ta n tc, .slice wa n wc] 57 := S3.p (playO pb _) (by simp)
    have P4 : Has W4 pb [r0, r1, d0, d1, .slice ta n tc, .slice wa n wc] 57 := S4.p (playO pb _) (by simp)
    have c34 : W3.cell? ⟨pb, 4, none⟩ = some (.slice ta n tc) := P3.cellv 4 _ rfl
    have c44 : W4.cell? ⟨pb, 4, none⟩ = some (.slice ta n tc) := P4.cellv 4 _ rfl
    have fz4 : W4.frozen? ⟨pb, 4, none⟩ = false := P4.frozen 4
    obtain ⟨W5, hW5⟩ : ∃ W5, W4.setCell ⟨pb, 4, none⟩ (.slice a4 (n + 1) c4) = W5 := ⟨_, rfl⟩
    rw [hW5] at S5 f5
    have hlo5 : lo ≤ W5.heap.size := Nat.le_trans hlo4 f5.size
    have HIN : Keep ((∀ W' : World, (∀ p ∈ Y, Has W' p.1 p.2.1 p.2.2) → Ints W' (some ⟨lb, 0, none⟩) kk (L.take kk) ∧ Ints W' ao kk (L.take kk)) ∧ kk ≤ 4096) := ⟨hin, hk4⟩
    have HF5 : Keep (Fr (fun i => lo ≤ i) W W5) := by
      refine ⟨((h3.f.mono (fun i e => .inl ?_)).trans f4).trans f5⟩
      exact HSEP.out.1.lo (pairO rb v db a sz L L) (by simp) i e
    have HS5 : Keep (Sep lo W5 (bookO lo (.slice a4 (n + 1) c4) (.slice wa n wc) (n + 1) n (ts ++ [.slice (some ⟨lb, 0, none⟩) kk kk]) ws Y :: playO pb [r0, r1, d0, d1, .slice a4 (n + 1) c4, .slice wa n wc] :: (A ++ pairO rb v' db a' sz (L.drop kk) (L.drop kk) :: B))) := ⟨S5⟩
    obtain ⟨a6, c6, W6, r6, S6, f6⟩ := S5.want hlo5 (.slice ao kk co) rfl HSEP.out.2.2 (twins_both htw (by omega) hk4 hin)
    have hlo6 : lo ≤ W6.heap.size := Nat.le_trans hlo5 f6.size
    obtain ⟨S7, f7⟩ := S6.play hlo6 5 (.slice a6 (n + 1) c6)
    have P5 : Has W5 pb [r0, r1, d0, d1, .slice a4 (n + 1) c4, .slice wa n wc] 57 := S5.p (playO pb _) (by simp)
    have P6 : Has W6 pb [r0, r1, d0, d1, .slice a4 (n + 1) c4, .slice wa n wc] 57 := S6.p (playO pb _) (by simp)
    have c55 : W5.cell? ⟨pb, 5, none⟩ = some (.slice wa n wc) := P5.cellv 5 _ rfl
    have c65 : W6.cell? ⟨pb, 5, none⟩ = some (.slice wa n wc) := P6.cellv 5 _ rfl
    have fz6 : W6.frozen? ⟨pb, 5, none⟩ = false := P6.frozen 5
    obtain ⟨W7, hW7⟩ : ∃ W7, W6.setCell ⟨pb, 5, none⟩ (.slice a6 (n + 1) c6) = W7 := ⟨_, rfl⟩
    rw [hW7] at S7 f7
    have HS7 : Keep (Sep lo W7 (bookO lo (.slice a4 (n + 1) c4) (.slice a6 (n + 1) c6) (n + 1) (n + 1) (ts ++ [.slice (some ⟨lb, 0, none⟩) kk kk]) (ws ++ [.slice ao kk co]) Y :: playO pb [r0, r1, d0, d1, .slice a4 (n + 1) c4, .slice a6 (n + 1) c6] :: (A ++ pairO rb v' db a' sz (L.drop kk) (L.drop kk) :: B)) ∧ Fr (fun i => lo ≤ i) W W7) := ⟨S7, (HF5.out.trans f6).trans f7⟩
    have HSM : Keep (Calls Try.prog 15 #[.slice (some ⟨lb, 0, none⟩) kk kk, .slice ao kk co] W7 fun e w' => e = .returned (.bool true) ∧ ∃ k, w' = W7.drewN k) := by
      obtain ⟨i1, i2⟩ := hin W7 (S7.p _ (List.mem_cons_self ..)).2.2.2.1
      refine ⟨(same_c _ _ kk kk kk co _ _ W7 i1 i2 (by omega) (by omega)).mono ?_⟩
      rintro e w' ⟨rfl, h⟩
      exact ⟨by simp, h⟩
    have R4 : Keep (_ = _) := ⟨r4⟩
    have R6 : Keep (_ = _) := ⟨r6⟩
    clear r4 r6
    clear hs3 S3 hin htw hl1 hl2 S4 S5 S6 S7 P3 P4 P5 P6 f4 f5 f6 f7 HF5 HS5 hlo3 hlo4 hlo5 hlo6 hk4 hkl hY hrow h3 H2 o3 HSEP HR HK HIN
    go_wp2_with ((first | (at_builtin; refine wpList_append_run _ rfl (.tmp 115) (.tmp 117) 55 rfl _ _ rfl rfl R4.out ?_) | (at_builtin; refine wpList_append_run _ rfl (.tmp 125) (.tmp 127) 55 rfl _ _ rfl rfl R6.out ?_)))
    refine HSM.out.mono ?_
    rintro e W8 ⟨rfl, k8, rfl⟩
    have HE : Keep (Sep lo (W7.drewN k8) (bookO lo (.slice a4 (n + 1) c4) (.slice a6 (n + 1) c6) (n + 1) (n + 1) (ts ++ [.slice (some ⟨lb, 0, none⟩) kk kk]) (ws ++ [.slice ao kk co]) Y :: playO pb [r0, r1, d0, d1, .slice a4 (n + 1) c4, .slice a6 (n + 1) c6] :: (A ++ pairO rb v' db a' sz (L.drop kk) (L.drop kk) :: B)) ∧ Fr (fun i => lo ≤ i) W (W7.drewN k8)) := ⟨HS7.out.1.grown (gr_drewN _ _ _), HS7.out.2.trans (Fr.ofNone (gr_drewN _ _ _))⟩
    clear HSM HS7
    go_wp2_with fail
    go_ret
    exact ⟨rfl, _, _, _, _, _, _, _, _, HE.out⟩
end Go.Proofs.Ytflglflggeaokaa
