import Derived.Test.YtldnpebnpbahjaaGreatDoorX11
import Derived.Laws.AppendOwnNone
import Derived.Maps.AppendAt
set_option maxRecDepth 100000
set_option maxHeartbeats 16000000
namespace Go.Proofs.YtldnpebnpbahjaaGreatDoor
open Go Go.RowKit Go.Proofs.Tryz
structure RK (w : World) : Prop where
  r : ∀ j, j < 8 → w.cell? ⟨3, j, none⟩ = some (.int .u32 (Sha.iv.getD j 0).toNat)
  c : ∀ j, j < 64 → w.cell? ⟨4, j, none⟩ = some (.int .u32 (Sha.ks.getD j 0).toNat)
theorem RK.kept {w w' : World} (h : RK w) (hg : w.grownBy w' none) : RK w' :=
  ⟨fun j hj => hg.cell (h.r j hj) (by simp), fun j hj => hg.cell (h.c j hj) (by simp)⟩
theorem RK.range {w : World} (h : RK w) : w.rangeAt 3 0 (Sha.iv.map wv) := fun j v hv => by
  have hj : j < 8 := by
    have := (List.getElem?_eq_some_iff.1 hv).1
    simpa [Sha.iv] using this
  rw [Nat.zero_add, h.r j hj, ← hv, get_map wv Sha.iv 0 j (by simpa [Sha.iv] using hj)]
theorem foldN_succ : ∀ (k : Nat) (ws : List UInt32) (t : List UInt8), Sha.foldN (k + 1) ws t = Sha.mixW (Sha.foldN k ws t) ((t.drop (64 * k)).take 64)
  | 0, ws, t => by simp [Sha.foldN]
  | k + 1, ws, t => by
    rw [Sha.foldN, foldN_succ k, Sha.foldN, List.drop_drop]
    congr 3
    omega
structure FRel (w w' : World) (M S : Nat) (all : List UInt8) (ws : List UInt32) : Prop where
  z : Has w' w.heap.size ((List.replicate 32 (0 : UInt8)).map bv) 176
  b : BytesOf w' (some ⟨M, 0, none⟩) all.length all.length all
  s : Has w' S (ws.map wv) 180
  g : w.grownBy w' none
  rk : RK w'
theorem FRel.kept {w w' w2 : World} {M S : Nat} {all : List UInt8} {ws : List UInt32} (h : FRel w w' M S all ws) (hg : w'.grownBy w2 none) : FRel w w2 M S all ws :=
  ⟨h.z.kept hg (by simp), h.b.kept hg, h.s.kept hg (by simp), h.g.trans hg, h.rk.kept hg⟩
theorem FRel.drewN {w w' : World} {M S : Nat} {all : List UInt8} {ws : List UInt32} (h : FRel w w' M S all ws) (n : Nat) : FRel w (w'.drewN n) M S all ws := h.kept (gr_drewN _ _ _)
theorem FRel.set {w w' : World} {M S : Nat} {all : List UInt8} {ws : List UInt32} (h : FRel w w' M S all ws) (hM : M ≠ S) (hN : S ≠ w.heap.size) (h12 : 5 ≤ S) (hS : w.heap.size ≤ S) (i : Nat) (x : UInt32) (v : Value) (hv : v = wv x) : FRel w (w'.setCell ⟨S, i, none⟩ v) M S all (ws.set i x) := by
  subst hv; have hg := gr_set w' S i (wv x); refine ⟨h.z.kept hg (by simp <;> omega), ?_, ?_, gr_new h.g hg hS, ⟨fun j hj => hg.cell (h.rk.r j hj) (by simp <;> omega), fun j hj => hg.cell (h.rk.c j hj) (by simp <;> omega)⟩⟩
  · refine ⟨h.b.len, h.b.cap, fun hn => ?_⟩; obtain ⟨B, o, h1, h3⟩ := h.b.at_ hn; (have e : M = B ∧ 0 = o := by simpa using h1); obtain ⟨rfl, rfl⟩ := e; exact ⟨M, 0, rfl, fun j x hx => hg.cell (h3 j x hx) (by simpa using hM)⟩
  · rw [List.map_set]; exact h.s.setCell i (wv x)
structure F1 (w w' : World) (M : Nat) (all : List UInt8) : Prop where
  z : Has w' w.heap.size ((List.replicate 32 (0 : UInt8)).map bv) 176
  b : BytesOf w' (some ⟨M, 0, none⟩) all.length all.length all
  g : w.grownBy w' none
  rk : RK w'
  lt : M < w'.heap.size
theorem F1.start (w w1 : World) (C : Array Value) (all : List UInt8) (hC : C = ((List.replicate 32 (0 : UInt8)).map bv).toArray) (hk : RK w) (h1 : Has w1 (w.alloc (.cells C 176)).heap.size (all.map bv) 5) (g1 : (w.alloc (.cells C 176)).grownBy w1 none) : F1 w w1 (w.heap.size + 1) all := by
  subst hC; rw [heap1] at h1; refine ⟨(Has.new _ _ _).kept g1 (by simp), ⟨rfl, Nat.le_refl _, fun _ => ⟨_, 0, rfl, fun j x hx => ?_⟩⟩, (gAl _ _ _).trans g1, (hk.kept (gAl _ _ _)).kept g1, h1.lt⟩; rw [Nat.zero_add, h1.cell, List.getElem?_map, hx]; rfl
theorem F1.state {w w1 : World} {M : Nat} {all : List UInt8} (h : F1 w w1 M all) (C : Array Value) (hC : C.size = 8) (w2 : World) (h2 : (w1.alloc (.cells C 180)).setCells w1.heap.size 0 (Sha.iv.map wv) = w2) : FRel w w2 M w1.heap.size all Sha.iv := by
  subst h2; have g1 := gAl w1 (.cells C 180) none; have g2 : w1.grownBy ((w1.alloc (.cells C 180)).setCells w1.heap.size 0 (Sha.iv.map wv)) none := gr_new g1 (gr_sets _ _ _ _) (Nat.le_refl _); exact ⟨h.z.kept g2 (by simp), h.b.kept g2, (Has.newA w1 C 180).setAll _ (by simp [hC, Sha.iv]), h.g.trans g2, h.rk.kept g2⟩
theorem FRel.other {w w' : World} {M S R : Nat} {all : List UInt8} {ws : List UInt32} (h : FRel w w' M S all ws) (h1 : M ≠ R) (h2 : S ≠ R) (h3 : w.heap.size < R) (h4 : 5 ≤ w.heap.size) (i : Nat) (v : Value) : FRel w (w'.setCell ⟨R, i, none⟩ v) M S all ws := by
  have hg := gr_set w' R i v; refine ⟨h.z.kept hg (by simp <;> omega), ?_, h.s.kept hg (by simp <;> omega), gr_new h.g hg (by omega), ⟨fun j hj => hg.cell (h.rk.r j hj) (by simp <;> omega), fun j hj => hg.cell (h.rk.c j hj) (by simp <;> omega)⟩⟩; refine ⟨h.b.len, h.b.cap, fun hn => ?_⟩; obtain ⟨B, o, e1, e3⟩ := h.b.at_ hn; have e : M = B ∧ 0 = o := by simpa using e1
  obtain ⟨rfl, rfl⟩ := e; exact ⟨M, 0, rfl, fun j x hx => hg.cell (e3 j x hx) (by simpa using h1)⟩
theorem out_get : ∀ (ws : List UInt32) (i : Nat), i < 4 * ws.length → (Sha.out ws).getD i 0 = (Sha.w4 (ws.getD (i / 4) 0)).getD (i % 4) 0
  | [], i, h => by simp at h
  | x :: r, i, h => by
    rw [Sha.out, List.flatMap_cons, ← Sha.out]; by_cases hi : i < 4
    · rw [show i / 4 = 0 by omega, show i % 4 = i by omega]; simp only [List.getD]; rw [List.getElem?_append_left (by rw [Sha.w4_len]; exact hi)]; rfl
    · have ih := out_get r (i - 4) (by simp at h; omega); rw [show i / 4 = (i - 4) / 4 + 1 by omega, show i % 4 = (i - 4) % 4 by omega]; simp only [List.getD] at ih ⊢; rw [List.getElem?_append_right (by rw [Sha.w4_len]; omega), Sha.w4_len, ih]; simp
theorem out_byte (ws : List UInt32) (x : UInt32) (i : Nat) (h8 : ws.length = 8) (hi : i < 32) (hx : ws.getD (i / 4) 0 = x) : (x.toNat : Int) / 2 ^ (24 - 8 * (i % 4)) % 256 = (((Sha.out ws).getD i 0).toNat : Int) := by
  rw [out_get ws i (by omega), hx]; have h : i % 4 = 0 ∨ i % 4 = 1 ∨ i % 4 = 2 ∨ i % 4 = 3 := by omega
  have hxl := x.toNat_lt; rcases h with h | h | h | h <;> rw [h]
  · show _ = ((x >>> 24).toUInt8.toNat : Int); rw [← byte24]; simp only [Nat.reduceMul, Nat.reduceSub, Int.reducePow]; omega
  · show _ = ((x >>> 16).toUInt8.toNat : Int); rw [← byte16]; simp only [Nat.reduceMul, Nat.reduceSub, Int.reducePow]
  · show _ = ((x >>> 8).toUInt8.toNat : Int); rw [← byte8]; simp only [Nat.reduceMul, Nat.reduceSub, Int.reducePow]
  · show _ = (x.toUInt8.toNat : Int); rw [← byte0]; simp only [Nat.reduceMul, Nat.reduceSub, Int.pow_zero]; omega
theorem bs1_eq (x : UInt32) : bits .xor .u32 (bits .xor .u32 ((Sha.rotr 6 x).toNat : Int) ((Sha.rotr 11 x).toNat : Int)) ((Sha.rotr 25 x).toNat : Int) = ((Sha.bs1 x).toNat : Int) := by
  rw [b_xor, b_xor]; rfl
theorem bs0_eq (x : UInt32) : bits .xor .u32 (bits .xor .u32 ((Sha.rotr 2 x).toNat : Int) ((Sha.rotr 13 x).toNat : Int)) ((Sha.rotr 22 x).toNat : Int) = ((Sha.bs0 x).toNat : Int) := by
  rw [b_xor, b_xor]; rfl
theorem all_len (t : List UInt8) : (t ++ Sha.padOf t.length).length % 64 = 0 ∧ (t ++ Sha.padOf t.length).length ≤ t.length + 128 := by
  rw [Sha.padOf]; simp only [List.length_append, List.length_cons, List.length_replicate, Sha.len8_len]; split <;> omega
theorem new_row2 (w1 : World) (L : List UInt32) (C : Array Value) (ty : TypeId) (m : Nat) (hC : C.size = m) (hL : L.length = m) (w2 : World) (h2 : (w1.alloc (.cells C ty)).setCells w1.heap.size 0 (L.map wv) = w2) :
    Has w2 w1.heap.size (L.map wv) ty ∧ w1.grownBy w2 none := by
  subst h2; refine ⟨(Has.newA w1 C ty).setAll _ (by simp [hC, hL]), ?_⟩; exact gr_new (gAl _ _ _) (gr_sets _ _ _ _) (Nat.le_refl _)
theorem rsum_any (a : Option Addr) (n c : Nat) (t : List UInt8) (w : World) (hl : BytesOf w a n c t) (hn : n ≤ 4294967296) (hrk : RK w) (hw3 : 5 ≤ w.heap.size) :
    CRt 228 #[.slice a n c] w (.agg ((Sha.sha t).map bv).toArray) := by
  have HL : Kp (BytesOf w a n c t) := ⟨hl⟩; have HRK : Kp (RK w) := ⟨hrk⟩; clear hl hrk; go_enter func228, ntmps228; obtain ⟨all, hall⟩ : ∃ x, t ++ Sha.padOf t.length = x := ⟨_, rfl⟩; have HALL : Kp (t ++ Sha.padOf t.length = all) := ⟨hall⟩; obtain ⟨I, hI⟩ : ∃ x, Sha.iv = x := ⟨_, rfl⟩; have HIV : Kp (Sha.iv = I) := ⟨hI⟩; have HIL : Kp (I.length = 8) := ⟨by rw [← hI]; rfl⟩; have HI : Kp ((prog.info? 180).map (·.size) = some (I.map wv).length) := ⟨by rw [List.length_map, HIL.out]; exact size40⟩; clear hall hI
  go_wp2_with (first
    | (go_at_call 242; refine (laid_any _ _ _ t _ (HL.out.kept (gAl _ _ _)) hn).mono ?_; rintro e w1 ⟨size, hsz, rfl, hal, hg1⟩
       rw [HALL.out] at hsz hal; have H1 : Kp (F1 w w1 (w.heap.size + 1) all ∧ size = all.length) := ⟨F1.start w w1 _ all rfl HRK.out hal hg1, hsz⟩
       clear hsz hal hg1)
    | (refine wpList_load_mid rfl 180 _ rfl 3 0 rfl (I.map wv) _ (by rw [← HIV.out]; exact H1.out.1.rk.range) under40 rfl HI.out ?_)
    | (refine wpList_store_mid rfl 180 _ _ rfl _ _ _ rfl rfl ((Has.newA w1 _ 180).there 0 _ (by rw [List.size_toArray, List.length_map, HIL.out]; decide)) HI.out (all_oneCell_toArray (by simp [Value.oneCell'])) ?_
       generalize hw2 : World.setCells _ _ _ _ = w2; have H2 : Kp (FRel w w2 (w.heap.size + 1) w1.heap.size all Sha.iv) := ⟨H1.out.1.state _ rfl w2 (by rw [← hw2, HIV.out])⟩
       clear hw2))
  have hal := all_len t; rw [HALL.out, ← H1.out.2, HL.out.len] at hal; obtain ⟨hs64, hsle⟩ := hal; have hM := H1.out.1.lt
  go_loopw [5] (fun v w' => ∃ p : Nat, p ≤ size ∧ v = .int .i64 p ∧ Kp (p % 64 = 0 ∧ FRel w w' (w.heap.size + 1) w1.heap.size all (Sha.foldN (p / 64) Sha.iv all))) (fun v _ => size - (intOf v).toNat)
  case atStart => exact ⟨0, by omega, rfl, ⟨rfl, H2.out⟩⟩
  case round =>
    obtain ⟨p, hp, rfl, hrel⟩ := hrel; by_cases hlt : p < size
    · have hp64 : p + 64 ≤ size := by have := hrel.out.1; omega
      obtain ⟨ws, hws⟩ : ∃ x, Sha.foldN (p / 64) Sha.iv all = x := ⟨_, rfl⟩; have HW : Kp (FRel w wr (w.heap.size + 1) w1.heap.size all ws) := ⟨by rw [← hws]; exact hrel.out.2⟩; have HWS : Kp (Sha.foldN (p / 64) Sha.iv all = ws ∧ p % 64 = 0) := ⟨hws, hrel.out.1⟩; have HW8 : Kp (ws.length = 8) := ⟨by rw [← hws, Sha.foldN_len]; rfl⟩; have HBY : Kp (BytesOf wr (some ⟨w.heap.size + 1, 0, none⟩) size size all) := ⟨by rw [H1.out.2]; exact HW.out.b⟩; clear hws hrel
      go_wp2_with (first
        | (go_at_call 243; refine (plan_any (w.heap.size + 1) 0 size size p all _ HBY.out hp64 (by omega)).mono ?_; rintro e w3 ⟨rfl, hg3⟩
           generalize hLq : Sha.sched ((all.drop p).take 64) = L; have HQ : Kp (Sha.sched ((all.drop p).take 64) = L) := ⟨hLq⟩; clear hLq; have HLL : Kp (L.length = 64) := ⟨by rw [← HQ.out]; exact Sha.schedTo_len _ 64⟩; have HW3 : Kp (FRel w w3 (w.heap.size + 1) w1.heap.size all ws) := ⟨HW.out.kept hg3⟩
           clear hg3)
        | (refine wpList_store_mid rfl 220 _ _ rfl _ _ _ rfl rfl ((Has.newA w3 _ 220).there 0 _ (by rw [List.size_toArray, List.length_map, HLL.out]; decide)) (by rw [List.size_toArray, List.length_map, HLL.out]; exact size50) (all_oneCell_toArray (by simp [Value.oneCell'])) ?_
           generalize hw4 : World.setCells _ _ _ _ = w4
           have H4 : Kp (Has w4 w3.heap.size (L.map wv) 220 ∧ FRel w w4 (w.heap.size + 1) w1.heap.size all ws) := ⟨by
             have h := new_row2 w3 L _ 220 64 rfl HLL.out w4 hw4
             exact ⟨h.1, HW3.out.kept h.2⟩⟩
           clear hw4))
      obtain ⟨s, hs⟩ : ∃ s, Sha.stOf ws = s := ⟨_, rfl⟩; have HST : Kp (Sha.stOf ws = s) := ⟨hs⟩; (have c0 : w4.cell? ⟨w1.heap.size, 0, none⟩ = some (.int .u32 s.a.toNat) := by rw [← hs]; exact H4.out.2.s.cellv _ _ (get_map wv ws 0 0 (by rw [HW8.out]; decide))); (have c1 : w4.cell? ⟨w1.heap.size, 1, none⟩ = some (.int .u32 s.b.toNat) := by rw [← hs]; exact H4.out.2.s.cellv _ _ (get_map wv ws 0 1 (by rw [HW8.out]; decide))); (have c2 : w4.cell? ⟨w1.heap.size, 2, none⟩ = some (.int .u32 s.c.toNat) := by rw [← hs]; exact H4.out.2.s.cellv _ _ (get_map wv ws 0 2 (by rw [HW8.out]; decide))); (have c3 : w4.cell? ⟨w1.heap.size, 3, none⟩ = some (.int .u32 s.d.toNat) := by rw [← hs]; exact H4.out.2.s.cellv _ _ (get_map wv ws 0 3 (by rw [HW8.out]; decide))); (have c4 : w4.cell? ⟨w1.heap.size, 4, none⟩ = some (.int .u32 s.e.toNat) := by rw [← hs]; exact H4.out.2.s.cellv _ _ (get_map wv ws 0 4 (by rw [HW8.out]; decide))); (have c5 : w4.cell? ⟨w1.heap.size, 5, none⟩ = some (.int .u32 s.f.toNat) := by rw [← hs]; exact H4.out.2.s.cellv _ _ (get_map wv ws 0 5 (by rw [HW8.out]; decide))); (have c6 : w4.cell? ⟨w1.heap.size, 6, none⟩ = some (.int .u32 s.g.toNat) := by rw [← hs]; exact H4.out.2.s.cellv _ _ (get_map wv ws 0 6 (by rw [HW8.out]; decide))); (have c7 : w4.cell? ⟨w1.heap.size, 7, none⟩ = some (.int .u32 s.h.toNat) := by rw [← hs]; exact H4.out.2.s.cellv _ _ (get_map wv ws 0 7 (by rw [HW8.out]; decide))); clear hs; simp only [Act.put]; go_quiet (fail)
      go_wp2
      go_loopw [7, 8, 9, 10, 11, 12, 13, 14, 15] (fun v3 v4 v5 v6 v7 v8 v9 v10 t w' => ∃ (k : Nat) (st : Sha.St), k ≤ 64 ∧ t = .int .i64 k ∧ Kp (∃ n, w' = w4.drewN n) ∧ Kp (Sha.rndTo L s k = st) ∧ v3 = .int .u32 st.a.toNat ∧ v4 = .int .u32 st.b.toNat ∧ v5 = .int .u32 st.c.toNat ∧ v6 = .int .u32 st.d.toNat ∧ v7 = .int .u32 st.e.toNat ∧ v8 = .int .u32 st.f.toNat ∧ v9 = .int .u32 st.g.toNat ∧ v10 = .int .u32 st.h.toNat) (fun _ _ _ _ _ _ _ _ t _ => 64 - (intOf t).toNat)
      case atStart => exact ⟨0, s, by omega, rfl, ⟨_, rfl⟩, ⟨rfl⟩, rfl, rfl, rfl, rfl, rfl, rfl, rfl, rfl⟩
      case round =>
        obtain ⟨k, st, hk, rfl, hwr, hst, rfl, rfl, rfl, rfl, rfl, rfl, rfl, rfl⟩ := hrel; by_cases hlk : k < 64
        · obtain ⟨kk, hkk⟩ : ∃ x, Sha.ks.getD k 0 = x := ⟨_, rfl⟩; obtain ⟨ll, hll⟩ : ∃ x, L.getD k 0 = x := ⟨_, rfl⟩; (have d0 : wr.cell? ⟨4, k, none⟩ = some (.int .u32 kk.toNat) := by obtain ⟨n, e⟩ := hwr.out; rw [← hkk, e]; exact H4.out.2.rk.c k hlk); (have d1 : wr.cell? ⟨w3.heap.size, k, none⟩ = some (.int .u32 ll.toNat) := by obtain ⟨n, e⟩ := hwr.out; rw [← hll, e]; exact H4.out.1.cellv _ _ (get_map wv L 0 k (by rw [HLL.out]; omega))); have HKK : Kp (Sha.ks.getD k 0 = kk) := ⟨hkk⟩; have HL2 : Kp (L.getD k 0 = ll) := ⟨hll⟩; clear hkk hll
          go_wp2
          go_quiet (first
            | (go_at_call_of 244 (6 : Int); exact Calls.quiet_of (turnc _ 6 6 rfl (by decide) _))
            | (go_at_call_of 244 (11 : Int); exact Calls.quiet_of (turnc _ 11 11 rfl (by decide) _))
            | (go_at_call_of 244 (25 : Int); exact Calls.quiet_of (turnc _ 25 25 rfl (by decide) _)))
          go_wp2_with (first
            | (go_at_call_of 244 (2 : Int); refine (turnc _ 2 2 rfl (by decide) _).mono ?_; rintro e w' ⟨rfl, n1, rfl⟩)
            | (go_at_call_of 244 (13 : Int); refine (turnc _ 13 13 rfl (by decide) _).mono ?_; rintro e w' ⟨rfl, n2, rfl⟩)
            | (go_at_call_of 244 (22 : Int); refine (turnc _ 22 22 rfl (by decide) _).mono ?_; rintro e w' ⟨rfl, n3, rfl⟩))
          have hx := x_eq L st k kk ll HKK.out HL2.out; have hy := y_eq st; rw [← bs1_eq] at hx; rw [← bs0_eq] at hy; refine ⟨⟨k + 1, Sha.rnd L st k, by omega, by go_num, ⟨by obtain ⟨n, e⟩ := hwr.out; exact ⟨_, by rw [e, World.drewN_drewN]⟩⟩, ⟨by rw [Sha.rndTo, hst.out]⟩, int_eq ?_, rfl, rfl, rfl, int_eq ?_, rfl, rfl, rfl⟩, ?_⟩
          · rw [hx, hy, add2]; rfl
          · rw [hx, add2]; rfl
          · simp [intOf]; omega
        · have HST2 : Kp (Sha.rndTo L s 64 = st) := ⟨by
            have hk64 : k = 64 := by omega
            rw [← hk64]; exact hst.out⟩
          have HR : Kp (FRel w wr (w.heap.size + 1) w1.heap.size all ws) := ⟨by
            obtain ⟨n, e⟩ := hwr.out
            rw [e]; exact H4.out.2.drewN n⟩
          clear hst hwr c0 c1 c2 c3 c4 c5 c6 c7
          go_wp2
          have hS : w1.heap.size < wr.heap.size := HR.out.s.lt
          have HN : Kp (Has (wr.alloc (Obj.cells #[Value.int IntKind.u32 st.a.toNat, Value.int IntKind.u32 st.b.toNat, Value.int IntKind.u32 st.c.toNat, Value.int IntKind.u32 st.d.toNat, Value.int IntKind.u32 st.e.toNat, Value.int IntKind.u32 st.f.toNat, Value.int IntKind.u32 st.g.toNat, Value.int IntKind.u32 st.h.toNat] 180)) wr.heap.size ((Sha.stList st).map wv) 180 ∧ FRel w (wr.alloc (Obj.cells #[Value.int IntKind.u32 st.a.toNat, Value.int IntKind.u32 st.b.toNat, Value.int IntKind.u32 st.c.toNat, Value.int IntKind.u32 st.d.toNat, Value.int IntKind.u32 st.e.toNat, Value.int IntKind.u32 st.f.toNat, Value.int IntKind.u32 st.g.toNat, Value.int IntKind.u32 st.h.toNat] 180)) (w.heap.size + 1) w1.heap.size all ws) :=
            ⟨Has.newA _ _ _, HR.out.kept (gAl _ _ _)⟩
          generalize wr.heap.size = Q at HN hS ⊢
          go_loopw [19] (fun v w' => ∃ i : Nat, i ≤ 8 ∧ v = .int .i64 i ∧ Kp (FRel w w' (w.heap.size + 1) w1.heap.size all (Sha.addTo ws (Sha.stList st) i) ∧ Has w' Q ((Sha.stList st).map wv) 180)) (fun v _ => 8 - (intOf v).toNat)
          case atStart => exact ⟨0, by omega, rfl, ⟨HN.out.2, HN.out.1⟩⟩
          case round =>
            obtain ⟨i, hi, rfl, hrel2⟩ := hrel; clear HN HR; by_cases hli : i < 8
            · obtain ⟨y, hy⟩ : ∃ y, (Sha.stList st).getD i 0 = y := ⟨_, rfl⟩; obtain ⟨z, hz⟩ : ∃ z, (Sha.addTo ws (Sha.stList st) i).getD i 0 = z := ⟨_, rfl⟩; (have hc : wr.cell? ⟨w1.heap.size, i, none⟩ = some (.int .u32 z.toNat) := by rw [← hz]; exact hrel2.out.1.s.cellv _ _ (get_map wv _ 0 i (by rw [Sha.addTo_len, HW8.out]; exact hli))); (have hcq : wr.cell? ⟨Q, i, none⟩ = some (.int .u32 y.toNat) := by rw [← hy]; exact hrel2.out.2.cellv _ _ (get_map wv _ 0 i (by simpa [Sha.stList] using hli))); have hf := hrel2.out.1.s.frozen i; have HY : Kp ((Sha.stList st).getD i 0 = y) := ⟨hy⟩; have HZ : Kp ((Sha.addTo ws (Sha.stList st) i).getD i 0 = z) := ⟨hz⟩; (have hli' : (i : Int) < 8 := by omega); clear hy hz
              go_wp2
              go_region
              all_goals go_wp2
              refine ⟨⟨i + 1, by omega, by go_num, ⟨?_, ?_⟩⟩, ?_⟩
              · have h := (hrel2.out.1.set (by omega) (by omega) (by omega) (by omega) i (z + y) (.int .u32 (((z.toNat : Int) + (y.toNat : Int)) % (4294967296 : Int))) (by rw [add2])).drewN 1; rw [Sha.addTo, HZ.out, HY.out]; exact h
              · exact (hrel2.out.2.other _ _ (by simp <;> omega)).drewN 1
              · simp [intOf]; omega
            · have HF : Kp (FRel w wr (w.heap.size + 1) w1.heap.size all (Sha.foldN ((p + 64) / 64) Sha.iv all)) := ⟨by
                (have hi8 : i = 8 := by omega); have h := hrel2.out.1; rw [hi8] at h
                have e : Sha.foldN ((p + 64) / 64) Sha.iv all = Sha.addTo ws (Sha.stList st) 8 := by
                  rw [show (p + 64) / 64 = p / 64 + 1 by omega, foldN_succ, HWS.out.1, show 64 * (p / 64) = p by have := HWS.out.2; omega, Sha.mixW, HQ.out, HST.out, HST2.out]
                rw [e]; exact h⟩
              have hp6 : (p + 64) % 64 = 0 := by have := HWS.out.2; omega
              clear hrel2
              go_wp2
              refine ⟨⟨p + 64, by omega, by go_num, ⟨hp6, HF.out⟩⟩, ?_⟩; simp [intOf]; omega
    · have HE : Kp (FRel w wr (w.heap.size + 1) w1.heap.size all (Sha.fold Sha.iv all)) := ⟨by
        (have hps : p = all.length := by rw [← H1.out.2]; omega); have h := hrel.out.2; rw [hps] at h
        exact h⟩
      obtain ⟨ws, hws⟩ : ∃ x, Sha.fold Sha.iv all = x := ⟨_, rfl⟩
      have HE2 : Kp (FRel w wr (w.heap.size + 1) w1.heap.size all ws ∧ ws.length = 8 ∧ Sha.sha t = Sha.out ws) := ⟨by
        rw [← hws]; exact ⟨HE.out, by rw [Sha.fold_len]; rfl, by rw [Sha.sha, HALL.out]⟩⟩
      have hS : w1.heap.size < wr.heap.size := HE2.out.1.s.lt; (have hW : w.heap.size < w1.heap.size := by omega); clear hws hrel HE
      go_wp2
      have HN : Kp (Has (wr.alloc (.cells ((List.replicate 32 (0 : UInt8)).map bv).toArray 176)) wr.heap.size ((cpTo (Sha.out ws) 32 0).map bv) 176 ∧ FRel w (wr.alloc (.cells ((List.replicate 32 (0 : UInt8)).map bv).toArray 176)) (w.heap.size + 1) w1.heap.size all ws) :=
        ⟨by
          have e : cpTo (Sha.out ws) 32 0 = List.replicate 32 0 := by simp [cpTo]
          rw [e]; exact Has.new _ _ _, HE2.out.1.kept (gAl _ _ _)⟩
      generalize wr.heap.size = R at HN hS ⊢
      go_loopw [21] (fun v w' => ∃ i : Nat, i ≤ 32 ∧ v = .int .i64 i ∧ Kp (FRel w w' (w.heap.size + 1) w1.heap.size all ws ∧ Has w' R ((cpTo (Sha.out ws) 32 i).map bv) 176)) (fun v _ => 32 - (intOf v).toNat)
      case atStart => exact ⟨0, by omega, rfl, ⟨HN.out.2, HN.out.1⟩⟩
      case round =>
        obtain ⟨i, hi, rfl, hrel2⟩ := hrel; clear HN; by_cases hli : i < 32
        · obtain ⟨x, hx⟩ : ∃ x, ws.getD (i / 4) 0 = x := ⟨_, rfl⟩; (have hol : (Sha.out ws).length = 32 := by rw [out_len, HE2.out.2.1]); (have hc : wr.cell? ⟨w1.heap.size, i / 4, none⟩ = some (.int .u32 x.toNat) := by rw [← hx]; exact hrel2.out.1.s.cellv _ _ (get_map wv _ 0 (i / 4) (by rw [HE2.out.2.1]; omega))); obtain ⟨v0, hc0⟩ := hrel2.out.2.some i (by rw [List.length_map, cpTo_len _ 32 i (by omega) (by omega)]; exact hli); have hf := hrel2.out.2.frozen i; have HX : Kp (ws.getD (i / 4) 0 = x) := ⟨hx⟩; (have hi4 : ((i : Int) / 4).toNat = i / 4 := by omega); clear hx hol
          go_wp2
          refine ⟨⟨i + 1, by omega, by go_num, ⟨hrel2.out.1.other (by omega) (by omega) (by omega) hw3 _ _, ?_⟩⟩, ?_⟩
          · (have hol : (Sha.out ws).length = 32 := by rw [out_len, HE2.out.2.1]); have h := hrel2.out.2.setCell i (bv ((Sha.out ws).getD i 0)); rw [← List.map_set, cpTo_step _ 32 i (by omega) hli] at h; rw [out_byte ws x i HE2.out.2.1 hli HX.out]; exact h
          · simp [intOf]; omega
        · have HZ : Kp (Has wr R ((Sha.out ws).map bv) 176 ∧ Has wr w.heap.size ((List.replicate 32 (0 : UInt8)).map bv) 176 ∧ w.grownBy wr none ∧ (Sha.out ws).length = 32) := ⟨by
            (have hi32 : i = 32 := by omega); (have hol : (Sha.out ws).length = 32 := by rw [out_len, HE2.out.2.1]); have h := hrel2.out.2; rw [hi32, cpTo, List.take_of_length_le (by omega), Nat.sub_self, List.replicate_zero, List.append_nil] at h
            exact ⟨h, hrel2.out.1.z, hrel2.out.1.g, hol⟩⟩
          have HIo : Kp ((prog.info? 176).map (·.size) = some ((Sha.out ws).map bv).length) := ⟨by rw [List.length_map, HZ.out.2.2.2]; exact size25⟩; clear hrel2
          go_wp2_with (first
            | (refine wpList_load_mid rfl 176 _ rfl _ _ rfl _ _ HZ.out.1.range under25 rfl HIo.out ?_)
            | (refine wpList_store_mid rfl 176 _ _ rfl _ _ _ rfl rfl (HZ.out.2.1.there 0 _ (by simp [HZ.out.2.2.2])) HIo.out (bytes_one _) ?_))
          refine ret_cell (b := w.heap.size) (cs := (Sha.out ws).map bv) (t := 176) rfl rfl ?_ under25 rfl HIo.out rfl ⟨by rw [HE2.out.2.2], ?_⟩
          · exact HZ.out.2.1.setAll _ (by simp [HZ.out.2.2.2])
          · exact gr_new HZ.out.2.2.1 (gr_sets _ _ _ _) (Nat.le_refl _)
theorem app28 (w : World) (base : Nat) (v : Value) (n : Nat) (xs : List Value) (a : Option Addr) (m c : Nat) (q : List UInt8) (hown : w.ownsRow base 5 1 v n xs) (hq : BytesOf w a m c q) (hnil : a = none → c = 0) (hsz : n + m ≤ 140737488355328) (hbase : base ≤ w.heap.size) :
    ∃ v' w', (Builtin.append_ #[60, 60] 60 #[v, .slice a m c]).run prog w = .ok v' w' ∧ w'.ownsRow base 5 1 v' (n + m) (xs ++ q.map bv) ∧ w.grownBy w' v.ownBlock := by
  have hi : ∃ i, prog.info? 5 = some i ∧ i.size = 1 ∧ i.bytes = 1 ∧ i.zero = some (.int .u8 0) := by
    (have h : (prog.info? 5).map (fun i => (i.size, i.bytes, i.zero)) = some (1, 1, some (.int .u8 0)) := by kernel_rfl); cases hq : prog.info? 5 with
    | none => simp [hq] at h
    | some i =>
      simp only [hq, Option.map_some, Option.some.injEq, Prod.mk.injEq] at h; exact ⟨i, rfl, h.1, h.2.1, h.2.2⟩
  obtain ⟨i, h1, h2, h3, h4⟩ := hi; cases a with
  | none =>
    have hc := hnil rfl
    have hm : m = 0 := by
      rcases Nat.eq_zero_or_pos m with h | h
      · exact h
      · obtain ⟨B, o, e, _⟩ := hq.at_ h; cases e
    have hq0 : q = [] := List.length_eq_zero_iff.1 (by rw [hq.len]; exact hm); subst hc hm hq0; exact ⟨v, w, run_append_owned_none (P := prog) w base 60 60 5 i 1 under28 h1 v n xs hown, by simpa using hown, World.grownBy.refl _ _⟩
  | some ad =>
    obtain ⟨v', w', r1, r2, r3, _⟩ := run_append_own (P := prog) w base 60 60 5 i (.int .u8 0) 1 1 under28 h1 h4 h2 h3 rfl (by decide) v n xs hown ad m c (q.map bv) (by rw [List.length_map, hq.len, Nat.mul_one]) (fun j u hu => by
        rw [List.getElem?_map] at hu; cases hx : q[j]? with
        | none => rw [hx] at hu; cases hu
        | some x =>
          rw [hx] at hu; obtain rfl := Option.some.inj hu; have hjl := (List.getElem?_eq_some_iff.1 hx).1; obtain ⟨B, o, e, h⟩ := hq.at_ (by rw [← hq.len]; omega); obtain rfl := Option.some.inj e
          rw [Addr.add_mid]; exact h j x hx)
      (fun u hu => by obtain ⟨x, _, rfl⟩ := List.mem_map.1 hu; rfl) (by unfold maxLen; omega) (by omega) hbase
    exact ⟨v', w', r1, r2, r3⟩
theorem own_bytes {w : World} {base n : Nat} {v : Value} {q : List UInt8} (h : w.ownsRow base 5 1 v n (q.map bv)) : ∃ a c, v = .slice a n c ∧ BytesOf w a n c q ∧ (a = none → c = 0) := by
  obtain ⟨hl, hc⟩ := h; have hn : q.length = n := by rw [List.length_map, Nat.mul_one] at hl; exact hl
  rcases hc with ⟨rfl, rfl⟩ | ⟨g, cap, cur, rfl, hb, hheap, h1, h2, h3, h4⟩
  · exact ⟨none, 0, rfl, ⟨hn, Nat.le_refl _, fun h => by omega⟩, fun _ => rfl⟩
  · refine ⟨_, cap, rfl, ⟨hn, h1, fun _ => ⟨g, 0, rfl, fun j x hx => ?_⟩⟩, fun h => by cases h⟩; (have hj : j < n := by rw [← hn]; exact (List.getElem?_eq_some_iff.1 hx).1); (have e : (q.map bv)[j]? = some (bv x) := by rw [List.getElem?_map, hx]; rfl); rw [← h4, List.getElem?_take, if_pos (by omega)] at e; simp only [World.cell?, hheap, Nat.zero_add]
    simpa using e
theorem wpList_append_run {P : Program} (w : World) {ops : Array Oper} {rest : List Oper} {o : Oper} {a : Act} {Q : Exit → Act → World → Prop} (hgd : o.guard = none) (s x : Operand) (t : TypeId)
    (ho : o.op = .call { callee := .builtin .append, args := #[s, x], argTypes := #[t, t] }) (v u : Value) (hs : a.eval s = v) (hx : a.eval x = u) {v' : Value} {w' : World}
    (hr : (Builtin.append_ #[t, t] o.type #[v, u]).run P w = .ok v' w') (h : wpList P ops Q rest (a.put o.dst v') w') : wpList P ops Q (o :: rest) a w :=
  wpList_plain hgd fun _ hK => by
    unfold Oper.wp execOp; simp only [ho, resolve, invoke, builtin, Sem.run_bind, Sem.run_pure, Result.andThen_ok, List.map_toArray, List.map_cons, List.map_nil, hs, hx, hr]; exact hK _ _ h
theorem gr_row {w w1 w2 : World} {row : Option Nat} (h : w.grownBy w1 none) (k : w1.grownBy w2 row) (hr : ∀ j, row = some j → w.heap.size ≤ j) : w.grownBy w2 none :=
  ⟨k.os.trans h.os, k.tape.trans h.tape, k.output.trans h.output, Nat.le_trans h.size k.size, fun i hi _ => by
    rw [k.block i (by have := h.size; omega) (by intro e; have := hr i e.symm; omega), h.block i hi (by simp)]⟩
structure ORel (w w' : World) (v : Value) (q : List UInt8) : Prop where
  z : Has w' w.heap.size ((List.replicate 32 (0 : UInt8)).map bv) 176
  o : w'.ownsRow (w.heap.size + 1) 5 1 v q.length (q.map bv)
  g : w.grownBy w' none
theorem ORel.app {w w' w2 : World} {v v' : Value} {q r : List UInt8} (h : ORel w w' v q) (ho : w2.ownsRow (w.heap.size + 1) 5 1 v' (q.length + r.length) (q.map bv ++ r.map bv)) (hg : w'.grownBy w2 v.ownBlock) : ORel w w2 v' (q ++ r) := by
  have hlt := h.o.lt; refine ⟨?_, ?_, gr_row h.g hg (fun j hj => by have := (hlt j hj).1; omega)⟩
  · refine h.z.kept hg (fun e => ?_); have := (hlt _ e.symm).1; omega
  · rw [List.length_append, List.map_append]; exact ho
theorem rof_any (a : Option Addr) (n c : Nat) (ps : List (List UInt8)) (w : World) (hp : Parts w a n ps) (hnil : ∀ B o, a = some ⟨B, o, none⟩ → ∀ j a' n' c', j < n → w.cell? ⟨B, o + j, none⟩ = some (.slice a' n' c') → a' = none → c' = 0)
    (hrk : RK w) (hw3 : 5 ≤ w.heap.size) (hn : n ≤ 4611686018427387904) (hT : ps.flatten.length ≤ 4294967296) :
    CRt 206 #[.slice a n c] w (.agg ((Sha.sha ps.flatten).map bv).toArray) := by
  have HPS : Kp (Parts w a n ps ∧ ∀ B o, a = some ⟨B, o, none⟩ → ∀ j a' n' c', j < n → w.cell? ⟨B, o + j, none⟩ = some (.slice a' n' c') → a' = none → c' = 0) := ⟨hp, hnil⟩; have HRK : Kp (RK w) := ⟨hrk⟩; have HT : Kp (ps.flatten.length ≤ 4294967296) := ⟨hT⟩; clear hp hrk hT hnil; go_enter func206, ntmps206
  go_wp2
  go_loopw [3, 4] (fun v t w' => ∃ (i : Nat) (a' : Option Addr) (m c' : Nat), i ≤ n ∧ t = .int .i64 i ∧ v = .slice a' m c' ∧ Kp (ORel w w' (.slice a' m c') (ps.take i).flatten)) (fun _ t _ => n - (intOf t).toNat)
  case atStart => exact ⟨0, none, 0, 0, by omega, rfl, rfl, ⟨Has.new _ _ _, World.ownsRow_nil _ _ _ _, gAl _ _ _⟩⟩
  case round =>
    obtain ⟨i, a', m, c', hi, rfl, rfl, hrel⟩ := hrel; by_cases hli : i < n
    · obtain ⟨B, o, rfl, hat⟩ := HPS.out.1.at_ (by omega); have hpl := HPS.out.1.len; obtain ⟨a2, n2, c2, hcell, hby⟩ := hat i (ps[i]'(by omega)) (List.getElem?_eq_getElem (by omega)); have hc : wr.cell? ⟨B, o + i, none⟩ = some (.slice a2 n2 c2) := hrel.out.g.cell hcell (by simp); have hnl : a2 = none → c2 = 0 := HPS.out.2 B o rfl i a2 n2 c2 hli hcell
      have hle : (ps.take i).flatten.length + (ps[i]'(by omega)).length ≤ 4294967296 := by
        have h1 := flat_le ps (i + 1); have h2 := HT.out; rw [take_flat ps i (by omega), List.length_append] at h1; omega
      obtain ⟨v', w', hap, hown, hgr⟩ := app28 wr (w.heap.size + 1) _ _ _ a2 n2 c2 (ps[i]'(by omega)) hrel.out.o (hby.kept hrel.out.g) hnl (by rw [← hby.len]; omega) (by have := hrel.out.z.lt; omega)
      have H2 : ORel w w' v' (ps.take (i + 1)).flatten := by
        rw [take_flat ps i (by omega)]; rw [← hby.len] at hown; exact hrel.out.app hown hgr
      obtain ⟨a3, c3, rfl, _, _⟩ := own_bytes H2.o; obtain ⟨m3, hm3⟩ : ∃ x, (ps.take (i + 1)).flatten.length = x := ⟨_, rfl⟩; have H3 : Kp (ORel w w' (.slice a3 m3 c3) (ps.take (i + 1)).flatten) := ⟨by rw [← hm3]; exact H2⟩; have HAP : Kp ((Builtin.append_ #[60, 60] 60 #[.slice a' m c', .slice a2 n2 c2]).run prog wr = .ok (.slice a3 m3 c3) w') := ⟨by rw [← hm3]; exact hap⟩; clear hat hcell hby hnl hown hgr H2 hle hrel hap hm3
      go_wp2_with (at_builtin; refine wpList_append_run _ rfl _ _ 60 rfl _ _ rfl rfl HAP.out ?_)
      refine ⟨⟨i + 1, _, _, _, by omega, by go_num, rfl, H3⟩, ?_⟩; simp [intOf]; omega
    · have HE : Kp (ORel w wr (.slice a' m c') ps.flatten ∧ m = ps.flatten.length) := ⟨by
        (have hin : i = ps.length := by rw [HPS.out.1.len]; omega); have h := hrel.out; rw [hin, List.take_length] at h; obtain ⟨a3, c3, e, _, _⟩ := own_bytes h.o
        exact ⟨h, by injection e⟩⟩
      have HB : Kp (BytesOf wr a' m c' ps.flatten) := ⟨by
        obtain ⟨a3, c3, e, h2, _⟩ := own_bytes HE.out.1.o; injection e with e1 e2 e3
        subst e1 e3
        rw [HE.out.2]; exact h2⟩
      (have hm : m ≤ 4294967296 := by rw [HE.out.2]; exact HT.out); have HKr : Kp (RK wr ∧ 5 ≤ wr.heap.size) := ⟨HRK.out.kept HE.out.1.g, by have := HE.out.1.g.size; omega⟩; clear hrel
      go_wp2_with (first
        | (go_at_call 228; refine (rsum_any _ _ _ ps.flatten _ HB.out hm HKr.out.1 HKr.out.2).mono ?_; rintro e w3 ⟨rfl, g3⟩
           (have hsl : (Sha.sha ps.flatten).length = 32 := by rw [Sha.sha, out_len, Sha.fold_len]; rfl); generalize hsv : Sha.sha ps.flatten = S at hsl ⊢; have HSV : Kp (Sha.sha ps.flatten = S) := ⟨hsv⟩; have H4 : Kp (Has w3 w.heap.size ((List.replicate 32 (0 : UInt8)).map bv) 176 ∧ w.grownBy w3 none) := ⟨HE.out.1.z.kept g3 (by simp), HE.out.1.g.trans g3⟩; have HSS : Kp ((prog.info? 176).map (·.size) = some (S.map bv).length ∧ (S.map bv).length = 32) := ⟨by rw [List.length_map, hsl]; exact ⟨size25, rfl⟩⟩
           clear g3 hsv hsl)
        | (refine wpList_store_mid rfl 176 _ _ rfl _ _ _ rfl rfl (H4.out.1.there 0 _ (by rw [List.size_toArray, HSS.out.2]; simp)) HSS.out.1 (bytes_one _) ?_))
      refine ret_cell (b := w.heap.size) (cs := S.map bv) (t := 176) rfl rfl ?_ under25 rfl HSS.out.1 rfl ⟨by rw [HSV.out], ?_⟩
      · exact H4.out.1.setAll _ (by rw [HSS.out.2]; simp)
      · exact gr_new H4.out.2 (gr_sets _ _ _ _) (Nat.le_refl _)
theorem parts_one (w : World) (a : Option Addr) (n c : Nat) (q : List UInt8) (hq : BytesOf w a n c q) : Parts (w.alloc (.cells #[.slice a n c] 60)) (some ⟨w.heap.size, 0, none⟩) 1 [q] := by
  refine ⟨rfl, fun _ => ⟨_, 0, rfl, fun j p hp => ?_⟩⟩
  match j, hp with
  | 0, hp =>
    (obtain rfl : q = p := by simpa using hp); refine ⟨a, n, c, ?_, hq.kept (gAl _ _ _)⟩; rw [(Has.newA w #[.slice a n c] 60).cell]; rfl
  | j + 1, hp => simp at hp
def shaB (s : ByteArray) : ByteArray := ⟨(Sha.sha (sl s)).toArray⟩
structure HR (w0 w' : World) (K : List UInt8) (vi vo : Value) (i : Nat) : Prop where
  oi : w'.ownsRow w0.heap.size 5 1 vi i ((Mac.kx 54 (K.take i)).map bv)
  oo : w'.ownsRow w0.heap.size 5 1 vo i ((Mac.kx 92 (K.take i)).map bv)
  ne : ∀ b, vi.ownBlock = some b → vo.ownBlock ≠ some b
  g : w0.grownBy w' none
theorem kx_snoc (K : List UInt8) (x y : UInt8) (i : Nat) (hy : K[i]? = some y) : Mac.kx x (K.take i) ++ [y ^^^ x] = Mac.kx x (K.take (i + 1)) := by
  obtain ⟨h1, e1⟩ := List.getElem?_eq_some_iff.1 hy; rw [List.take_succ_eq_append_getElem h1, e1, Mac.kx, Mac.kx, List.map_append]; rfl
theorem HR.bytes {w0 w' : World} {K : List UInt8} {ai ao : Option Addr} {ci co : Nat} (h : HR w0 w' K (.slice ai 64 ci) (.slice ao 64 co) 64) (hK : K.length = 64) : BytesOf w' ai 64 ci (Mac.kx 54 K) ∧ BytesOf w' ao 64 co (Mac.kx 92 K) ∧ ai ≠ none ∧ ao ≠ none := by
  obtain ⟨oi, oo, _, _⟩ := h; rw [List.take_of_length_le (by omega)] at oi oo; obtain ⟨a1, c1, e1, b1, n1⟩ := own_bytes oi; obtain ⟨a2, c2, e2, b2, n2⟩ := own_bytes oo; injection e1 with x1 x2 x3
  injection e2 with y1 y2 y3
  subst x1 x3 y1 y3; refine ⟨b1, b2, fun e => ?_, fun e => ?_⟩
  · obtain ⟨B, o, e', _⟩ := b1.at_ (by decide); rw [e] at e'; cases e'
  · obtain ⟨B, o, e', _⟩ := b2.at_ (by decide); rw [e] at e'; cases e'
theorem key_at (kb : ByteArray) (h : kb.size ≤ 64) (i : Nat) (hi : i < 64) : ∃ y, (Mac.keyOf (sl kb))[i]? = some y ∧ (i < kb.size → (sl kb)[i]? = some y) ∧ (¬ i < kb.size → y = 0) := by
  have hl := sl_len kb; unfold Mac.keyOf; rw [if_pos (by omega)]; by_cases hk : i < kb.size
  · refine ⟨kb[i], ?_, fun _ => sl_at kb i hk, fun h => absurd hk h⟩; rw [List.getElem?_append_left (by omega), sl_at kb i hk]
  · refine ⟨0, ?_, fun h => absurd h hk, fun _ => rfl⟩; rw [List.getElem?_append_right (by omega), List.getElem?_replicate, if_pos (by omega)]
theorem shaB_sl (s : ByteArray) : sl (shaB s) = Sha.sha (sl s) := sl_mk _
theorem shaB_size (s : ByteArray) : (shaB s).size = 32 := by
  rw [← sl_len, shaB, sl_mk (Sha.sha (sl s)), Mac.sha_len]
theorem hmac_eq (key text : ByteArray) (K : List UInt8) (ib ob : ByteArray) (hK : Mac.keyOf (sl key) = K) (hi : ByteArray.mk (Mac.kx 54 K).toArray = ib) (ho : ByteArray.mk (Mac.kx 92 K).toArray = ob) : shaB (ob ++ shaB (ib ++ text)) = hmacB key text := by
  subst hi ho hK; apply sl_inj; rw [hmacB_sl, shaB_sl, sl_app, shaB_sl, sl_app, sl_mk (Mac.kx 54 (Mac.keyOf (sl key))), sl_mk (Mac.kx 92 (Mac.keyOf (sl key))), Mac.hmac]
theorem some_nil (W : World) (ad : Addr) (n c : Nat) : ∀ B o, (some ⟨W.heap.size, 0, none⟩ : Option Addr) = some ⟨B, o, none⟩ → ∀ j a' n' c', j < 1 → (W.alloc (.cells #[.slice (some ad) n c] 60)).cell? ⟨B, o + j, none⟩ = some (.slice a' n' c') → a' = none → c' = 0 := by
  intro B o e j a' n' c' hj hc hn; have e' : W.heap.size = B ∧ 0 = o := by simpa using e
  obtain ⟨rfl, rfl⟩ := e'; obtain rfl : j = 0 := by omega
  rw [(Has.newA W #[.slice (some ad) n c] 60).cell] at hc; have hc' : Value.slice (some ad) n c = Value.slice a' n' c' := by simpa using hc
  injection hc' with e1 e2 e3
  rw [hn] at e1; cases e1
theorem rlsum_any (s : ByteArray) (w : World) (hk : RK w) (h3 : 5 ≤ w.heap.size) (hs : s.size ≤ 4294967296) :
    CRt 169 #[.string s] w (.string (shaB s)) := by
  have HK : Kp (RK w) := ⟨hk⟩; clear hk; have hc1 := cvt s
  have HP : Kp (Parts ((Lib.bytesWorld w 5 s).alloc (.cells #[.slice (some ⟨w.heap.size, 0, none⟩) s.size (grownCap w s.size 0 5)] 60)) (some ⟨(Lib.bytesWorld w 5 s).heap.size, 0, none⟩) 1 [sl s] ∧ w.grownBy ((Lib.bytesWorld w 5 s).alloc (.cells #[.slice (some ⟨w.heap.size, 0, none⟩) s.size (grownCap w s.size 0 5)] 60)) none) :=
    ⟨parts_one _ _ _ _ _ (bytes_of w s _ (grownCap_ge w s.size 0 5)), (gr_bytes w s).trans (gAl _ _ _)⟩
  have HL : Kp ([sl s].flatten = sl s ∧ (sl s).length ≤ 4294967296 ∧ (Sha.sha (sl s)).length = 32) := ⟨by simp, by rw [sl_len]; exact hs, Mac.sha_len _⟩; go_enter func169, ntmps169; go_wp2_with fail; refine (rof_any _ 1 1 [sl s] _ HP.out.1 (some_nil _ _ _ _) (HK.out.kept HP.out.2) (Nat.le_trans h3 HP.out.2.size) (by decide) (by rw [HL.out.1]; exact HL.out.2.1)).mono ?_; rintro e w1 ⟨rfl, g1⟩; have H1 : Kp (w.grownBy w1 none) := ⟨HP.out.2.trans g1⟩; rw [HL.out.1]; have HS3 : Kp ((Sha.sha (sl s)).length = 32) := ⟨HL.out.2.2⟩; generalize hs4 : Sha.sha (sl s) = S4 at HS3 ⊢; have HS4 : Kp (Sha.sha (sl s) = S4) := ⟨hs4⟩; clear g1 hs4 HP HL
  go_wp2_with (
    (refine wpList_store_mid rfl 176 _ _ rfl _ _ _ rfl rfl ((Has.newA w1 _ 176).there 0 _ (by rw [List.size_toArray, List.length_map, HS3.out]; decide)) (info36 S4 HS3.out) (bytes_one _) ?_
     generalize hw6 : World.setCells _ _ _ _ = w6; obtain ⟨h6, g6⟩ := sumVar w1 _ rfl S4 HS3.out w6 hw6; have hcv := str_back w6 w1.heap.size S4 HS3.out h6; have H6 : Kp (w.grownBy w6 none) := ⟨H1.out.trans g6⟩
     clear h6 g6 hw6))
  go_ret; exact ⟨by rw [shaB, HS4.out]; rfl, H6.out⟩
structure BK (w0 w' : World) (b : Nat) (K : List UInt8) (x : UInt8) (i : Nat) : Prop where
  r : Has w' b ((Mac.kx x (K.take i) ++ List.replicate (64 - i) 0).map bv) 5
  g : w0.grownBy w' none
  hb : w0.heap.size ≤ b
theorem zero_set (K : List UInt8) (x y : UInt8) (i : Nat) (hi : i < 64) (hy : K[i]? = some y) : (Mac.kx x (K.take i) ++ List.replicate (64 - i) 0).set i (y ^^^ x) = Mac.kx x (K.take (i + 1)) ++ List.replicate (64 - (i + 1)) 0 := by
  obtain ⟨h1, e1⟩ := List.getElem?_eq_some_iff.1 hy; have hl : (Mac.kx x (K.take i)).length = i := by rw [Mac.kx_len, List.length_take]; omega
  rw [List.set_append_right _ _ (by omega), hl, Nat.sub_self, show 64 - i = (64 - (i + 1)) + 1 by omega, List.replicate_succ, List.set_cons_zero, ← kx_snoc K x y i hy, List.append_assoc]; rfl
theorem zero_at (K : List UInt8) (x : UInt8) (i : Nat) (hi : i < 64) (hK : i ≤ K.length) : (Mac.kx x (K.take i) ++ List.replicate (64 - i) 0)[i]? = some 0 := by
  have hl : (Mac.kx x (K.take i)).length = i := by rw [Mac.kx_len, List.length_take]; omega
  rw [List.getElem?_append_right (by omega), hl, Nat.sub_self, List.getElem?_replicate, if_pos (by omega)]
theorem BK.step {w0 w' : World} {b : Nat} {K : List UInt8} {x : UInt8} {i : Nat} (h : BK w0 w' b K x i) (hi : i < 64) (y : UInt8) (hy : K[i]? = some y) (v : UInt8) (hv : y ^^^ x = v) : BK w0 (w'.setCell ⟨b, i, none⟩ (.int .u8 v.toNat)) b K x (i + 1) := by
  have h2 := h.r.setCell i (bv v); rw [← List.map_set, ← hv, zero_set K x y i hi hy, hv] at h2; exact ⟨h2, gr_new h.g (gr_set _ _ _ _) h.hb, h.hb⟩
theorem BK.step2 {w0 w' : World} {b : Nat} {K : List UInt8} {x : UInt8} {i : Nat} (h : BK w0 w' b K x i) (hi : i < 64) (y : UInt8) (hy : K[i]? = some y) (v : UInt8) (hv : y ^^^ x = v) : BK w0 ((w'.setCell ⟨b, i, none⟩ (.int .u8 y.toNat)).setCell ⟨b, i, none⟩ (.int .u8 v.toNat)) b K x (i + 1) := by
  have h2 := (h.r.setCell i (bv y)).setCell i (bv v); rw [List.set_set, ← List.map_set, ← hv, zero_set K x y i hi hy, hv] at h2; exact ⟨h2, gr_new h.g ((gr_set _ _ _ _).trans (gr_set _ _ _ _)) h.hb, h.hb⟩
theorem block_any (key : ByteArray) (x : UInt8) (w : World) (hk : RK w) (h3 : 5 ≤ w.heap.size) (hs : key.size ≤ 4294967296) :
    CRt 170 #[.string key, .int .u8 x.toNat] w (.string ⟨(Mac.kx x (Mac.keyOf (sl key))).toArray⟩) := by
  have HK : Kp (RK w) := ⟨hk⟩; clear hk; obtain ⟨K, hK⟩ : ∃ K, Mac.keyOf (sl key) = K := ⟨_, rfl⟩; have HKL : Kp (K.length = 64) := ⟨by rw [← hK]; exact Mac.keyOf_len _⟩; have HKE : Kp (Mac.keyOf (sl key) = K) := ⟨hK⟩; rw [hK]; clear hK; have hmk := make28 64 (by decide); have HZ : Kp (∀ W : World, Has (W.alloc (.cells ((List.replicate 64 (0 : UInt8)).map bv).toArray 5)) W.heap.size ((List.replicate 64 (0 : UInt8)).map bv) 5) := ⟨fun W => Has.new _ _ _⟩; generalize ((List.replicate 64 (0 : UInt8)).map bv).toArray = Z at hmk HZ; have hmk' : ∀ W : World, (Instr.makeSlice 60 (.int .i64 64) (.int .i64 64)).run prog W = .ok (.slice (some ⟨W.heap.size, 0, none⟩) 64 64) (W.alloc (.cells Z 5)) := hmk; clear hmk; go_enter func170, ntmps170; by_cases hk64 : key.size ≤ 64
  · have G0 : Kp (w.grownBy w none) := ⟨World.grownBy.refl _ _⟩; go_wp2_with fail
    go_loopw [6] (fun t w' => ∃ i : Nat, i ≤ 64 ∧ t = .int .i64 i ∧ Kp (BK w w' w.heap.size K x i)) (fun t _ => 64 - (intOf t).toNat)
    case atStart => exact ⟨0, by omega, rfl, ⟨HZ.out _, G0.out.trans (gAl _ _ _), G0.out.size⟩⟩
    case round =>
      obtain ⟨i, hi, rfl, hrel⟩ := hrel; by_cases hli : i < 64
      · obtain ⟨y, hy, hy1, hy2⟩ := key_at key hk64 i hli; rw [HKE.out] at hy; obtain ⟨v, hv⟩ : ∃ v, y ^^^ x = v := ⟨_, rfl⟩; (have c1 : bits .xor .u8 (y.toNat : Int) (x.toNat : Int) = (v.toNat : Int) := by rw [← hv]; exact c_xor y x); have hf := hrel.out.r.frozen i; have hc0 : wr.cell? ⟨w.heap.size, i, none⟩ = some (.int .u8 0) := hrel.out.r.cellv i _ (by rw [List.getElem?_map, zero_at K x i hli (by rw [HKL.out]; exact hi)]; rfl); have H1 : Kp (BK w (wr.setCell ⟨w.heap.size, i, none⟩ (.int .u8 v.toNat)) w.heap.size K x (i + 1)) := ⟨hrel.out.step hli y hy v hv⟩; have H2 : Kp (BK w ((wr.setCell ⟨w.heap.size, i, none⟩ (.int .u8 y.toNat)).setCell ⟨w.heap.size, i, none⟩ (.int .u8 v.toNat)) w.heap.size K x (i + 1)) := ⟨hrel.out.step2 hli y hy v hv⟩; by_cases hky : i < key.size
        · have hix := idx9 key i y hky (hy1 hky); have hc1 : (wr.setCell ⟨w.heap.size, i, none⟩ (.int .u8 y.toNat)).cell? ⟨w.heap.size, i, none⟩ = some (.int .u8 y.toNat) := (hrel.out.r.setCell i (bv y)).cellv i _ (by rw [List.getElem?_set_self (by rw [List.length_map, List.length_append, Mac.kx_len, List.length_take, HKL.out, List.length_replicate]; omega)]); have hf1 := (hrel.out.r.setCell i (bv y)).frozen i; clear hy1 hy2 hv hrel hy
          go_wp2
          refine ⟨⟨i + 1, by omega, by go_num, H2⟩, ?_⟩; simp [intOf]; omega
        · obtain rfl := hy2 hky; have c0 : bits .xor .u8 0 (x.toNat : Int) = (v.toNat : Int) := c1; clear c1 hy1 hy2 hv hrel hy
          go_wp2
          refine ⟨⟨i + 1, by omega, by go_num, H1⟩, ?_⟩; simp [intOf]; omega
      · obtain rfl : i = 64 := by omega
        have hbe : BytesOf wr (some ⟨w.heap.size, 0, none⟩) 64 64 (Mac.kx x K) := by
          have h := hrel.out.r; rw [List.take_of_length_le (by rw [HKL.out]; decide), Nat.sub_self, List.replicate_zero, List.append_nil] at h; exact ⟨by rw [Mac.kx_len, HKL.out], Nat.le_refl _, fun _ => ⟨_, 0, rfl, fun j z hz => by rw [Nat.zero_add]; exact h.cellv j _ (by rw [List.getElem?_map, hz]; rfl)⟩⟩
        have hcv := cvt_back _ _ _ _ _ hbe (by simp); have H9 : Kp (w.grownBy wr none) := ⟨hrel.out.g⟩; clear hrel hbe
        go_wp2
        go_ret; exact ⟨rfl, H9.out⟩
  · go_wp2_with fail; refine (rlsum_any key _ HK.out h3 hs).mono ?_; rintro e w1 ⟨rfl, g1⟩; have G0 : Kp (w.grownBy w1 none) := ⟨g1⟩; (have hkb : (shaB key).size ≤ 64 := by rw [shaB_size]; decide); have HKB : Kp (Mac.keyOf (sl (shaB key)) = K) := ⟨by rw [← HKE.out, shaB_sl]; exact Mac.keyOf_sum _ (by rw [sl_len]; omega)⟩; generalize shaB key = kb at hkb HKB ⊢; clear g1; go_wp2_with fail
    go_loopw [6] (fun t w' => ∃ i : Nat, i ≤ 64 ∧ t = .int .i64 i ∧ Kp (BK w w' w1.heap.size K x i)) (fun t _ => 64 - (intOf t).toNat)
    case atStart => exact ⟨0, by omega, rfl, ⟨HZ.out _, G0.out.trans (gAl _ _ _), G0.out.size⟩⟩
    case round =>
      obtain ⟨i, hi, rfl, hrel⟩ := hrel; by_cases hli : i < 64
      · obtain ⟨y, hy, hy1, hy2⟩ := key_at kb hkb i hli; rw [HKB.out] at hy; obtain ⟨v, hv⟩ : ∃ v, y ^^^ x = v := ⟨_, rfl⟩; (have c1 : bits .xor .u8 (y.toNat : Int) (x.toNat : Int) = (v.toNat : Int) := by rw [← hv]; exact c_xor y x); have hf := hrel.out.r.frozen i; have hc0 : wr.cell? ⟨w1.heap.size, i, none⟩ = some (.int .u8 0) := hrel.out.r.cellv i _ (by rw [List.getElem?_map, zero_at K x i hli (by rw [HKL.out]; exact hi)]; rfl); have H1 : Kp (BK w (wr.setCell ⟨w1.heap.size, i, none⟩ (.int .u8 v.toNat)) w1.heap.size K x (i + 1)) := ⟨hrel.out.step hli y hy v hv⟩; have H2 : Kp (BK w ((wr.setCell ⟨w1.heap.size, i, none⟩ (.int .u8 y.toNat)).setCell ⟨w1.heap.size, i, none⟩ (.int .u8 v.toNat)) w1.heap.size K x (i + 1)) := ⟨hrel.out.step2 hli y hy v hv⟩; by_cases hky : i < kb.size
        · have hix := idx9 kb i y hky (hy1 hky); have hc1 : (wr.setCell ⟨w1.heap.size, i, none⟩ (.int .u8 y.toNat)).cell? ⟨w1.heap.size, i, none⟩ = some (.int .u8 y.toNat) := (hrel.out.r.setCell i (bv y)).cellv i _ (by rw [List.getElem?_set_self (by rw [List.length_map, List.length_append, Mac.kx_len, List.length_take, HKL.out, List.length_replicate]; omega)]); have hf1 := (hrel.out.r.setCell i (bv y)).frozen i; clear hy1 hy2 hv hrel hy
          go_wp2
          refine ⟨⟨i + 1, by omega, by go_num, H2⟩, ?_⟩; simp [intOf]; omega
        · obtain rfl := hy2 hky; have c0 : bits .xor .u8 0 (x.toNat : Int) = (v.toNat : Int) := c1; clear c1 hy1 hy2 hv hrel hy
          go_wp2
          refine ⟨⟨i + 1, by omega, by go_num, H1⟩, ?_⟩; simp [intOf]; omega
      · obtain rfl : i = 64 := by omega
        have hbe : BytesOf wr (some ⟨w1.heap.size, 0, none⟩) 64 64 (Mac.kx x K) := by
          have h := hrel.out.r; rw [List.take_of_length_le (by rw [HKL.out]; decide), Nat.sub_self, List.replicate_zero, List.append_nil] at h; exact ⟨by rw [Mac.kx_len, HKL.out], Nat.le_refl _, fun _ => ⟨_, 0, rfl, fun j z hz => by rw [Nat.zero_add]; exact h.cellv j _ (by rw [List.getElem?_map, hz]; rfl)⟩⟩
        have hcv := cvt_back _ _ _ _ _ hbe (by simp); have H9 : Kp (w.grownBy wr none) := ⟨hrel.out.g⟩; clear hrel hbe
        go_wp2
        go_ret; exact ⟨rfl, H9.out⟩
theorem rtag_any (key text : ByteArray) (w : World) (hk : RK w) (h3 : 5 ≤ w.heap.size) (h1 : key.size ≤ 2147483648) (h2 : text.size ≤ 2147483648) :
    CRt 110 #[.string key, .string text] w (.string (hmacB key text)) := by
  have HK : Kp (RK w) := ⟨hk⟩; clear hk; obtain ⟨K, hK⟩ : ∃ K, Mac.keyOf (sl key) = K := ⟨_, rfl⟩; obtain ⟨ib, hib⟩ : ∃ x, ByteArray.mk (Mac.kx 54 K).toArray = x := ⟨_, rfl⟩; obtain ⟨ob, hob⟩ : ∃ x, ByteArray.mk (Mac.kx 92 K).toArray = x := ⟨_, rfl⟩; have hKl : K.length = 64 := by rw [← hK]; exact Mac.keyOf_len _
  have sib : ib.size = 64 := by rw [← hib, ← sl_len, sl_mk (Mac.kx 54 K), Mac.kx_len, hKl]
  have sob : ob.size = 64 := by rw [← hob, ← sl_len, sl_mk (Mac.kx 92 K), Mac.kx_len, hKl]
  have hai := addS ib text (by omega); have hao := addS ob (shaB (ib ++ text)) (by rw [shaB_size]; omega); have zit : (ib ++ text).size ≤ 4294967296 := by rw [ByteArray.size_append]; omega
  have zot : (ob ++ shaB (ib ++ text)).size ≤ 4294967296 := by rw [ByteArray.size_append, shaB_size]; omega
  have HEQ : Kp (shaB (ob ++ shaB (ib ++ text)) = hmacB key text) := ⟨hmac_eq key text K ib ob hK hib hob⟩; generalize ht1 : ib ++ text = t1 at hai hao zit zot HEQ; generalize ht2 : shaB t1 = t2 at hao zot HEQ; have HT2 : Kp (shaB t1 = t2) := ⟨ht2⟩; generalize ht3 : ob ++ t2 = t3 at hao zot HEQ; have HQ : Kp (ByteArray.mk (Mac.kx 54 (Mac.keyOf (sl key))).toArray = ib ∧ ByteArray.mk (Mac.kx 92 (Mac.keyOf (sl key))).toArray = ob) := ⟨by rw [hK]; exact ⟨hib, hob⟩⟩; clear ht1 ht2 ht3 hK hib hob; go_enter func110, ntmps110; go_wp2_with fail; refine (block_any key 92 _ HK.out h3 (by omega)).mono ?_; rintro e w1 ⟨rfl, g1⟩; rw [HQ.out.2]; have H1 : Kp (w.grownBy w1 none) := ⟨g1⟩; clear g1; go_wp2_with fail; refine (block_any key 54 _ (HK.out.kept H1.out) (Nat.le_trans h3 H1.out.size) (by omega)).mono ?_; rintro e w2 ⟨rfl, g2⟩; rw [HQ.out.1]; have H2 : Kp (w.grownBy w2 none) := ⟨H1.out.trans g2⟩; clear g2; go_wp2_with fail; refine (rlsum_any t1 _ (HK.out.kept H2.out) (Nat.le_trans h3 H2.out.size) zit).mono ?_; rintro e w3 ⟨rfl, g3⟩; rw [HT2.out]; have H3 : Kp (w.grownBy w3 none) := ⟨H2.out.trans g3⟩; clear g3; go_wp2_with fail; refine (rlsum_any t3 _ (HK.out.kept H3.out) (Nat.le_trans h3 H3.out.size) zot).mono ?_; rintro e w4 ⟨rfl, g4⟩; rw [HEQ.out]; have H4 : Kp (w.grownBy w4 none) := ⟨H3.out.trans g4⟩; clear g4; go_wp2_with fail; go_ret; exact ⟨rfl, H4.out⟩
def l8R (n j : Nat) : List UInt8 := List.replicate (8 - j) 0 ++ (Mac.len8 n).drop (8 - j)
theorem l8R_step (n j : Nat) (hj : j < 8) : (l8R n j).set (7 - j) (UInt8.ofNat (n / 2 ^ (8 * j))) = l8R n (j + 1) := by
  match j, hj with
  | 0, _ => simp [l8R, Mac.len8]
  | 1, _ => rfl
  | 2, _ => rfl
  | 3, _ => rfl
  | 4, _ => rfl
  | 5, _ => rfl
  | 6, _ => rfl
  | 7, _ => rfl
theorem l8R_len (n j : Nat) (hj : j ≤ 8) : (l8R n j).length = 8 := by
  simp only [l8R, List.length_append, List.length_replicate, List.length_drop, Mac.len8_len]; omega
structure LG (w w' : World) (n j : Nat) : Prop where
  r : Has w' w.heap.size ((l8R n j).map bv) 5
  g : w.grownBy w' none
theorem length_any (n : Nat) (w : World) (hn : n < 18446744073709551616) :
    CRt 109 #[.int .u64 n] w (.string ⟨(Mac.len8 n).toArray⟩) := by
  have hmk := make28 8 (by decide); have HZ : Kp (∀ W : World, Has (W.alloc (.cells ((List.replicate 8 (0 : UInt8)).map bv).toArray 5)) W.heap.size ((List.replicate 8 (0 : UInt8)).map bv) 5) := ⟨fun W => Has.new _ _ _⟩; generalize ((List.replicate 8 (0 : UInt8)).map bv).toArray = Z at hmk HZ; have hmk' : ∀ W : World, (Instr.makeSlice 60 (.int .i64 8) (.int .i64 8)).run prog W = .ok (.slice (some ⟨W.heap.size, 0, none⟩) 8 8) (W.alloc (.cells Z 5)) := hmk; clear hmk; go_enter func109, ntmps109; go_wp2_with fail
  go_loopw [0, 4] (fun nv t w' => ∃ j : Nat, j ≤ 8 ∧ t = .int .i64 (7 - (j : Int)) ∧ nv = .int .u64 ((n / 2 ^ (8 * j) : Nat) : Int) ∧ Kp (LG w w' n j)) (fun _ t _ => (intOf t + 1).toNat)
  case atStart => exact ⟨0, by omega, rfl, by simp, ⟨HZ.out _, gAl _ _ _⟩⟩
  case round =>
    obtain ⟨j, hj, rfl, rfl, hrel⟩ := hrel; by_cases hlj : j < 8
    · obtain ⟨i, hi⟩ : ∃ i : Nat, i + j = 7 := ⟨7 - j, by omega⟩; obtain ⟨m, hm⟩ : ∃ m, n / 2 ^ (8 * j) = m := ⟨_, rfl⟩; obtain ⟨v, hv⟩ : ∃ v, UInt8.ofNat m = v := ⟨_, rfl⟩
      have hm2 : m / 256 = n / 2 ^ (8 * (j + 1)) := by
        rw [← hm, Nat.div_div_eq_div_mul, Nat.mul_add, Nat.pow_add]
      have HM : Kp (m / 256 = n / 2 ^ (8 * (j + 1))) := ⟨hm2⟩; (have hmn : m < 18446744073709551616 := by rw [← hm]; exact Nat.lt_of_le_of_lt (Nat.div_le_self _ _) hn); (have ei : 7 - j = i := by omega); (have e7 : (7 : Int) - (j : Int) = (i : Int) := by omega); (have hv1 : (m : Int) % 256 = (v.toNat : Int) := by rw [← hv]; simp); have hv2 : (v.toNat : Int) % 256 = (v.toNat : Int) := by have := v.toNat_lt; omega
      have hf := hrel.out.r.frozen i; (have hil : i < 8 := by omega); obtain ⟨y0, hc⟩ : ∃ y, wr.cell? ⟨w.heap.size, i, none⟩ = some y := Option.isSome_iff_exists.1 (hrel.out.r.there i 1 (by rw [List.length_map, l8R_len n j hj]; omega) 0 (by decide)).1
      have H2 : Kp (LG w (wr.setCell ⟨w.heap.size, i, none⟩ (.int .u8 v.toNat)) n (j + 1)) := ⟨by
        have := hrel.out.r.setCell i (bv v); rw [← List.map_set, ← hv, ← hm, ← ei, l8R_step n j hlj, hm, hv, ei] at this
        exact this, gr_new hrel.out.g (gr_set _ _ _ _) (Nat.le_refl _)⟩
      rw [hm, e7]; clear hrel hv hm hm2
      go_wp2
      refine ⟨⟨j + 1, by omega, by congr 1; omega, ?_, H2⟩, ?_⟩
      · rw [← HM.out]; rfl
      · simp only [intOf]; omega
    · obtain rfl : j = 8 := by omega
      have hbe : BytesOf wr (some ⟨w.heap.size, 0, none⟩) 8 8 (Mac.len8 n) := by
        have h := hrel.out.r; exact ⟨rfl, Nat.le_refl _, fun _ => ⟨_, 0, rfl, fun j z hz => by rw [Nat.zero_add]; exact h.cellv j _ (by rw [List.getElem?_map, show l8R n 8 = Mac.len8 n from rfl, hz]; rfl)⟩⟩
      have hcv := cvt_back _ _ _ _ _ hbe (by simp); have H9 : Kp (w.grownBy wr none) := ⟨hrel.out.g⟩; clear hrel hbe
      go_wp2
      go_ret; exact ⟨rfl, H9.out⟩
def saidB (use : ByteArray) (ps : List ByteArray) : ByteArray := ⟨(Mac.said (sl use) (ps.map sl)).toArray⟩
theorem saidB_sl (use : ByteArray) (ps : List ByteArray) : sl (saidB use ps) = Mac.said (sl use) (ps.map sl) := sl_mk _
def len8B (n : Nat) : ByteArray := ⟨(Mac.len8 n).toArray⟩
theorem len8B_sl (n : Nat) : sl (len8B n) = Mac.len8 n := sl_mk _
theorem len8B_size (n : Nat) : (len8B n).size = 8 := by rw [← sl_len, len8B_sl]; rfl
theorem saidB_step (use : ByteArray) (ps : List ByteArray) (i : Nat) (p : ByteArray) (hp : ps[i]? = some p) : saidB use (ps.take (i + 1)) = saidB use (ps.take i) ++ len8B p.size ++ p := by
  obtain ⟨h1, e1⟩ := List.getElem?_eq_some_iff.1 hp; apply sl_inj; have h := said_step (sl use) (ps.map sl) i (by rw [List.length_map]; exact h1); rw [← List.map_take, ← List.map_take] at h; rw [sl_app, sl_app, len8B_sl, saidB_sl, saidB_sl, h, List.getElem_map, e1, sl_len]
theorem saidB_size (use : ByteArray) (ps : List ByteArray) : (saidB use ps).size = (Mac.said (sl use) (ps.map sl)).length := by rw [← sl_len, saidB_sl]
theorem saidB_le (use : ByteArray) (ps : List ByteArray) (i : Nat) : (saidB use (ps.take i)).size ≤ (saidB use ps).size := by
  rw [saidB_size, saidB_size, List.map_take]; exact said_le _ _ i
theorem saidB_zero (use : ByteArray) (ps : List ByteArray) : use ++ { data := #[0] } = saidB use (ps.take 0) := by
  apply sl_inj; rw [saidB_sl, sl_app]; rfl
theorem rsaid_any (use : ByteArray) (a : Option Addr) (n c : Nat) (ps : List ByteArray) (w : World) (hp : Strs w a n ps) (hs : (saidB use ps).size ≤ 2147483648) :
    CRt 111 #[.string use, .slice a n c] w (.string (saidB use ps)) := by
  have HP : Kp (Strs w a n ps) := ⟨hp⟩; have hpl := hp.len
  have hn : n ≤ 2147483648 := by
    have h1 := flat_many (ps.map sl); rw [saidB_size] at hs; simp only [Mac.said, List.length_append, List.length_cons] at hs; rw [List.length_map, hp.len] at h1; omega
  have hu : use.size ≤ 2147483648 := by
    rw [saidB_size] at hs; simp only [Mac.said, List.length_append, List.length_cons, sl_len] at hs; omega
  clear hp
  have ha1 := addS use { data := #[0] } (by have : (ByteArray.mk #[0]).size = 1 := rfl
                                            omega)
  rw [saidB_zero use ps] at ha1; go_enter func111, ntmps111; go_wp2_with fail
  go_loopw [5, 6] (fun v t w' => ∃ (i : Nat) (s : ByteArray), i ≤ n ∧ t = .int .i64 i ∧ v = .string s ∧ Kp (s = saidB use (ps.take i) ∧ w.grownBy w' none)) (fun _ t _ => n - (intOf t).toNat)
  case atStart => exact ⟨0, _, by omega, rfl, rfl, ⟨rfl, World.grownBy.refl _ _⟩⟩
  case round =>
    obtain ⟨i, s, hi, rfl, rfl, hrel⟩ := hrel; by_cases hli : i < n
    · obtain ⟨B, o, rfl, hat⟩ := HP.out.at_ (by omega); obtain ⟨p, hp⟩ : ∃ p, ps[i]? = some p := ⟨_, List.getElem?_eq_getElem (by omega)⟩; (have hcW : ∀ W, wr.grownBy W none → W.cell? ⟨B, o + i, none⟩ = some (.string p) := fun W g => (hrel.out.2.trans g).cell (hat i p hp) (by simp)); have hst := saidB_step use ps i p hp; rw [← hrel.out.1] at hst; have hle := saidB_le use ps (i + 1); rw [hst, ByteArray.size_append, ByteArray.size_append, len8B_size] at hle; have ha2 := addS s (len8B p.size) (by rw [len8B_size]; omega); have ha3 := addS (s ++ len8B p.size) p (by rw [ByteArray.size_append, len8B_size]; omega); (have hp64 : p.size < 18446744073709551616 := by omega); (have hpw : IntKind.u64.wrap (p.size : Int) = (p.size : Int) := by simp [IntKind.wrap, IntKind.bits, IntKind.signed]; omega); have HG : Kp (w.grownBy wr none) := ⟨hrel.out.2⟩; generalize hs1 : s ++ len8B p.size = s1 at ha2 ha3 hst; generalize hs2 : s1 ++ p = s2 at ha3 hst; have HS2 : Kp (saidB use (ps.take (i + 1)) = s2) := ⟨hst⟩; unfold len8B at ha2; clear hat hp hrel hst hle hs1 hs2; go_wp2_with fail; refine wp_region_held_drew (S := fun w' => wr.grownBy w' none) (by kernel_rfl) (gr_drewN _ 1 none) (fun hHeld => ?_); refine hq 0 rfl ?_; refine hq 1 rfl ?_; refine hq 2 rfl ?_; refine hq 3 rfl ?_; refine hq 4 rfl ?_; refine hq 5 rfl ?_; refine hq 6 rfl ?_; refine hq 9 rfl ?_; refine hq 10 rfl ?_; refine hq 11 rfl ?_; refine hq 12 rfl ?_; simp only [Act.put, uz]; refine ha 7 (fun K hK => ?_) (ho := rfl); go_simp
      go_wp2_with (go_at_call 109; refine (length_any p.size _ hp64).mono ?_; rintro e w6 ⟨rfl, g6⟩; replace hHeld := hHeld.trans g6; clear g6)
      refine hK.out _ _ hHeld (fun _ => ?_); clear hK K; refine hq 8 rfl ?_; refine hq 13 rfl ?_; refine hq 14 rfl ?_; simp only [Act.put, uz]; refine hd_ ?_; go_wp2_with fail; refine ⟨⟨i + 1, s2, by omega, by go_num, rfl, ⟨HS2.out.symm, HG.out.trans hHeld⟩⟩, ?_⟩; simp [intOf]; omega
    · have HE : Kp (s = saidB use ps ∧ w.grownBy wr none) := ⟨by
        have h := hrel.out.1; rw [List.take_of_length_le (by omega)] at h
        exact ⟨h, hrel.out.2⟩⟩
      clear hrel; go_wp2_with fail; go_ret; exact ⟨by rw [← HE.out.1]; rfl, HE.out.2⟩
theorem hmac_said (key use : ByteArray) (ps : List ByteArray) : hmacB key (saidB use ps) = deriveB key use ps := by
  unfold hmacB deriveB; rw [saidB_sl]
theorem rderive_any (key use : ByteArray) (a : Option Addr) (n c : Nat) (ps : List ByteArray) (w : World) (hk : RK w) (h3 : 5 ≤ w.heap.size) (hp : Strs w a n ps) (h1 : key.size ≤ 2147483648) (hs : (saidB use ps).size ≤ 2147483648) :
    CRt 56 #[.string key, .string use, .slice a n c] w (.string (deriveB key use ps)) := by
  have HK : Kp (RK w) := ⟨hk⟩; have HP : Kp (Strs w a n ps) := ⟨hp⟩; clear hk hp; go_enter func56, ntmps56; go_wp2_with fail; refine (rsaid_any use a n c ps _ HP.out hs).mono ?_; rintro e w1 ⟨rfl, g1⟩; have H1 : Kp (w.grownBy w1 none) := ⟨g1⟩; have HQ : Kp (hmacB key (saidB use ps) = deriveB key use ps) := ⟨hmac_said key use ps⟩; generalize saidB use ps = s at hs HQ ⊢; clear g1; go_wp2_with fail; refine (rtag_any key s _ (HK.out.kept H1.out) (Nat.le_trans h3 H1.out.size) h1 hs).mono ?_; rintro e w2 ⟨rfl, g2⟩; rw [HQ.out]; have H2 : Kp (w.grownBy w2 none) := ⟨H1.out.trans g2⟩; clear g2; go_wp2_with fail; go_ret; exact ⟨rfl, H2.out⟩
end Go.Proofs.YtldnpebnpbahjaaGreatDoor
