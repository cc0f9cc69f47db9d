/- BucketBound's walk. -/
import Derived.Test.YtgdifgflofjeiaaB1
namespace Go.Proofs.Ytgdifgflofjeiaa
open Go Go.RowKit

theorem sum_le {M : Int} : ∀ {L : List Int}, (∀ x ∈ L, 0 ≤ x ∧ x ≤ M) → 0 ≤ L.sum ∧ L.sum ≤ M * L.length
  | [], _ => by simp
  | x :: L, h => by
    have h1 := h x (by simp)
    have h2 := sum_le (L := L) (fun y hy => h y (by simp [hy]))
    simp only [List.sum_cons, List.length_cons, Int.natCast_add, Int.mul_add]
    omega
theorem sum_drop {M : Int} (hM : 0 ≤ M) {L : List Int} (h : ∀ x ∈ L, 0 ≤ x ∧ x ≤ M) (q : Nat) : 0 ≤ (L.drop q).sum ∧ (L.drop q).sum ≤ M * L.length := by
  have h1 := sum_le (L := L.drop q) (fun x hx => h x (List.mem_of_mem_drop hx))
  have h2 : M * ((L.drop q).length : Int) ≤ M * (L.length : Int) := Int.mul_le_mul_of_nonneg_left (by rw [List.length_drop]; omega) hM
  omega
theorem sum_step {L : List Int} {q : Nat} {x : Int} (h : L[q]? = some x) : (L.drop q).sum = (L.drop (q + 1)).sum + x := by
  obtain ⟨hq, rfl⟩ := List.getElem?_eq_some_iff.1 h
  rw [List.drop_eq_getElem_cons hq, List.sum_cons]; omega
/-- what was taken and what came, in any stretch -/
structure PB (r u Y : Int) (T K : List Int) : Prop where
  len : K.length = T.length
  bd : ∀ q, 16 * (T.drop q).sum + Y ≤ 16 * u + r * (K.drop q).sum
  t01 : ∀ x ∈ T, 0 ≤ x ∧ x ≤ 1
  k01 : ∀ x ∈ K, 0 ≤ x ∧ x ≤ 65536
theorem sum_more (L : List Int) (x : Int) (q : Nat) : ((L ++ [x]).drop q).sum = (L.drop q).sum + if q ≤ L.length then x else 0 := by
  rw [List.drop_append, List.sum_append]
  split
  · rw [show q - L.length = 0 by omega]; simp
  · have e : List.drop (q - L.length) [x] = [] := List.drop_eq_nil_of_le (by simp; omega)
    rw [e]; simp
theorem PB.next {r u Y Z G t : Int} {T K : List Int} (h : PB r u Y T K) (hu : Z ≤ 16 * u) (hZ : Z + 16 * G ≤ Y + r * t) (hG : 0 ≤ G ∧ G ≤ 1) (ht : 0 ≤ t ∧ t ≤ 65536) : PB r u Z (T ++ [G]) (K ++ [t]) := by
  refine ⟨by simp [h.len], fun q => ?_, fun x hx => ?_, fun x hx => ?_⟩
  · rw [sum_more, sum_more, h.len]
    have hb := h.bd q
    split
    · rw [Int.mul_add r]; omega
    · rename_i hq
      rw [List.drop_eq_nil_of_le (by omega), List.drop_eq_nil_of_le (by rw [h.len]; omega)]
      simp; omega
  · rcases List.mem_append.1 hx with q | q
    · exact h.t01 x q
    · simp at q; subst q; exact hG
  · rcases List.mem_append.1 hx with q | q
    · exact h.k01 x q
    · simp at q; subst q; exact ht
theorem tk_le {r u y n : Int} (hr : 0 ≤ r) : tk r u y n ≤ y + r * n := by
  have : r * min n 16000 ≤ r * n := Int.mul_le_mul_of_nonneg_left (by omega) hr
  unfold tk; omega
/-- the bucket and the two rows -/
structure BR (w wr : World) (kb : Nat) (r u Y : Int) (vt vk : Value) (T K : List Int) : Prop where
  b : MB w wr kb r u Y
  t : wr.ownsRow w.heap.size 3 1 vt T.length (T.map iv)
  k : wr.ownsRow w.heap.size 3 1 vk K.length (K.map iv)
  n : ∀ g, vt.ownBlock = some g → vk.ownBlock ≠ some g
  bt : vt.ownBlock ≠ some kb
  bk : vk.ownBlock ≠ some kb
theorem BR.turn {w wr w' : World} {kb : Nat} {r u Y Z : Int} {vt vk : Value} {T K : List Int} (h : BR w wr kb r u Y vt vk T K) (b : MB w w' kb r u Z) (g : wr.grownBy w' (some kb)) : BR w w' kb r u Z vt vk T K :=
  ⟨b, own_fr h.t (Fr.of g) (fun k e q => h.bt (by rw [e]; exact q.symm)), own_fr h.k (Fr.of g) (fun k e q => h.bk (by rw [e]; exact q.symm)), h.n, h.bt, h.bk⟩
theorem BR.appT {w wr : World} {kb : Nat} {r u Y : Int} {vt vk : Value} {T K : List Int} (h : BR w wr kb r u Y vt vk T K) (x : Int) (hT : T.length ≤ 1000) :
    ∃ g c w3, (Builtin.append_ #[27, 27] 27 #[vt, .slice (some ⟨wr.heap.size, 0, none⟩) 1 1]).run Try.prog (wr.alloc (.cells #[.int .i64 x] 3)) = .ok (.slice (some ⟨g, 0, none⟩) (T.length + 1) c) w3 ∧ BR w w3 kb r u Y (.slice (some ⟨g, 0, none⟩) (T.length + 1) c) vk (T ++ [x]) K := by
  obtain ⟨i, h1, h2, h3, h4⟩ := info3
  obtain ⟨g, c, w3, r1, r2, r3, r4⟩ := own_app under27 h1 h4 h2 h3 rfl (by decide) h.t [.int .i64 x] rfl (fun u hu => by simp at hu; subst hu; rfl) (by omega) (by decide) h.b.g.size
  have hlt := h.b.lt
  have f : Fr (fun k => vt.ownBlock = some k) wr w3 := Fr.of r3
  refine ⟨g, c, w3, r1, ⟨⟨⟨h.b.b.has.fr f h.bt, h.b.b.r0, h.b.b.r1, h.b.b.u0, h.b.b.u1, h.b.b.h0, h.b.b.h1⟩, ?_, h.b.lo⟩, ?_, own_fr h.k f (fun k e q => h.n k q e), fun q e1 e2 => ?_, fun e => ?_, h.bk⟩⟩
  · exact ((Fr.ofNone (S := fun _ => False) h.b.g).then f (fun i e => .inr (h.t.lt i e).1)).none (fun i e => e.elim)
  · rw [List.length_append, List.map_append]; exact r2
  · have e3 : g = q := by simpa [Value.ownBlock] using e1
    subst e3
    rcases r4 with z | z
    · exact h.n _ z e2
    · have := (h.k.lt _ e2).2; omega
  · have e3 : g = kb := by simpa [Value.ownBlock] using e
    subst e3
    rcases r4 with z | z
    · exact h.bt z
    · omega
theorem BR.swap {w wr : World} {kb : Nat} {r u Y : Int} {vt vk : Value} {T K : List Int} (h : BR w wr kb r u Y vt vk T K) : BR w wr kb r u Y vk vt K T := ⟨h.b, h.k, h.t, fun g e q => h.n g q e, h.bk, h.bt⟩
theorem BR.appK {w wr : World} {kb : Nat} {r u Y : Int} {vt vk : Value} {T K : List Int} (h : BR w wr kb r u Y vt vk T K) (x : Int) (hK : K.length ≤ 1000) :
    ∃ g c w3, (Builtin.append_ #[27, 27] 27 #[vk, .slice (some ⟨wr.heap.size, 0, none⟩) 1 1]).run Try.prog (wr.alloc (.cells #[.int .i64 x] 3)) = .ok (.slice (some ⟨g, 0, none⟩) (K.length + 1) c) w3 ∧ BR w w3 kb r u Y vt (.slice (some ⟨g, 0, none⟩) (K.length + 1) c) T (K ++ [x]) := by
  obtain ⟨g, c, w3, r1, r2⟩ := h.swap.appT x hK
  exact ⟨g, c, w3, r1, r2.swap⟩
/-- what the look back sees at place q -/
theorem BR.look {w wr : World} {kb g1 n1 c1 g2 n2 c2 : Nat} {r u Y : Int} {T K : List Int} (h : BR w wr kb r u Y (.slice (some ⟨g1, 0, none⟩) n1 c1) (.slice (some ⟨g2, 0, none⟩) n2 c2) T K) (p : PB r u Y T K) (hl : T.length ≤ 201) {q : Nat} (hq : q < T.length) :
    ∃ x y, wr.cell? ⟨g1, q, none⟩ = some (.int .i64 x) ∧ wr.cell? ⟨g2, q, none⟩ = some (.int .i64 y) ∧ (T.drop q).sum = (T.drop (q + 1)).sum + x ∧ (K.drop q).sum = (K.drop (q + 1)).sum + y ∧
      0 ≤ (T.drop q).sum ∧ (T.drop q).sum ≤ 201 ∧ 0 ≤ (K.drop q).sum ∧ (K.drop q).sum ≤ 13172736 ∧ 16 * (T.drop q).sum ≤ 16 * u + r * (K.drop q).sum ∧ 0 ≤ r * (K.drop q).sum ∧ r * (K.drop q).sum ≤ 13172736000 := by
  have hlen := p.len
  obtain ⟨x, hx⟩ : ∃ x, T[q]? = some x := ⟨_, List.getElem?_eq_getElem hq⟩
  obtain ⟨y, hy⟩ : ∃ y, K[q]? = some y := ⟨_, List.getElem?_eq_getElem (by omega)⟩
  obtain ⟨ga, ca, e1, hc1⟩ := own_cell h.t (by omega)
  obtain ⟨gb, cb, e2, hc2⟩ := own_cell h.k (by omega)
  injection e1 with e1 _ _
  injection e2 with e2 _ _
  cases e1
  cases e2
  have s1 := sum_drop (by omega) p.t01 q
  have s2 := sum_drop (by omega) p.k01 q
  have b := p.bd q
  have y0 := h.b.b.h0
  have hr0 := h.b.b.r0
  have m1 : 0 ≤ r * (K.drop q).sum := Int.mul_nonneg hr0 s2.1
  have m3 : (K.drop q).sum ≤ 13172736 := by omega
  have m2 : r * (K.drop q).sum ≤ 1000 * 13172736 := Int.mul_le_mul h.b.b.r1 m3 s2.1 (by omega)
  exact ⟨x, y, (hc1 q _ (by rw [List.getElem?_map, hx]; rfl)).1, (hc2 q _ (by rw [List.getElem?_map, hy]; rfl)).1, sum_step hx, sum_step hy, s1.1, by omega, s2.1, m3, by omega, m1, by omega⟩
set_option maxRecDepth 100000 in
set_option maxHeartbeats 32000000 in
theorem bound_law (x x2 : Int) (a : Option Addr) (n c : Nat) (xs : List (Int × Int)) (w : World) (hs : Scr w a n xs) (hn : n * 16 ≤ 140737488355328) :
    Calls Try.prog 3 #[.int .i64 x, .int .i64 x2, .slice a n c] w fun e w' => e = .returned (.bool true) ∧ w.grownBy w' none := by
  have HX : Keep (Scr w a n xs) := ⟨hs⟩
  clear hs
  go_enter Try.func3, Try.ntmps3
  go_wp2_with fail
  refine (lfull_c x x2 _).mono ?_
  rintro e w1 ⟨r, u, hk, rfl, g1⟩
  have HM : Keep (BR w (w1.alloc (.cells #[.int .i64 r, .int .i64 u, .int .i64 (16 * u)] 24)) w1.heap.size r u (16 * u) (.slice none 0 0) (.slice none 0 0) [] []) := ⟨MB.full g1 hk, World.ownsRow_nil _ _ _ _, World.ownsRow_nil _ _ _ _, fun g e => (by cases e), (fun e => by cases e), (fun e => by cases e)⟩
  obtain ⟨hr0, hr1, hu0, hu1⟩ := hk
  have HP : Keep (PB r u (16 * u) [] []) := ⟨rfl, fun q => by simp, fun x hx => by simp at hx, fun x hx => by simp at hx⟩
  clear g1
  go_wp2_with fail
  generalize w1.alloc _ = w2 at *
  generalize w1.heap.size = kb at *
  clear w1
  have hwu : IntKind.i64.wrap (16 * u) = 16 * u := wi _ (by omega) (by omega)
  go_loopw [11, 12, 13, 14] (fun s11 s12 s13 s14 w' => ∃ (i : Nat) (T K : List Int) (S Y : Int), i ≤ n ∧ i ≤ 200 ∧ T.length = i ∧ s13 = .int .i64 S ∧ s14 = .int .i64 (i : Nat) ∧ Keep (BR w w' kb r u Y s11 s12 T K) ∧ Keep (PB r u Y T K) ∧ Keep (S = T.sum)) (fun _ _ _ s _ => 200 - (intOf s).toNat)
  case atStart => exact ⟨0, [], [], 0, 16 * u, by omega, by omega, rfl, rfl, rfl, HM, HP, ⟨rfl⟩⟩
  case round =>
    clear HM HP
    obtain ⟨i, T, K, S, Y, i1, i2, hTi, rfl, rfl, HM, HP, HS⟩ := hrel
    have HTi : Keep (T.length = i ∧ K.length = i) := ⟨hTi, by rw [HP.out.len, hTi]⟩
    have hS0 : 0 ≤ S ∧ S ≤ i := by
      have := sum_le HP.out.t01
      rw [HS.out]; omega
    clear hTi
    by_cases hi : i < n ∧ i < 200
    · obtain ⟨hi, hi3⟩ := hi
      have hia : (i : Int) < (n : Int) := by omega
      have hib : (i : Int) < 200 := by omega
      obtain ⟨B, o, k, m, rfl, hxi, m0, m1, hcc⟩ := HX.out.step hi
      obtain ⟨c1, c2⟩ := hcc wr HM.out.b.g
      have HCC := Keep.mk hcc
      clear hcc hxi
      have hwi : IntKind.i64.wrap ((i : Int) + 1) = ((i + 1 : Nat) : Int) := wi _ (by omega) (by omega)
      by_cases k1 : k = 1
      · subst k1
        rcases Int.lt_or_le Y 16 with hY | hY
        · go_wp2_with fail
          have c := my_take HM.out.b
          rw [show tcode Y = 80 from if_pos hY, show took Y = Y from if_pos hY] at c
          refine c.mono ?_
          rintro e w6 ⟨rfl, hb, g⟩
          replace HM := Keep.mk (HM.out.turn hb g)
          replace HP := Keep.mk (HP.out.next (Z := Y) (G := 0) (t := 0) hb.b.h1 (by omega) (by omega) (by omega))
          clear c hb g c1 c2
          have hwS : IntKind.i64.wrap (S + 0) = S + 0 := wi _ (by omega) (by omega)
          obtain ⟨ga, ca, w3, r3, HR3⟩ := HM.out.appT 0 (by have := HTi.out; omega)
          obtain ⟨gb, cb, w4, r4, HR4⟩ := HR3.appK 0 (by have := HTi.out; omega)
          rw [HTi.out.1] at r3 HR4
          rw [HTi.out.2] at r4 HR4
          have R3 := Keep.mk r3
          have R4 := Keep.mk r4
          have HR : Keep (BR w w4 kb r u Y (.slice (some ⟨ga, 0, none⟩) (i + 1) ca) (.slice (some ⟨gb, 0, none⟩) (i + 1) cb) (T ++ [0]) (K ++ [0])) := ⟨HR4⟩
          have HT2 : Keep (S + 0 = (T ++ [0]).sum ∧ (T ++ [0]).length = i + 1 ∧ (K ++ [0]).length = i + 1) := ⟨by rw [HS.out]; simp, by simp [HTi.out.1], by simp [HTi.out.2]⟩
          obtain ⟨T2, hT2⟩ : ∃ T2, T ++ [0] = T2 := ⟨_, rfl⟩
          obtain ⟨K2, hK2⟩ : ∃ K2, K ++ [0] = K2 := ⟨_, rfl⟩
          rw [hT2] at HR HT2 HP
          rw [hK2] at HR HT2 HP
          clear r3 r4 HR3 HR4 HS HTi HM hT2 hK2
          go_wp2_with ((first | (at_builtin; refine wpList_append_run _ rfl (.tmp 75) (.tmp 77) 27 rfl _ _ rfl rfl R3.out ?_) | (at_builtin; refine wpList_append_run _ rfl (.tmp 79) (.tmp 81) 27 rfl _ _ rfl rfl R4.out ?_)))
          clear R3 R4
          rename World => w9
          go_loopw [17, 18, 19] (fun s17 s18 s19 w' => ∃ (p : Nat) (H C : Int), p ≤ i + 1 ∧ s17 = .int .i64 H ∧ s18 = .int .i64 C ∧ s19 = .int .i64 ((p : Int) - 1) ∧ w' = w9 ∧ Keep (H = (T2.drop p).sum ∧ C = (K2.drop p).sum)) (fun _ _ s _ => (intOf s + 1).toNat)
          case atStart => exact ⟨i + 1, 0, 0, by omega, rfl, rfl, by simp, rfl, ⟨by rw [List.drop_eq_nil_of_le (by have := HT2.out; omega)]; rfl, by rw [List.drop_eq_nil_of_le (by have := HT2.out; omega)]; rfl⟩⟩
          case round =>
            obtain ⟨p, H, C, p1, rfl, rfl, rfl, rfl, HH⟩ := hrel
            rcases Nat.eq_zero_or_pos p with hp | hp
            · subst hp
              go_wp2_with fail
              exact ⟨⟨i + 1, T2, K2, S + 0, Y, by omega, by omega, HT2.out.2.1, by simp, by simp, HR, HP, ⟨HT2.out.1⟩⟩, by simp only [intOf]; omega⟩
            · obtain ⟨q, rfl⟩ : ∃ q, p = q + 1 := ⟨p - 1, by omega⟩
              obtain ⟨xx, yy, d1, d2, e1, e2, b1, b2, b3, b4, b5, b6, b7⟩ := HR.out.look HP.out (by have := HT2.out; omega) (show q < T2.length by have := HT2.out; omega)
              rw [← HH.out.1] at e1
              rw [← HH.out.2] at e2
              rw [e1] at b1 b2 b5
              rw [e2] at b3 b4 b5 b6 b7
              have HH2 : Keep (H + xx = (T2.drop q).sum ∧ C + yy = (K2.drop q).sum) := ⟨e1.symm, e2.symm⟩
              clear e1 e2 HH
              have hq0 : ((q + 1 : Nat) : Int) - 1 = (q : Int) := by omega
              rw [hq0]
              have hqq : (0 : Int) ≤ (q : Int) := by omega
              have hq9 : (q : Int) < ((i + 1 : Nat) : Int) := by omega
              have wa : IntKind.i64.wrap (H + xx) = H + xx := wi _ (by omega) (by omega)
              have wb : IntKind.i64.wrap (C + yy) = C + yy := wi _ (by omega) (by omega)
              obtain ⟨H2, hH2⟩ : ∃ z, H + xx = z := ⟨_, rfl⟩
              obtain ⟨C2, hC2⟩ : ∃ z, C + yy = z := ⟨_, rfl⟩
              rw [hH2] at wa b1 b2 b5 HH2
              rw [hC2] at wb b3 b4 b5 b6 b7 HH2
              have wa2 : IntKind.i64.wrap (H + xx) = H2 := by rw [hH2]; exact wa
              have wb2 : IntKind.i64.wrap (C + yy) = C2 := by rw [hC2]; exact wb
              clear wa wb hH2 hC2
              obtain ⟨M2, hM2⟩ : ∃ z, r * C2 = z := ⟨_, rfl⟩
              rw [hM2] at b5 b6 b7
              have wc : IntKind.i64.wrap (r * C2) = M2 := by rw [hM2]; exact wi _ (by omega) (by omega)
              have wd : IntKind.i64.wrap (16 * u + M2) = 16 * u + M2 := wi _ (by omega) (by omega)
              have we : (16 * u + M2).tdiv 16 = (16 * u + M2) / 16 := Int.tdiv_eq_ediv_of_nonneg (by omega)
              obtain ⟨D, hD⟩ : ∃ z, (16 * u + M2) / 16 = z := ⟨_, rfl⟩
              rw [hD] at we
              have wf : IntKind.i64.wrap D = D := wi _ (by omega) (by omega)
              have wg : ¬ D < H2 := by omega
              have wh : IntKind.i64.wrap ((q : Int) - 1) = (q : Int) - 1 := wi _ (by omega) (by omega)
              clear hM2 hD
              go_wp2_with fail
              refine ⟨⟨q, H2, C2, by omega, rfl, rfl, rfl, by trivial, HH2⟩, ?_⟩
              simp only [intOf]; omega
        · go_wp2_with fail
          have c := my_take HM.out.b
          rw [show tcode Y = 0 from if_neg (by omega), show took Y = Y - 16 from if_neg (by omega)] at c
          refine c.mono ?_
          rintro e w6 ⟨rfl, hb, g⟩
          replace HM := Keep.mk (HM.out.turn hb g)
          replace HP := Keep.mk (HP.out.next (Z := Y - 16) (G := 1) (t := 0) hb.b.h1 (by omega) (by omega) (by omega))
          clear c hb g c1 c2
          generalize Y - 16 = YY at *
          have hwS : IntKind.i64.wrap (S + 1) = S + 1 := wi _ (by omega) (by omega)
          obtain ⟨ga, ca, w3, r3, HR3⟩ := HM.out.appT 1 (by have := HTi.out; omega)
          obtain ⟨gb, cb, w4, r4, HR4⟩ := HR3.appK 0 (by have := HTi.out; omega)
          rw [HTi.out.1] at r3 HR4
          rw [HTi.out.2] at r4 HR4
          have R3 := Keep.mk r3
          have R4 := Keep.mk r4
          have HR : Keep (BR w w4 kb r u YY (.slice (some ⟨ga, 0, none⟩) (i + 1) ca) (.slice (some ⟨gb, 0, none⟩) (i + 1) cb) (T ++ [1]) (K ++ [0])) := ⟨HR4⟩
          have HT2 : Keep (S + 1 = (T ++ [1]).sum ∧ (T ++ [1]).length = i + 1 ∧ (K ++ [0]).length = i + 1) := ⟨by rw [HS.out]; simp, by simp [HTi.out.1], by simp [HTi.out.2]⟩
          obtain ⟨T2, hT2⟩ : ∃ T2, T ++ [1] = T2 := ⟨_, rfl⟩
          obtain ⟨K2, hK2⟩ : ∃ K2, K ++ [0] = K2 := ⟨_, rfl⟩
          rw [hT2] at HR HT2 HP
          rw [hK2] at HR HT2 HP
          clear r3 r4 HR3 HR4 HS HTi HM hT2 hK2
          go_wp2_with ((first | (at_builtin; refine wpList_append_run _ rfl (.tmp 75) (.tmp 77) 27 rfl _ _ rfl rfl R3.out ?_) | (at_builtin; refine wpList_append_run _ rfl (.tmp 79) (.tmp 81) 27 rfl _ _ rfl rfl R4.out ?_)))
          clear R3 R4
          rename World => w9
          go_loopw [17, 18, 19] (fun s17 s18 s19 w' => ∃ (p : Nat) (H C : Int), p ≤ i + 1 ∧ s17 = .int .i64 H ∧ s18 = .int .i64 C ∧ s19 = .int .i64 ((p : Int) - 1) ∧ w' = w9 ∧ Keep (H = (T2.drop p).sum ∧ C = (K2.drop p).sum)) (fun _ _ s _ => (intOf s + 1).toNat)
          case atStart => exact ⟨i + 1, 0, 0, by omega, rfl, rfl, by simp, rfl, ⟨by rw [List.drop_eq_nil_of_le (by have := HT2.out; omega)]; rfl, by rw [List.drop_eq_nil_of_le (by have := HT2.out; omega)]; rfl⟩⟩
          case round =>
            obtain ⟨p, H, C, p1, rfl, rfl, rfl, rfl, HH⟩ := hrel
            rcases Nat.eq_zero_or_pos p with hp | hp
            · subst hp
              go_wp2_with fail
              exact ⟨⟨i + 1, T2, K2, S + 1, YY, by omega, by omega, HT2.out.2.1, by simp, by simp, HR, HP, ⟨HT2.out.1⟩⟩, by simp only [intOf]; omega⟩
            · obtain ⟨q, rfl⟩ : ∃ q, p = q + 1 := ⟨p - 1, by omega⟩
              obtain ⟨xx, yy, d1, d2, e1, e2, b1, b2, b3, b4, b5, b6, b7⟩ := HR.out.look HP.out (by have := HT2.out; omega) (show q < T2.length by have := HT2.out; omega)
              rw [← HH.out.1] at e1
              rw [← HH.out.2] at e2
              rw [e1] at b1 b2 b5
              rw [e2] at b3 b4 b5 b6 b7
              have HH2 : Keep (H + xx = (T2.drop q).sum ∧ C + yy = (K2.drop q).sum) := ⟨e1.symm, e2.symm⟩
              clear e1 e2 HH
              have hq0 : ((q + 1 : Nat) : Int) - 1 = (q : Int) := by omega
              rw [hq0]
              have hqq : (0 : Int) ≤ (q : Int) := by omega
              have hq9 : (q : Int) < ((i + 1 : Nat) : Int) := by omega
              have wa : IntKind.i64.wrap (H + xx) = H + xx := wi _ (by omega) (by omega)
              have wb : IntKind.i64.wrap (C + yy) = C + yy := wi _ (by omega) (by omega)
              obtain ⟨H2, hH2⟩ : ∃ z, H + xx = z := ⟨_, rfl⟩
              obtain ⟨C2, hC2⟩ : ∃ z, C + yy = z := ⟨_, rfl⟩
              rw [hH2] at wa b1 b2 b5 HH2
              rw [hC2] at wb b3 b4 b5 b6 b7 HH2
              have wa2 : IntKind.i64.wrap (H + xx) = H2 := by rw [hH2]; exact wa
              have wb2 : IntKind.i64.wrap (C + yy) = C2 := by rw [hC2]; exact wb
              clear wa wb hH2 hC2
              obtain ⟨M2, hM2⟩ : ∃ z, r * C2 = z := ⟨_, rfl⟩
              rw [hM2] at b5 b6 b7
              have wc : IntKind.i64.wrap (r * C2) = M2 := by rw [hM2]; exact wi _ (by omega) (by omega)
              have wd : IntKind.i64.wrap (16 * u + M2) = 16 * u + M2 := wi _ (by omega) (by omega)
              have we : (16 * u + M2).tdiv 16 = (16 * u + M2) / 16 := Int.tdiv_eq_ediv_of_nonneg (by omega)
              obtain ⟨D, hD⟩ : ∃ z, (16 * u + M2) / 16 = z := ⟨_, rfl⟩
              rw [hD] at we
              have wf : IntKind.i64.wrap D = D := wi _ (by omega) (by omega)
              have wg : ¬ D < H2 := by omega
              have wh : IntKind.i64.wrap ((q : Int) - 1) = (q : Int) - 1 := wi _ (by omega) (by omega)
              clear hM2 hD
              go_wp2_with fail
              refine ⟨⟨q, H2, C2, by omega, rfl, rfl, rfl, by trivial, HH2⟩, ?_⟩
              simp only [intOf]; omega
      by_cases k2 : k = 2
      · subst k2
        go_wp2_with fail
        have c := my_tick HM.out.b
        refine c.mono ?_
        rintro e w6 ⟨rfl, hb, g⟩
        replace HM := Keep.mk (HM.out.turn hb g)
        replace HP := Keep.mk (HP.out.next (Z := tk r u Y 1) (G := 0) (t := 1) hb.b.h1 (by have := tk_le (u := u) (y := Y) (n := 1) hr0; omega) (by omega) (by omega))
        clear c hb g c1 c2
        generalize tk r u Y 1 = YY at *
        have hwS : IntKind.i64.wrap (S + 0) = S + 0 := wi _ (by omega) (by omega)
        obtain ⟨ga, ca, w3, r3, HR3⟩ := HM.out.appT 0 (by have := HTi.out; omega)
        obtain ⟨gb, cb, w4, r4, HR4⟩ := HR3.appK 1 (by have := HTi.out; omega)
        rw [HTi.out.1] at r3 HR4
        rw [HTi.out.2] at r4 HR4
        have R3 := Keep.mk r3
        have R4 := Keep.mk r4
        have HR : Keep (BR w w4 kb r u YY (.slice (some ⟨ga, 0, none⟩) (i + 1) ca) (.slice (some ⟨gb, 0, none⟩) (i + 1) cb) (T ++ [0]) (K ++ [1])) := ⟨HR4⟩
        have HT2 : Keep (S + 0 = (T ++ [0]).sum ∧ (T ++ [0]).length = i + 1 ∧ (K ++ [1]).length = i + 1) := ⟨by rw [HS.out]; simp, by simp [HTi.out.1], by simp [HTi.out.2]⟩
        obtain ⟨T2, hT2⟩ : ∃ T2, T ++ [0] = T2 := ⟨_, rfl⟩
        obtain ⟨K2, hK2⟩ : ∃ K2, K ++ [1] = K2 := ⟨_, rfl⟩
        rw [hT2] at HR HT2 HP
        rw [hK2] at HR HT2 HP
        clear r3 r4 HR3 HR4 HS HTi HM hT2 hK2
        go_wp2_with ((first | (at_builtin; refine wpList_append_run _ rfl (.tmp 75) (.tmp 77) 27 rfl _ _ rfl rfl R3.out ?_) | (at_builtin; refine wpList_append_run _ rfl (.tmp 79) (.tmp 81) 27 rfl _ _ rfl rfl R4.out ?_)))
        clear R3 R4
        rename World => w9
        go_loopw [17, 18, 19] (fun s17 s18 s19 w' => ∃ (p : Nat) (H C : Int), p ≤ i + 1 ∧ s17 = .int .i64 H ∧ s18 = .int .i64 C ∧ s19 = .int .i64 ((p : Int) - 1) ∧ w' = w9 ∧ Keep (H = (T2.drop p).sum ∧ C = (K2.drop p).sum)) (fun _ _ s _ => (intOf s + 1).toNat)
        case atStart => exact ⟨i + 1, 0, 0, by omega, rfl, rfl, by simp, rfl, ⟨by rw [List.drop_eq_nil_of_le (by have := HT2.out; omega)]; rfl, by rw [List.drop_eq_nil_of_le (by have := HT2.out; omega)]; rfl⟩⟩
        case round =>
          obtain ⟨p, H, C, p1, rfl, rfl, rfl, rfl, HH⟩ := hrel
          rcases Nat.eq_zero_or_pos p with hp | hp
          · subst hp
            go_wp2_with fail
            exact ⟨⟨i + 1, T2, K2, S + 0, YY, by omega, by omega, HT2.out.2.1, by simp, by simp, HR, HP, ⟨HT2.out.1⟩⟩, by simp only [intOf]; omega⟩
          · obtain ⟨q, rfl⟩ : ∃ q, p = q + 1 := ⟨p - 1, by omega⟩
            obtain ⟨xx, yy, d1, d2, e1, e2, b1, b2, b3, b4, b5, b6, b7⟩ := HR.out.look HP.out (by have := HT2.out; omega) (show q < T2.length by have := HT2.out; omega)
            rw [← HH.out.1] at e1
            rw [← HH.out.2] at e2
            rw [e1] at b1 b2 b5
            rw [e2] at b3 b4 b5 b6 b7
            have HH2 : Keep (H + xx = (T2.drop q).sum ∧ C + yy = (K2.drop q).sum) := ⟨e1.symm, e2.symm⟩
            clear e1 e2 HH
            have hq0 : ((q + 1 : Nat) : Int) - 1 = (q : Int) := by omega
            rw [hq0]
            have hqq : (0 : Int) ≤ (q : Int) := by omega
            have hq9 : (q : Int) < ((i + 1 : Nat) : Int) := by omega
            have wa : IntKind.i64.wrap (H + xx) = H + xx := wi _ (by omega) (by omega)
            have wb : IntKind.i64.wrap (C + yy) = C + yy := wi _ (by omega) (by omega)
            obtain ⟨H2, hH2⟩ : ∃ z, H + xx = z := ⟨_, rfl⟩
            obtain ⟨C2, hC2⟩ : ∃ z, C + yy = z := ⟨_, rfl⟩
            rw [hH2] at wa b1 b2 b5 HH2
            rw [hC2] at wb b3 b4 b5 b6 b7 HH2
            have wa2 : IntKind.i64.wrap (H + xx) = H2 := by rw [hH2]; exact wa
            have wb2 : IntKind.i64.wrap (C + yy) = C2 := by rw [hC2]; exact wb
            clear wa wb hH2 hC2
            obtain ⟨M2, hM2⟩ : ∃ z, r * C2 = z := ⟨_, rfl⟩
            rw [hM2] at b5 b6 b7
            have wc : IntKind.i64.wrap (r * C2) = M2 := by rw [hM2]; exact wi _ (by omega) (by omega)
            have wd : IntKind.i64.wrap (16 * u + M2) = 16 * u + M2 := wi _ (by omega) (by omega)
            have we : (16 * u + M2).tdiv 16 = (16 * u + M2) / 16 := Int.tdiv_eq_ediv_of_nonneg (by omega)
            obtain ⟨D, hD⟩ : ∃ z, (16 * u + M2) / 16 = z := ⟨_, rfl⟩
            rw [hD] at we
            have wf : IntKind.i64.wrap D = D := wi _ (by omega) (by omega)
            have wg : ¬ D < H2 := by omega
            have wh : IntKind.i64.wrap ((q : Int) - 1) = (q : Int) - 1 := wi _ (by omega) (by omega)
            clear hM2 hD
            go_wp2_with fail
            refine ⟨⟨q, H2, C2, by omega, rfl, rfl, rfl, by trivial, HH2⟩, ?_⟩
            simp only [intOf]; omega
      by_cases k3 : k = 3
      · subst k3
        rcases Int.lt_or_le 65536 m with hm | hm
        · go_wp2_with fail
          go_ret
          exact ⟨rfl, HM.out.b.g⟩
        · have hwm : IntKind.i64.wrap m = m := wi _ (by omega) (by omega)
          go_wp2_with fail
          have c := my_ticks m HM.out.b m0 m1
          refine c.mono ?_
          rintro e w6 ⟨rfl, hb, g⟩
          replace HM := Keep.mk (HM.out.turn hb g)
          replace HP := Keep.mk (HP.out.next (Z := tk r u Y m) (G := 0) (t := m) hb.b.h1 (by have := tk_le (u := u) (y := Y) (n := m) hr0; omega) (by omega) (by omega))
          clear c g c1 c2
          obtain ⟨c1, c2⟩ := HCC.out w6 hb.g
          clear hb
          generalize tk r u Y m = YY at *
          have hwS : IntKind.i64.wrap (S + 0) = S + 0 := wi _ (by omega) (by omega)
          obtain ⟨ga, ca, w3, r3, HR3⟩ := HM.out.appT 0 (by have := HTi.out; omega)
          obtain ⟨gb, cb, w4, r4, HR4⟩ := HR3.appK m (by have := HTi.out; omega)
          rw [HTi.out.1] at r3 HR4
          rw [HTi.out.2] at r4 HR4
          have R3 := Keep.mk r3
          have R4 := Keep.mk r4
          have HR : Keep (BR w w4 kb r u YY (.slice (some ⟨ga, 0, none⟩) (i + 1) ca) (.slice (some ⟨gb, 0, none⟩) (i + 1) cb) (T ++ [0]) (K ++ [m])) := ⟨HR4⟩
          have HT2 : Keep (S + 0 = (T ++ [0]).sum ∧ (T ++ [0]).length = i + 1 ∧ (K ++ [m]).length = i + 1) := ⟨by rw [HS.out]; simp, by simp [HTi.out.1], by simp [HTi.out.2]⟩
          obtain ⟨T2, hT2⟩ : ∃ T2, T ++ [0] = T2 := ⟨_, rfl⟩
          obtain ⟨K2, hK2⟩ : ∃ K2, K ++ [m] = K2 := ⟨_, rfl⟩
          rw [hT2] at HR HT2 HP
          rw [hK2] at HR HT2 HP
          clear r3 r4 HR3 HR4 HS HTi HM hT2 hK2
          go_wp2_with ((first | (at_builtin; refine wpList_append_run _ rfl (.tmp 75) (.tmp 77) 27 rfl _ _ rfl rfl R3.out ?_) | (at_builtin; refine wpList_append_run _ rfl (.tmp 79) (.tmp 81) 27 rfl _ _ rfl rfl R4.out ?_)))
          clear R3 R4
          rename World => w9
          go_loopw [17, 18, 19] (fun s17 s18 s19 w' => ∃ (p : Nat) (H C : Int), p ≤ i + 1 ∧ s17 = .int .i64 H ∧ s18 = .int .i64 C ∧ s19 = .int .i64 ((p : Int) - 1) ∧ w' = w9 ∧ Keep (H = (T2.drop p).sum ∧ C = (K2.drop p).sum)) (fun _ _ s _ => (intOf s + 1).toNat)
          case atStart => exact ⟨i + 1, 0, 0, by omega, rfl, rfl, by simp, rfl, ⟨by rw [List.drop_eq_nil_of_le (by have := HT2.out; omega)]; rfl, by rw [List.drop_eq_nil_of_le (by have := HT2.out; omega)]; rfl⟩⟩
          case round =>
            obtain ⟨p, H, C, p1, rfl, rfl, rfl, rfl, HH⟩ := hrel
            rcases Nat.eq_zero_or_pos p with hp | hp
            · subst hp
              go_wp2_with fail
              exact ⟨⟨i + 1, T2, K2, S + 0, YY, by omega, by omega, HT2.out.2.1, by simp, by simp, HR, HP, ⟨HT2.out.1⟩⟩, by simp only [intOf]; omega⟩
            · obtain ⟨q, rfl⟩ : ∃ q, p = q + 1 := ⟨p - 1, by omega⟩
              obtain ⟨xx, yy, d1, d2, e1, e2, b1, b2, b3, b4, b5, b6, b7⟩ := HR.out.look HP.out (by have := HT2.out; omega) (show q < T2.length by have := HT2.out; omega)
              rw [← HH.out.1] at e1
              rw [← HH.out.2] at e2
              rw [e1] at b1 b2 b5
              rw [e2] at b3 b4 b5 b6 b7
              have HH2 : Keep (H + xx = (T2.drop q).sum ∧ C + yy = (K2.drop q).sum) := ⟨e1.symm, e2.symm⟩
              clear e1 e2 HH
              have hq0 : ((q + 1 : Nat) : Int) - 1 = (q : Int) := by omega
              rw [hq0]
              have hqq : (0 : Int) ≤ (q : Int) := by omega
              have hq9 : (q : Int) < ((i + 1 : Nat) : Int) := by omega
              have wa : IntKind.i64.wrap (H + xx) = H + xx := wi _ (by omega) (by omega)
              have wb : IntKind.i64.wrap (C + yy) = C + yy := wi _ (by omega) (by omega)
              obtain ⟨H2, hH2⟩ : ∃ z, H + xx = z := ⟨_, rfl⟩
              obtain ⟨C2, hC2⟩ : ∃ z, C + yy = z := ⟨_, rfl⟩
              rw [hH2] at wa b1 b2 b5 HH2
              rw [hC2] at wb b3 b4 b5 b6 b7 HH2
              have wa2 : IntKind.i64.wrap (H + xx) = H2 := by rw [hH2]; exact wa
              have wb2 : IntKind.i64.wrap (C + yy) = C2 := by rw [hC2]; exact wb
              clear wa wb hH2 hC2
              obtain ⟨M2, hM2⟩ : ∃ z, r * C2 = z := ⟨_, rfl⟩
              rw [hM2] at b5 b6 b7
              have wc : IntKind.i64.wrap (r * C2) = M2 := by rw [hM2]; exact wi _ (by omega) (by omega)
              have wd : IntKind.i64.wrap (16 * u + M2) = 16 * u + M2 := wi _ (by omega) (by omega)
              have we : (16 * u + M2).tdiv 16 = (16 * u + M2) / 16 := Int.tdiv_eq_ediv_of_nonneg (by omega)
              obtain ⟨D, hD⟩ : ∃ z, (16 * u + M2) / 16 = z := ⟨_, rfl⟩
              rw [hD] at we
              have wf : IntKind.i64.wrap D = D := wi _ (by omega) (by omega)
              have wg : ¬ D < H2 := by omega
              have wh : IntKind.i64.wrap ((q : Int) - 1) = (q : Int) - 1 := wi _ (by omega) (by omega)
              clear hM2 hD
              go_wp2_with fail
              refine ⟨⟨q, H2, C2, by omega, rfl, rfl, rfl, by trivial, HH2⟩, ?_⟩
              simp only [intOf]; omega
      · replace HP := Keep.mk (HP.out.next (Z := Y) (G := 0) (t := 0) HM.out.b.b.h1 (by omega) (by omega) (by omega))
        have hwS : IntKind.i64.wrap (S + 0) = S + 0 := wi _ (by omega) (by omega)
        obtain ⟨ga, ca, w3, r3, HR3⟩ := HM.out.appT 0 (by have := HTi.out; omega)
        obtain ⟨gb, cb, w4, r4, HR4⟩ := HR3.appK 0 (by have := HTi.out; omega)
        rw [HTi.out.1] at r3 HR4
        rw [HTi.out.2] at r4 HR4
        have R3 := Keep.mk r3
        have R4 := Keep.mk r4
        have HR : Keep (BR w w4 kb r u Y (.slice (some ⟨ga, 0, none⟩) (i + 1) ca) (.slice (some ⟨gb, 0, none⟩) (i + 1) cb) (T ++ [0]) (K ++ [0])) := ⟨HR4⟩
        have HT2 : Keep (S + 0 = (T ++ [0]).sum ∧ (T ++ [0]).length = i + 1 ∧ (K ++ [0]).length = i + 1) := ⟨by rw [HS.out]; simp, by simp [HTi.out.1], by simp [HTi.out.2]⟩
        obtain ⟨T2, hT2⟩ : ∃ T2, T ++ [0] = T2 := ⟨_, rfl⟩
        obtain ⟨K2, hK2⟩ : ∃ K2, K ++ [0] = K2 := ⟨_, rfl⟩
        rw [hT2] at HR HT2 HP
        rw [hK2] at HR HT2 HP
        clear r3 r4 HR3 HR4 HS HTi HM hT2 hK2
        go_wp2_with ((first | (at_builtin; refine wpList_append_run _ rfl (.tmp 75) (.tmp 77) 27 rfl _ _ rfl rfl R3.out ?_) | (at_builtin; refine wpList_append_run _ rfl (.tmp 79) (.tmp 81) 27 rfl _ _ rfl rfl R4.out ?_)))
        clear R3 R4
        rename World => w9
        go_loopw [17, 18, 19] (fun s17 s18 s19 w' => ∃ (p : Nat) (H C : Int), p ≤ i + 1 ∧ s17 = .int .i64 H ∧ s18 = .int .i64 C ∧ s19 = .int .i64 ((p : Int) - 1) ∧ w' = w9 ∧ Keep (H = (T2.drop p).sum ∧ C = (K2.drop p).sum)) (fun _ _ s _ => (intOf s + 1).toNat)
        case atStart => exact ⟨i + 1, 0, 0, by omega, rfl, rfl, by simp, rfl, ⟨by rw [List.drop_eq_nil_of_le (by have := HT2.out; omega)]; rfl, by rw [List.drop_eq_nil_of_le (by have := HT2.out; omega)]; rfl⟩⟩
        case round =>
          obtain ⟨p, H, C, p1, rfl, rfl, rfl, rfl, HH⟩ := hrel
          rcases Nat.eq_zero_or_pos p with hp | hp
          · subst hp
            go_wp2_with fail
            exact ⟨⟨i + 1, T2, K2, S + 0, Y, by omega, by omega, HT2.out.2.1, by simp, by simp, HR, HP, ⟨HT2.out.1⟩⟩, by simp only [intOf]; omega⟩
          · obtain ⟨q, rfl⟩ : ∃ q, p = q + 1 := ⟨p - 1, by omega⟩
            obtain ⟨xx, yy, d1, d2, e1, e2, b1, b2, b3, b4, b5, b6, b7⟩ := HR.out.look HP.out (by have := HT2.out; omega) (show q < T2.length by have := HT2.out; omega)
            rw [← HH.out.1] at e1
            rw [← HH.out.2] at e2
            rw [e1] at b1 b2 b5
            rw [e2] at b3 b4 b5 b6 b7
            have HH2 : Keep (H + xx = (T2.drop q).sum ∧ C + yy = (K2.drop q).sum) := ⟨e1.symm, e2.symm⟩
            clear e1 e2 HH
            have hq0 : ((q + 1 : Nat) : Int) - 1 = (q : Int) := by omega
            rw [hq0]
            have hqq : (0 : Int) ≤ (q : Int) := by omega
            have hq9 : (q : Int) < ((i + 1 : Nat) : Int) := by omega
            have wa : IntKind.i64.wrap (H + xx) = H + xx := wi _ (by omega) (by omega)
            have wb : IntKind.i64.wrap (C + yy) = C + yy := wi _ (by omega) (by omega)
            obtain ⟨H2, hH2⟩ : ∃ z, H + xx = z := ⟨_, rfl⟩
            obtain ⟨C2, hC2⟩ : ∃ z, C + yy = z := ⟨_, rfl⟩
            rw [hH2] at wa b1 b2 b5 HH2
            rw [hC2] at wb b3 b4 b5 b6 b7 HH2
            have wa2 : IntKind.i64.wrap (H + xx) = H2 := by rw [hH2]; exact wa
            have wb2 : IntKind.i64.wrap (C + yy) = C2 := by rw [hC2]; exact wb
            clear wa wb hH2 hC2
            obtain ⟨M2, hM2⟩ : ∃ z, r * C2 = z := ⟨_, rfl⟩
            rw [hM2] at b5 b6 b7
            have wc : IntKind.i64.wrap (r * C2) = M2 := by rw [hM2]; exact wi _ (by omega) (by omega)
            have wd : IntKind.i64.wrap (16 * u + M2) = 16 * u + M2 := wi _ (by omega) (by omega)
            have we : (16 * u + M2).tdiv 16 = (16 * u + M2) / 16 := Int.tdiv_eq_ediv_of_nonneg (by omega)
            obtain ⟨D, hD⟩ : ∃ z, (16 * u + M2) / 16 = z := ⟨_, rfl⟩
            rw [hD] at we
            have wf : IntKind.i64.wrap D = D := wi _ (by omega) (by omega)
            have wg : ¬ D < H2 := by omega
            have wh : IntKind.i64.wrap ((q : Int) - 1) = (q : Int) - 1 := wi _ (by omega) (by omega)
            clear hM2 hD
            go_wp2_with fail
            refine ⟨⟨q, H2, C2, by omega, rfl, rfl, rfl, by trivial, HH2⟩, ?_⟩
            simp only [intOf]; omega
    · have hc : ¬ i < n ∨ (i < n ∧ ¬ i < 200) := by omega
      have hSn : S ≤ (n : Int) := by omega
      clear hi
      rcases hc with hi | ⟨hi, hi3⟩
      case' inl => have hia : ¬ (i : Int) < (n : Int) := by omega
      case' inr => have hia : (i : Int) < (n : Int) := by omega
      case' inr => have hib : ¬ (i : Int) < 200 := by omega
      all_goals
        go_wp2_with fail
        go_ret
        exact ⟨rfl, HM.out.b.g⟩
end Go.Proofs.Ytgdifgflofjeiaa
