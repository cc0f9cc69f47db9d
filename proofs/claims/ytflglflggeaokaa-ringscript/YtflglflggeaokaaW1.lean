/- boxes of a call; the laws' whole. -/
import Derived.Test.YtflglflggeaokaaQ1
import Derived.Test.YtflglflggeaokaaD3
import Derived.Laws.EntriesVeiled
import Derived.Stop.RegionWithIn
import Derived.Deep.RegionHeld
namespace Go.Proofs.Ytflglflggeaokaa
open Go Go.RowKit Go.Shelf
attribute [local go_sem] Oper.semAt_some

/-- boxes of the call's own; nothing old turned -/
structure BX (w W : World) (X : List (Nat × Value × TypeId)) (Ds : List Nat) : Prop where
  x : ∀ p ∈ X, Has W p.1 [p.2.1] p.2.2
  lo : ∀ p ∈ X, w.heap.size ≤ p.1
  d : ∀ D ∈ Ds, W.heap[D]? = some (.deferred (some []))
  g : w.grownBy W none
theorem BX.sub {w W : World} {X X' : List (Nat × Value × TypeId)} {Ds Ds' : List Nat} (h : BX w W X Ds) (hx : ∀ p ∈ X', p ∈ X) (hd : ∀ p ∈ Ds', p ∈ Ds) : BX w W X' Ds' :=
  ⟨fun p hp => h.x p (hx p hp), fun p hp => h.lo p (hx p hp), fun p hp => h.d p (hd p hp), h.g⟩
theorem BX.turn {w W W' : World} {X : List (Nat × Value × TypeId)} {Ds : List Nat} {row : Option Nat} (h : BX w W X Ds) (hg : W.grownBy W' row) (hr : ∀ r, row = some r → w.heap.size ≤ r ∧ r ∉ Ds ∧ ∃ o, W.heap[r]? = some o ∧ o.isCells = false) : BX w W' X Ds := by
  have f := Fr.of hg
  have no : ∀ b cs t, Has W b cs t → row ≠ some b := fun b cs t hb e => by
    obtain ⟨_, _, o, q1, q2⟩ := hr b e
    unfold Has at hb
    rw [hb] at q1; cases q1; cases q2
  refine ⟨fun p hp => (h.x p hp).fr f (no _ _ _ (h.x p hp)), h.lo, fun D hD => ?_, fr_mine h.g f (fun i e => (hr i e).1)⟩
  have := h.d D hD
  rw [f.block D (Array.getElem?_eq_some_iff.1 this).1 (fun e => (hr D e).2.1 hD), this]
theorem BX.grown {w W W' : World} {X : List (Nat × Value × TypeId)} {Ds : List Nat} (h : BX w W X Ds) (hg : W.grownBy W' none) : BX w W' X Ds := h.turn hg (fun r e => by cases e)
theorem BX.own {β : Type} {w : World} {B : Nat} (X : β → List (Nat × Value × TypeId)) (Ds : List Nat) (hB : w.heap.size ≤ B) (hD : ∀ D ∈ Ds, D < B) : OwnFrom B (fun (s : β) W => BX w W (X s) Ds) :=
  fun s W W' row hs hg hr => hs.turn hg (fun r e => ⟨Nat.le_trans hB (hr r e).1, fun hm => by have := hD r hm; have := (hr r e).1; omega, (hr r e).2⟩)
theorem BX.put {w W : World} {X : List (Nat × Value × TypeId)} {Ds : List Nat} {b : Nat} {u : Value} {t : TypeId} (h : BX w W ((b, u, t) :: X) Ds) (hne : ∀ p ∈ X, p.1 ≠ b) (u' : Value) : BX w (W.setCell ⟨b, 0, none⟩ u') ((b, u', t) :: X) Ds := by
  have hb := h.x (b, u, t) (by simp)
  have f : Fr (fun i => i = b) W (W.setCell ⟨b, 0, none⟩ u') := Fr.ofSome (gr_set _ _ _ _) rfl
  have hl := h.lo (b, u, t) (by simp)
  refine ⟨fun p hp => ?_, fun p hp => ?_, fun D hD => ?_, fr_mine h.g f (fun i e => by rw [e]; exact hl)⟩
  · rcases List.mem_cons.1 hp with rfl | hp
    · exact hb.setCell 0 u'
    · exact (h.x p (by simp [hp])).fr f (hne p hp)
  · rcases List.mem_cons.1 hp with rfl | hp
    · exact hl
    · exact h.lo p (by simp [hp])
  · exact (keeps_fr f (fun i e => .inr (by rw [e]; exact has_cells hb))).same D _ (h.d D hD) rfl
theorem BX.add {w W : World} {X : List (Nat × Value × TypeId)} {Ds : List Nat} (h : BX w W X Ds) (u : Value) (t : TypeId) : BX w (W.alloc (.cells #[u] t)) ((W.heap.size, u, t) :: X) Ds := by
  have h' := h.grown (World.grownBy_alloc W (.cells #[u] t) none)
  have hsz := h.g.size
  refine ⟨fun p hp => ?_, fun p hp => ?_, h'.d, h'.g⟩
  · rcases List.mem_cons.1 hp with rfl | hp
    · exact Has.newA W #[u] t
    · exact h'.x p hp
  · rcases List.mem_cons.1 hp with rfl | hp
    · exact hsz
    · exact h'.lo p hp
theorem BX.cell {w W : World} {X : List (Nat × Value × TypeId)} {Ds : List Nat} (h : BX w W X Ds) (b : Nat) (u : Value) (t : TypeId) (hp : (b, u, t) ∈ X) : W.cell? ⟨b, 0, none⟩ = some u ∧ W.frozen? ⟨b, 0, none⟩ = false :=
  ⟨(h.x (b, u, t) hp).cellv 0 _ rfl, (h.x (b, u, t) hp).frozen _⟩
theorem BX.nil (w : World) : BX w w [] [] := ⟨fun p hp => (by cases hp), fun p hp => (by cases hp), fun p hp => (by cases hp), World.grownBy.refl _ _⟩
theorem DAt.cells {w : World} {db : Nat} {a : Option Addr} {c sz : Nat} {L : List Int} (h : DAt w db a c sz L) : w.cell? ⟨db, 0, none⟩ = some (.slice a L.length c) ∧ w.cell? ⟨db, 1, none⟩ = some (.int .i64 sz) := ⟨h.h.cellv 0 _ rfl, h.h.cellv 1 _ rfl⟩

set_option maxRecDepth 100000 in
set_option maxHeartbeats 4000000 in
theorem whole_c (rb db : Nat) (v : Value) (sz : Nat) (L : List Int) (a : Option Addr) (c : Nat) (w : World) (hr : RingAt w rb v sz L) (hd : DAt w db a c sz L) :
    Calls Try.prog 25 #[.pointer (some ⟨rb, 0, none⟩), .pointer (some ⟨db, 0, none⟩)] w fun e w' => e = .returned (.bool true) ∧ w.grownBy w' none := by
  have HR : Keep (RingAt w rb v sz L ∧ DAt w db a c sz L) := ⟨hr, hd⟩
  have hle : L.length ≤ sz := hd.le
  have hhi := hd.hi
  clear hr hd
  refine calls_of_wpN Try.func25 rfl ?_
  simp only [Try.ntmps25, List.size_toArray, List.length_cons, List.length_nil, Nat.reduceAdd, Nat.reduceSub, Array.replicate_succ, Array.replicate_zero, List.push_toArray, List.append_toArray, List.nil_append, List.cons_append]
  gi_wp2_with fail
  have h2 := ((BX.nil w).add (.pointer (some ⟨db, 0, none⟩)) 53).add (.bool false) 4
  rw [World.size_alloc] at h2
  obtain ⟨w2, hw2⟩ : ∃ w2, (w.alloc (.cells #[.pointer (some ⟨db, 0, none⟩)] 53)).alloc (.cells #[.bool false] 4) = w2 := ⟨_, rfl⟩
  rw [hw2] at h2 ⊢
  obtain ⟨b3, hb3⟩ : ∃ b3, w.heap.size = b3 := ⟨_, rfl⟩
  simp only [hb3] at h2 ⊢
  obtain ⟨b4, hb4⟩ : ∃ b4, b3 + 1 = b4 := ⟨_, rfl⟩
  simp only [hb4] at h2 ⊢
  have H2 : Keep (BX w w2 [(b4, .bool false, 4), (b3, .pointer (some ⟨db, 0, none⟩), 53)] [] ∧ b3 < b4 ∧ w.heap.size ≤ b3) := ⟨h2, by omega, by omega⟩
  clear h2 hw2 hb3 hb4
  have HR2 : Keep (RingAt w2 rb v sz L ∧ DAt w2 db a c sz L) := ⟨HR.out.1.kept H2.out.1.g, HR.out.2.kept H2.out.1.g⟩
  have c3 := (H2.out.1.cell b3 (.pointer (some ⟨db, 0, none⟩)) 53 (by simp)).1
  have cd0 := HR2.out.2.cells.1
  have cd1 := HR2.out.2.cells.2
  have HC14 : Keep (∀ k, Calls Try.prog 14 #[.pointer (some ⟨rb, 0, none⟩)] (w2.drewN k) fun e w' => e = .returned (.int .i64 (L.length : Nat)) ∧ w' = w2.drewN k) := ⟨fun k => len_c rb v sz L _ (HR2.out.1.drewN k)⟩
  have HC16 : Keep (∀ k, Calls Try.prog 16 #[.pointer (some ⟨rb, 0, none⟩)] (w2.drewN k) fun e w' => e = .returned (.int .i64 ((sz : Int) - (L.length : Nat))) ∧ ∃ n, w' = (w2.drewN k).drewN n) := ⟨fun k => room_c rb v sz L _ (HR2.out.1.drewN k)⟩
  have HLN : Keep (L.length = L.length) := ⟨rfl⟩
  obtain ⟨n, hn⟩ : ∃ n, L.length = n := ⟨_, rfl⟩
  rw [hn] at cd0 HC14 HC16 hle
  have HN : Keep (L.length = n) := ⟨hn⟩
  clear hn
  have hws : IntKind.i64.wrap ((sz : Int) - n) = sz - n := wi _ (by omega) (by omega)
  refine wpIn_wide.2 ?_
  go_quiet ((first | (go_at_call 14; exact Calls.quiet_of_same (HC14.out _)) | (go_at_call 16; exact Calls.quiet_of (HC16.out _))))
  clear HC14 HC16 c3 cd0 cd1 HLN
  generalize hw3 : World.drewN w2 _ = w3
  have H3 : Keep (BX w w3 [(b4, .bool false, 4), (b3, .pointer (some ⟨db, 0, none⟩), 53)] []) := ⟨by rw [← hw3]; exact H2.out.1.grown (gr_drewN _ _ _)⟩
  clear hw3 HR2
  gi_wp2_with fail
  have h4 := H3.out.add (.int .i64 0) 3
  have hlt3 : ∀ p ∈ [(b4, Value.bool false, (4 : TypeId)), (b3, Value.pointer (some ⟨db, 0, none⟩), 53)], p.1 < w3.heap.size := fun p hp => (H3.out.x p hp).lt
  obtain ⟨w4, hw4⟩ : ∃ w4, w3.alloc (.cells #[.int .i64 0] 3) = w4 := ⟨_, rfl⟩
  have hs4 : w4.heap.size = w3.heap.size + 1 := by rw [← hw4]; simp
  rw [hw4] at h4 ⊢
  obtain ⟨nb, hnb⟩ : ∃ nb, w3.heap.size = nb := ⟨_, rfl⟩
  simp only [hnb] at h4 hlt3 hs4 ⊢
  clear hw4 hnb H3
  refine ⟨trivial, (callsIn_wide.2 (all_c rb w4)).mono ?_⟩
  rintro e w5 ⟨rfl, hw5⟩
  have h5 := h4.add (.pointer (some ⟨rb, 0, none⟩)) 24
  have hs5 : w5.heap.size = w4.heap.size + 1 := by rw [hw5]; simp
  rw [← hw5] at h5
  obtain ⟨Bn, hBn⟩ : ∃ Bn, w4.heap.size = Bn := ⟨_, rfl⟩
  simp only [hBn] at h5 hs5 ⊢
  have HX : Keep (b3 < nb ∧ b4 < nb ∧ b3 < b4 ∧ nb < Bn ∧ Bn < w5.heap.size ∧ w.heap.size ≤ w5.heap.size) := ⟨hlt3 (b3, .pointer (some ⟨db, 0, none⟩), 53) (by simp), hlt3 (b4, .bool false, 4) (by simp), H2.out.2.1, by omega, by omega, h5.g.size⟩
  have H5 : Keep (BX w w5 [(nb, .int .i64 0, 3), (Bn, .pointer (some ⟨rb, 0, none⟩), 24), (b4, .bool false, 4), (b3, .pointer (some ⟨db, 0, none⟩), 53)] []) := ⟨h5.sub (fun p hp => by simp at hp ⊢; rcases hp with rfl | rfl | rfl | rfl <;> simp) (fun p hp => hp)⟩
  clear h4 h5 hs4 hs5 hw5 hBn hlt3 H2
  gi_wp2_with fail
  refine wpIn_rangeFunc_ownG (α := Nat) (n := 8) rfl (by decide) (gf := 31) (lb := #[.pointer (some ⟨Bn, 0, none⟩)]) rfl trivial (enters_of Try.func31 (by kernel_rfl) rfl)
    (all_stops 7 Bn rb v sz L [nb] [] w5 (by decide) (H5.out.cell Bn (.pointer (some ⟨rb, 0, none⟩)) 24 (by simp)).1 (HR.out.1.kept H5.out.g) (fun b hb => by have := HX.out; simp at hb; omega) (fun f hf => by cases hf))
    Kp.trans (kp_b (fun f hf => by cases hf)) (Below.refl _ _) (by exact fun _ => rfl)
    (fun pre W => pre = List.range pre.length ∧ BX w W [(nb, .int .i64 pre.length, 3), (Bn, .pointer (some ⟨rb, 0, none⟩), 24), (b4, .bool false, 4), (b3, .pointer (some ⟨db, 0, none⟩), 53)] [])
    (fun _ pre _ => ¬ (pre = List.range pre.length))
    (OwnFrom.and (ownFrom_pure _ _) (BX.own (fun (pre : List Nat) => [(nb, .int .i64 pre.length, 3), (Bn, .pointer (some ⟨rb, 0, none⟩), 24), (b4, .bool false, 4), (b3, .pointer (some ⟨db, 0, none⟩), 53)]) [] HX.out.2.2.2.2.2 (fun D hD => by cases hD)))
    (fun _ => ownFrom_pure _ _)
    ⟨rfl, H5.out⟩ ?a1 ?assign ?body ?done ?stop
  case assign =>
    intro lp x W K hK
    gi_wp2
    exact hK
  case stop =>
    rintro D cc pre W _ hsp hbad
    exact absurd hsp.1 hbad
  case done =>
    rintro D xs W hD rfl ⟨_, hI⟩ hK
    rw [List.length_range, HN.out] at hI
    have H6 : Keep (BX w W [(nb, .int .i64 n, 3), (Bn, .pointer (some ⟨rb, 0, none⟩), 24), (b4, .bool false, 4), (b3, .pointer (some ⟨db, 0, none⟩), 53)] [D]) := ⟨⟨hI.x, hI.lo, fun E hE => by rw [List.mem_singleton] at hE; rw [hE]; exact hK, hI.g⟩⟩
    have HD2 : Keep (DAt W db a c sz L ∧ w.heap.size ≤ D) := ⟨HR.out.2.kept hI.g, by have := HX.out; omega⟩
    clear hI hK
    have cN := (H6.out.cell nb (.int .i64 n) 3 (by simp)).1
    have c3 := (H6.out.cell b3 (.pointer (some ⟨db, 0, none⟩)) 53 (by simp)).1
    have c4 := (H6.out.cell b4 (.bool false) 4 (by simp)).1
    have f4 := (H6.out.cell b4 (.bool false) 4 (by simp)).2
    have cd := HD2.out.1.cells.1
    rw [HN.out] at cd
    have hdb : db < w.heap.size := HR.out.2.h.lt
    have n1 : b4 ≠ nb := by have := HX.out; omega
    have n2 : b4 ≠ b3 := by have := HX.out; omega
    have n3 : b4 ≠ db := by have := H6.out.lo (b4, .bool false, 4) (by simp); simp only at this; omega
    gi_wp2_with fail
    refine wpIn_wide.2 ?_
    go_region_held (fun w' => w'.cell? ⟨nb, 0, none⟩ = some (.int .i64 n) ∧ w'.cell? ⟨b3, 0, none⟩ = some (.pointer (some ⟨db, 0, none⟩)) ∧ w'.cell? ⟨db, 0, none⟩ = some (.slice a n c)) (first | exact ⟨cN, c3, cd⟩ | exact ⟨(World.cell?_setCell_far _ _ _ _ n1).trans cN, (World.cell?_setCell_far _ _ _ _ n2).trans c3, (World.cell?_setCell_far _ _ _ _ n3).trans cd⟩) (fail)
    gi_wp2_with fail
    have hput := ((H6.out.sub (X' := [(b4, .bool false, 4)]) (Ds' := [D]) (fun p hp => by simp at hp; subst hp; simp) (fun p hp => hp)).grown (gr_drewN W 1 none)).put (fun p hp => by cases hp) (.bool true)
    refine leaves_retN (p := 4) rfl b4 true rfl w _ [D] rfl (by simp) (fun E hE => ?_) (hput.x (b4, .bool true, 4) (by simp)) hput.g
    rw [List.mem_singleton] at hE
    rw [hE]
    exact ⟨hput.d D (by simp), HD2.out.2⟩
  case body =>
    rintro lp pre x W ⟨hpre, hI⟩ hlen
    have HI : Keep (BX w W [(nb, .int .i64 pre.length, 3), (Bn, .pointer (some ⟨rb, 0, none⟩), 24), (b4, .bool false, 4), (b3, .pointer (some ⟨db, 0, none⟩), 53)] []) := ⟨hI⟩
    have HPRE : Keep (pre = List.range pre.length) := ⟨hpre⟩
    clear hI hpre
    obtain ⟨m, hm⟩ : ∃ m, pre.length = m := ⟨_, rfl⟩
    have HMM : Keep (pre.length = m) := ⟨hm⟩
    rw [hm] at HI hlen
    have hmn : m < n := by rw [HN.out] at hlen; exact hlen
    clear hm hlen
    have HD2 : Keep (DAt W db a c sz L) := ⟨HR.out.2.kept HI.out.g⟩
    have cN := (HI.out.cell nb (.int .i64 m) 3 (by simp)).1
    have fN := (HI.out.cell nb (.int .i64 m) 3 (by simp)).2
    have c3 := (HI.out.cell b3 (.pointer (some ⟨db, 0, none⟩)) 53 (by simp)).1
    have c4 := (HI.out.cell b4 (.bool false) 4 (by simp)).1
    have f4 := (HI.out.cell b4 (.bool false) 4 (by simp)).2
    have cd := HD2.out.cells.1
    rw [HN.out] at cd
    have hge : ¬ ((n : Int) ≤ (m : Int)) := by omega
    by_cases hxm : x = m
    · subst hxm
      obtain ⟨y, hy⟩ : ∃ y, L[x]? = some y := ⟨_, List.getElem?_eq_getElem (by rw [HN.out]; omega)⟩
      rw [hy]
      simp only [Option.getD_some]
      obtain ⟨B, o, hBo, hcc⟩ := HD2.out.row.ints.at_ (by rw [HN.out]; omega)
      subst hBo
      have e2 := hcc x y hy
      have hlt : (x : Int) < n := by omega
      have hwi : IntKind.i64.wrap ((x : Int) + 1) = x + 1 := wi _ (by omega) (by omega)
      clear hcc hy
      gi_wp2_with fail
      have hd1 : decide (n ≤ x) = false := by simp; omega
      have hd2 : decide ((n : Int) ≤ (x : Int)) = false := by simp; omega
      refine quiet_round (by kernel_rfl) (by kernel_rfl) (by kernel_rfl) ?_
      repeat (quiet_step_in (fail))
      refine wpQuietIn_nil ?_
      intro _ hw'
      obtain ⟨nq, hw''⟩ := hw'
      subst hw''
      have HB2 := HI.out.grown (gr_drewN W nq none)
      have HS : Keep (BX w ((W.drewN nq).setCell ⟨nb, 0, none⟩ (.int .i64 ((x : Int) + 1))) [(nb, .int .i64 ((x : Int) + 1), 3), (Bn, .pointer (some ⟨rb, 0, none⟩), 24), (b4, .bool false, 4), (b3, .pointer (some ⟨db, 0, none⟩), 53)] [] ∧ Did [nb] [] W ((W.drewN nq).setCell ⟨nb, 0, none⟩ (.int .i64 ((x : Int) + 1)))) := by
        have q := HX.out
        refine ⟨HB2.put (fun p hp => ?_) _, ((Did.refl _ _ W).turn (gr_drewN W nq none) (fun r e => by cases e)).trans (Did.set (HB2.x (nb, .int .i64 x, 3) (by simp)) (by simp) (fun f hf => by cases hf) _)⟩
        simp at hp
        rcases hp with rfl | rfl | rfl <;> simp only <;> omega
      gi_wp2_with fail
      refine ⟨HS.out.2.k.from _, HS.out.2.p, range_good HPRE.out HMM.out.symm, ?_⟩
      rw [List.length_append, List.length_singleton, HMM.out]
      exact HS.out.1
    · have hxm2 : ((x : Int) == (m : Int)) = false := beq_eq_false_iff_ne.2 (fun h => hxm (Int.ofNat_inj.1 h))
      gi_wp2_with fail
      have hd1 : decide (n ≤ m) = false := by simp; omega
      have hd2 : decide ((n : Int) ≤ (m : Int)) = false := by simp; omega
      have hd3 : ((x : Int) == (m : Int)) = false := beq_eq_false_iff_ne.2 (fun h => hxm (Int.ofNat_inj.1 h))
      have hd4 : ((x : Int) != (m : Int)) = true := by rw [bne, hd3]; rfl
      have hd5 : (x == m) = false := beq_eq_false_iff_ne.2 hxm
      have hd6 : (x != m) = true := by rw [bne, hd5]; rfl
      refine quiet_round (by kernel_rfl) (by kernel_rfl) (by kernel_rfl) ?_
      repeat (quiet_step_in (fail))
      refine wpQuietIn_nil ?_
      intro _ hw'
      obtain ⟨nq, hw''⟩ := hw'
      subst hw''
      gi_wp2_with fail
      exact ⟨(((KeepsOthers.refl W).trans (keeps_fr (Fr.ofNone (S := fun _ => False) (gr_drewN W nq none)) (fun _ e => e.elim))).trans (KeepsOthers.setCell _ _ _)).from _, range_bad (by rw [HMM.out]; exact hxm)⟩
end Go.Proofs.Ytflglflggeaokaa
