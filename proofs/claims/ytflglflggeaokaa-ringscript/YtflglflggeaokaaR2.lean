/- the laws' ranged. -/
import Derived.Test.YtflglflggeaokaaR1
namespace Go.Proofs.Ytflglflggeaokaa
open Go Go.RowKit Go.Shelf
attribute [local go_sem] Oper.semAt_some

theorem leaves_gen {fn : Func} {p : Tmp} (h : fn.results = #[.cell p 4]) (tmps : Array Value) (b : Nat) (u : Bool) (hp : tmps.getD p undef = .pointer (some ⟨b, 0, none⟩)) (T : World → Prop) : ∀ (Ds : List Nat) (W : World), Ds.Nodup → (∀ D ∈ Ds, W.heap[D]? = some (.deferred (some []))) → (∀ D ∈ Ds, ∀ W : World, W.heap[D]? = some (.deferred (some [])) → T W → T (W.putObj D (.deferred none))) → Has W b [.bool u] 4 → T W →
    LeavesInM Fence.wide 8 Try.prog fn tmps (fun e w' => e = .returned (.bool u) ∧ T w') (Ds.map fun D => { target := .collected D, args := #[] }) .returning W
  | [], W, _, _, _, hb, hT => ⟨_, run_result4 h tmps W b u hp hb, rfl, hT⟩
  | D :: Ds, W, hn, hD, hS, hb, hT => by
    have h1 := hD D (by simp)
    have hn2 := List.nodup_cons.1 hn
    have hgp := grownBy_putObj' W D (.deferred none)
    have hne : b ≠ D := fun e => by
      subst e
      unfold Has at hb
      rw [hb] at h1; cases h1
    refine ⟨by simp, .inl ⟨D, _, rfl, run_takeDeferred h1, ?_⟩⟩
    refine leaves_gen h tmps b u hp T Ds _ hn2.2 (fun E hE => ?_) (fun E hE => hS E (by simp [hE])) (hb.kept hgp (by simpa using hne)) (hS D (by simp) W h1 hT)
    have h2 := hD E (by simp [hE])
    rw [hgp.block E (Array.getElem?_eq_some_iff.1 h2).1 (by simp; rintro rfl; exact hn2.1 hE), h2]
theorem leaves_genN {fn : Func} {p : Tmp} {a : Act} (h : fn.results = #[.cell p 4]) (b : Nat) (u : Bool) (hp : a.tmps.getD p undef = .pointer (some ⟨b, 0, none⟩)) (T : World → Prop) (W : World) (Ds : List Nat) (hds : a.defers = Ds.map fun D => { target := .collected D, args := #[] }) (hn : Ds.Nodup) (hD : ∀ D ∈ Ds, W.heap[D]? = some (.deferred (some []))) (hS : ∀ D ∈ Ds, ∀ W : World, W.heap[D]? = some (.deferred (some [])) → T W → T (W.putObj D (.deferred none))) (hb : Has W b [.bool u] 4) (hT : T W) :
    bodyPostN fn (fun e w' => e = .returned (.bool u) ∧ T w') .ret a W := by
  show LeavesInM _ _ _ _ _ _ a.defers .returning W
  rw [hds]
  exact leaves_gen h a.tmps b u hp T Ds W hn hD hS hb hT
theorem drow_x {w : World} {a : Option Addr} {c B : Nat} {L : List Int} (h : DRow w a c L) (hB : ∀ g o, a = some ⟨g, o, none⟩ → B ≤ g) : ∃ XW : List (Nat × List Value × TypeId), (∀ p ∈ XW, Has w p.1 p.2.1 p.2.2 ∧ B ≤ p.1) ∧ ∀ W : World, (∀ p ∈ XW, Has W p.1 p.2.1 p.2.2) → DRow W a c L := by
  rcases h.or with e | ⟨g, o, cs, rfl, hh, r⟩
  · exact ⟨[], fun p hp => (by cases hp), fun W _ => ⟨.inl e⟩⟩
  · exact ⟨[(g, cs, 3)], fun p hp => by rw [List.mem_singleton] at hp; subst hp; exact ⟨hh, hB g o rfl⟩, fun W hW => ⟨.inr ⟨g, o, cs, rfl, hW (g, cs, 3) (by simp), r⟩⟩⟩
theorem RG.adds {w W W' : World} {rb : Nat} {v0 : Value} {db : Nat} {a0 : Option Addr} {sz : Nat} {QR QD : List Int} {X : List (Nat × List Value × TypeId)} {Ds : List Nat} (h : RG w W rb v0 db a0 sz QR QD X Ds) (hg : W.grownBy W' none) (XW : List (Nat × List Value × TypeId)) (hx : ∀ p ∈ XW, Has W' p.1 p.2.1 p.2.2 ∧ W.heap.size ≤ p.1) : RG w W' rb v0 db a0 sz QR QD (XW ++ X) Ds := by
  have h' := h.grown hg
  have hsz := h.f.size
  obtain ⟨v, a, c, r, d, h1, h2, h3, h4⟩ := h.e
  refine ⟨⟨v, a, c, r.kept hg, d.kept hg, h1, h2, h3, fun p hp => ?_⟩, fun p hp => ?_, fun p hp => ?_, h'.d, h'.f⟩
  · rcases List.mem_append.1 hp with hp | hp
    · have := (hx p hp).2
      exact ⟨fun e => by have := r.lt _ e; omega, fun e => by have := d.lt _ e; omega⟩
    · exact h4 p hp
  · rcases List.mem_append.1 hp with hp | hp
    · exact (hx p hp).1
    · exact h'.x p hp
  · rcases List.mem_append.1 hp with hp | hp
    · have := (hx p hp).2; omega
    · exact h'.lo p hp
theorem RG.box {w W : World} {rb : Nat} {v0 : Value} {db : Nat} {a0 : Option Addr} {sz : Nat} {QR QD : List Int} {X : List (Nat × List Value × TypeId)} {Ds : List Nat} (h : RG w W rb v0 db a0 sz QR QD X Ds) (u : Value) (t : TypeId) : RG w (W.alloc (.cells #[u] t)) rb v0 db a0 sz QR QD ((W.heap.size, [u], t) :: X) Ds :=
  h.add (World.grownBy_alloc _ _ _) (Has.newA W #[u] t) (Nat.le_refl _)

set_option maxRecDepth 100000 in
set_option maxHeartbeats 8000000 in
theorem ranged_c (rb db : Nat) (v : Value) (sz : Nat) (L : List Int) (a : Option Addr) (c : Nat) (stop : Int) (w : World) (hr : RingAt w rb v sz L) (hd : DAt w db a c sz L) (hap : ∀ i, RF rb v i → ¬ DF db a i) :
    Calls Try.prog 38 #[.pointer (some ⟨rb, 0, none⟩), .pointer (some ⟨db, 0, none⟩), .int .i64 stop] w fun e w' => e = .returned (.bool true) ∧ ∃ Q, RG w w' rb v db a sz Q Q [] [] := by
  have H0 : RG w w rb v db a sz L L [] [] := ⟨⟨v, a, c, hr, hd, fun _ h => .inl h, fun _ h => .inl h, hap, fun p hp => (by cases hp)⟩, fun p hp => (by cases hp), fun p hp => (by cases hp), fun p hp => (by cases hp), Fr.refl _ _⟩
  have hle : L.length ≤ sz := hd.le
  have hhi := hd.hi
  clear hr hd hap
  refine calls_of_wpN Try.func38 rfl ?_
  simp only [Try.ntmps38, List.size_toArray, List.length_cons, List.length_nil, Nat.reduceAdd, Nat.reduceSub, Array.replicate_succ, Array.replicate_zero, List.push_toArray, List.append_toArray, List.nil_append, List.cons_append]
  have h4 := (((H0.box (.pointer (some ⟨rb, 0, none⟩)) 24).box (.pointer (some ⟨db, 0, none⟩)) 53).box (.int .i64 stop) 3).box (.bool false) 4
  rw [World.size_alloc, World.size_alloc, World.size_alloc] at h4
  clear H0
  gi_wp2_with fail
  obtain ⟨w4, hw4⟩ : ∃ w4, (((w.alloc (.cells #[.pointer (some ⟨rb, 0, none⟩)] 24)).alloc (.cells #[.pointer (some ⟨db, 0, none⟩)] 53)).alloc (.cells #[.int .i64 stop] 3)).alloc (.cells #[.bool false] 4) = w4 := ⟨_, rfl⟩
  rw [hw4] at h4 ⊢
  obtain ⟨b3, hb3⟩ : ∃ b3, w.heap.size = b3 := ⟨_, rfl⟩
  simp only [hb3] at h4 ⊢
  obtain ⟨b4, hb4⟩ : ∃ b4, b3 + 1 = b4 := ⟨_, rfl⟩
  simp only [hb4] at h4 ⊢
  obtain ⟨b5, hb5⟩ : ∃ b5, b4 + 1 = b5 := ⟨_, rfl⟩
  simp only [hb5] at h4 ⊢
  obtain ⟨b6, hb6⟩ : ∃ b6, b5 + 1 = b6 := ⟨_, rfl⟩
  simp only [hb6] at h4 ⊢
  have H4 : Keep (RG w w4 rb v db a sz L L [(b6, [.bool false], 4), (b5, [.int .i64 stop], 3), (b4, [.pointer (some ⟨db, 0, none⟩)], 53), (b3, [.pointer (some ⟨rb, 0, none⟩)], 24)] []) := ⟨h4⟩
  have HB : Keep (b3 < b4 ∧ b4 < b5 ∧ b5 < b6 ∧ b6 < w4.heap.size) := ⟨by omega, by omega, by omega, (h4.x (b6, [.bool false], 4) (by simp)).lt⟩
  clear h4 hw4 hb3 hb4 hb5 hb6
  obtain ⟨v4, a4, c4, _, hd4, _⟩ := H4.out.e
  refine ⟨trivial, (callsIn_wide.2 (dall_c db a4 c4 sz L w4 hd4)).mono ?_⟩
  rintro e w5 ⟨aw, cw, rfl, k1, k2, k3⟩
  obtain ⟨XW, x1, x2⟩ := drow_x k1 k3
  have H5 : Keep (RG w w5 rb v db a sz L L (XW ++ [(b6, [.bool false], 4), (b5, [.int .i64 stop], 3), (b4, [.pointer (some ⟨db, 0, none⟩)], 53), (b3, [.pointer (some ⟨rb, 0, none⟩)], 24)]) []) := ⟨H4.out.adds k2 XW x1⟩
  have HWAS : Keep ((∀ W : World, (∀ p ∈ XW, Has W p.1 p.2.1 p.2.2) → DRow W aw cw L) ∧ ∀ p ∈ XW, b6 < p.1) := ⟨x2, fun p hp => by have := (x1 p hp).2; have := HB.out; omega⟩
  have HB5 : Keep (∀ p ∈ XW ++ [(b6, [Value.bool false], (4 : TypeId)), (b5, [.int .i64 stop], 3), (b4, [.pointer (some ⟨db, 0, none⟩)], 53), (b3, [.pointer (some ⟨rb, 0, none⟩)], 24)], p.1 < w5.heap.size) := ⟨fun p hp => (H5.out.x p hp).lt⟩
  clear x1 x2 k1 k2 k3 H4 hd4
  obtain ⟨n, hn⟩ : ∃ n, L.length = n := ⟨_, rfl⟩
  rw [hn] at hle ⊢
  have HN : Keep (L.length = n) := ⟨hn⟩
  clear hn
  have h6 := (H5.out.box (.slice aw n cw) 22).box (.int .i64 0) 3
  rw [World.size_alloc] at h6
  have c3 : ((w5.alloc (.cells #[.slice aw n cw] 22)).alloc (.cells #[.int .i64 0] 3)).cell? ⟨b3, 0, none⟩ = some (.pointer (some ⟨rb, 0, none⟩)) := (h6.cell b3 (.pointer (some ⟨rb, 0, none⟩)) 24 (by simp)).1
  gi_wp2_with fail
  clear c3
  obtain ⟨w6, hw6⟩ : ∃ w6, (w5.alloc (.cells #[.slice aw n cw] 22)).alloc (.cells #[.int .i64 0] 3) = w6 := ⟨_, rfl⟩
  have hs6 : w6.heap.size = w5.heap.size + 1 + 1 := by rw [← hw6]; simp
  rw [hw6] at h6 ⊢
  obtain ⟨b7, hb7⟩ : ∃ b7, w5.heap.size = b7 := ⟨_, rfl⟩
  simp only [hb7] at h6 hs6 HB5 ⊢
  obtain ⟨nb, hnb⟩ : ∃ nb, b7 + 1 = nb := ⟨_, rfl⟩
  simp only [hnb] at h6 hs6 ⊢
  have H6 : Keep (RG w w6 rb v db a sz L L ((nb, [.int .i64 0], 3) :: (b7, [.slice aw n cw], 22) :: (XW ++ [(b6, [.bool false], 4), (b5, [.int .i64 stop], 3), (b4, [.pointer (some ⟨db, 0, none⟩)], 53), (b3, [.pointer (some ⟨rb, 0, none⟩)], 24)])) []) := ⟨h6⟩
  have HB6 : Keep (b7 < nb ∧ w6.heap.size = nb + 1) := ⟨by omega, by omega⟩
  clear h6 hw6 hs6 hb7 hnb H5
  refine ⟨trivial, (callsIn_wide.2 (all_c rb w6)).mono ?_⟩
  rintro e w7 ⟨rfl, hw7⟩
  have h7 := H6.out.box (.pointer (some ⟨rb, 0, none⟩)) 24
  have hs7 : w7.heap.size = w6.heap.size + 1 := by rw [hw7]; simp
  rw [← hw7] at h7
  obtain ⟨Bn, hBn⟩ : ∃ Bn, w6.heap.size = Bn := ⟨_, rfl⟩
  simp only [hBn] at h7 hs7 ⊢
  obtain ⟨R, hR⟩ : ∃ R : List (Nat × List Value × TypeId), R = (Bn, [.pointer (some ⟨rb, 0, none⟩)], 24) :: (b7, [.slice aw n cw], 22) :: (XW ++ [(b6, [.bool false], 4), (b5, [.int .i64 stop], 3), (b4, [.pointer (some ⟨db, 0, none⟩)], 53), (b3, [.pointer (some ⟨rb, 0, none⟩)], 24)]) := ⟨_, rfl⟩
  have HRm : Keep ((Bn, [Value.pointer (some ⟨rb, 0, none⟩)], (24 : TypeId)) ∈ R ∧ (b7, [Value.slice aw n cw], (22 : TypeId)) ∈ R ∧ (b6, [Value.bool false], (4 : TypeId)) ∈ R ∧ (b5, [Value.int .i64 stop], (3 : TypeId)) ∈ R ∧ (b4, [Value.pointer (some ⟨db, 0, none⟩)], (53 : TypeId)) ∈ R ∧ (b3, [Value.pointer (some ⟨rb, 0, none⟩)], (24 : TypeId)) ∈ R ∧ (∀ p ∈ XW, p ∈ R) ∧ (∀ p ∈ R, p.1 ≠ nb)) := by
    rw [hR]
    refine ⟨by simp, by simp, by simp, by simp, by simp, by simp, fun p hp => by simp [hp], fun p hp => ?_⟩
    have q := HB6.out
    rcases List.mem_cons.1 hp with rfl | hp
    · simp only; omega
    · rcases List.mem_cons.1 hp with rfl | hp
      · simp only; omega
      · have := HB5.out p hp; omega
  have H7 : Keep (RG w w7 rb v db a sz L L ((nb, [.int .i64 0], 3) :: R) []) := ⟨by rw [hR]; exact h7.sub (fun p hp => by simp only [List.mem_cons] at hp ⊢; rcases hp with rfl | rfl | rfl | hp <;> simp [*]) (fun p hp => hp)⟩
  have HS7 : Keep (nb < w7.heap.size ∧ w.heap.size ≤ w7.heap.size) := ⟨by have := HB6.out; omega, h7.f.size⟩
  clear h7 hs7 hw7 hBn hR H6 HB5 HB6
  gi_wp2_with fail
  obtain ⟨v7, a7, c7, r7, d7, h71, h72, h73, h74⟩ := H7.out.e
  have hrb7 : rb < w7.heap.size := r7.lt rb (.inl rfl)
  have hdb7 : db < w7.heap.size := d7.lt db (.inl rfl)
  have hrfW : ∀ f ∈ [(⟨rb, 1, none⟩ : Addr), ⟨db, 0, none⟩], f.block < w7.heap.size := fun f hf => by
    simp at hf
    rcases hf with rfl | rfl
    · exact hrb7
    · exact hdb7
  have hfoot : ∀ f ∈ [(⟨rb, 1, none⟩ : Addr), ⟨db, 0, none⟩], f.block < w7.heap.size ∧ ∀ u, w7.cell? f = some u → ∀ b, Value.ownBlock u = some b → b < w7.heap.size := fun f hf => by
    refine ⟨hrfW f hf, fun u hu b hb => ?_⟩
    simp at hf
    rcases hf with rfl | rfl
    · obtain ⟨ff, P, hh, _⟩ := r7.st
      have cc : w7.cell? ⟨rb, 1, none⟩ = some v7 := hh.cellv 1 _ rfl
      rw [cc] at hu
      cases hu
      exact r7.lt b (.inr hb)
    · rw [d7.cells.1] at hu
      cases hu
      rcases d7.row.or with ⟨rfl, _⟩ | ⟨g, o, cs, rfl, hh, _⟩
      · cases hb
      · cases hb; exact hh.lt
  have hownQ : ∀ (k : List Nat → Nat), OwnFrom w7.heap.size (fun (pre : List Nat) W => ∃ Q, Q.length = n ∧ RG w W rb v db a sz Q Q ((nb, [.int .i64 (k pre : Nat)], 3) :: R) []) := fun k s W W' row hs hg hr => by
    obtain ⟨Q, q1, q2⟩ := hs
    exact ⟨Q, q1, q2.turn hg (fun r e => ⟨Nat.le_trans HS7.out.2 (hr r e).1, (by simp), (hr r e).2⟩)⟩
  refine wpIn_rangeFunc_ownG (α := Nat) (n := 8) rfl (by decide) (gf := 31) (lb := #[.pointer (some ⟨Bn, 0, none⟩)]) rfl trivial (enters_of Try.func31 (by kernel_rfl) rfl)
    (all_stops 7 Bn rb v7 sz L [rb, db, nb] [⟨rb, 1, none⟩, ⟨db, 0, none⟩] w7 (by decide) (H7.out.cell Bn (.pointer (some ⟨rb, 0, none⟩)) 24 (List.mem_cons_of_mem _ HRm.out.1)).1 r7 (fun b hb => by have := HS7.out; simp at hb; rcases hb with rfl | rfl | rfl <;> omega) hfoot)
    Kp.trans (kp_b hrfW) (Below.refl _ _) (by exact fun _ => rfl)
    (fun pre W => pre = List.range pre.length ∧ ∃ Q, Q.length = n ∧ RG w W rb v db a sz Q Q ((nb, [.int .i64 (pre.length : Nat)], 3) :: R) [])
    (fun cc pre W => ¬ (pre = List.range pre.length) ∨ (cc = .exit 0 ∧ ((pre.length : Nat) : Int) = stop ∧ ∃ Q, Q.length = n ∧ RG w W rb v db a sz Q Q ((nb, [.int .i64 (pre.length : Nat)], 3) :: R) []))
    (OwnFrom.and (ownFrom_pure _ _) (hownQ (fun pre => pre.length)))
    (fun _ s W W' row hs hg hr => hs.imp id (fun h => ⟨h.1, h.2.1, hownQ (fun pre => pre.length) s W W' row h.2.2 hg hr⟩))
    ⟨rfl, L, HN.out, H7.out⟩ ?a1 ?assign ?body ?done ?stop
  case assign =>
    intro lp x W K hK
    gi_wp2
    exact hK
  case stop =>
    rintro D cc pre W hD hsp hst hK
    rcases hst with hbad | ⟨rfl, hsto, Q, hQ, hI⟩
    · exact absurd hsp.1 hbad
    obtain ⟨m, hm⟩ : ∃ m, pre.length = m := ⟨_, rfl⟩
    rw [hm] at hsto hI
    have H8 : Keep (RG w W rb v db a sz Q Q ((nb, [.int .i64 m], 3) :: R) [D] ∧ w.heap.size ≤ D) := ⟨⟨hI.e, hI.x, hI.lo, fun E hE => by rw [List.mem_singleton] at hE; rw [hE]; exact hK, hI.f⟩, by have := HS7.out; omega⟩
    clear hI hK
    have cN := (H8.out.1.cell nb (.int .i64 m) 3 (by simp)).1
    have c7 := (H8.out.1.cell b7 (.slice aw n cw) 22 (List.mem_cons_of_mem _ HRm.out.2.1)).1
    have c6 := (H8.out.1.cell b6 (.bool false) 4 (List.mem_cons_of_mem _ HRm.out.2.2.1)).1
    have f6 := (H8.out.1.cell b6 (.bool false) 4 (List.mem_cons_of_mem _ HRm.out.2.2.1)).2
    have c5 := (H8.out.1.cell b5 (.int .i64 stop) 3 (List.mem_cons_of_mem _ HRm.out.2.2.2.1)).1
    have hms : ((m : Int) == stop) = true := by simp [hsto]
    by_cases hmn : m = n
    · have hmn1 : ((m : Int) == (n : Int)) = true := by simp [hmn]
      gi_wp2_with fail
      have hput := (H8.out.1.sub (X' := [(b6, [.bool false], 4)]) (Ds' := [D]) (fun p hp => by rw [List.mem_singleton] at hp; rw [hp]; exact List.mem_cons_of_mem _ HRm.out.2.2.1) (fun p hp => hp)).put (fun p hp => by cases hp) (.bool true)
      refine leaves_genN (p := 6) rfl b6 true rfl (fun w' => ∃ Q, RG w w' rb v db a sz Q Q [] []) _ [D] rfl (by simp) hput.d (fun E hE W1 h1 h2 => ?_) (hput.x (b6, [.bool true], 4) (by simp)) ⟨Q, hput.sub (fun p hp => by cases hp) (fun p hp => by cases hp)⟩
      rw [List.mem_singleton] at hE
      obtain ⟨Q1, h2⟩ := h2
      exact ⟨Q1, h2.turn (grownBy_putObj' W1 E (.deferred none)) (fun r e => by cases e; exact ⟨by rw [hE]; exact H8.out.2, by simp, _, h1, rfl⟩)⟩
    · have hmn1 : ((m : Int) == (n : Int)) = false := by simp; omega
      gi_wp2_with fail
      have hput := (H8.out.1.sub (X' := [(b6, [.bool false], 4)]) (Ds' := [D]) (fun p hp => by rw [List.mem_singleton] at hp; rw [hp]; exact List.mem_cons_of_mem _ HRm.out.2.2.1) (fun p hp => hp)).put (fun p hp => by cases hp) (.bool true)
      refine leaves_genN (p := 6) rfl b6 true rfl (fun w' => ∃ Q, RG w w' rb v db a sz Q Q [] []) _ [D] rfl (by simp) hput.d (fun E hE W1 h1 h2 => ?_) (hput.x (b6, [.bool true], 4) (by simp)) ⟨Q, hput.sub (fun p hp => by cases hp) (fun p hp => by cases hp)⟩
      rw [List.mem_singleton] at hE
      obtain ⟨Q1, h2⟩ := h2
      exact ⟨Q1, h2.turn (grownBy_putObj' W1 E (.deferred none)) (fun r e => by cases e; exact ⟨by rw [hE]; exact H8.out.2, by simp, _, h1, rfl⟩)⟩
  case done =>
    rintro D xs W hD rfl ⟨_, Q, hQ, hI⟩ hK
    rw [List.length_range, HN.out] at hI
    have H8 : Keep (RG w W rb v db a sz Q Q ((nb, [.int .i64 n], 3) :: R) [D] ∧ w.heap.size ≤ D) := ⟨⟨hI.e, hI.x, hI.lo, fun E hE => by rw [List.mem_singleton] at hE; rw [hE]; exact hK, hI.f⟩, by have := HS7.out; omega⟩
    clear hI hK
    have cN := (H8.out.1.cell nb (.int .i64 n) 3 (by simp)).1
    have c7 := (H8.out.1.cell b7 (.slice aw n cw) 22 (List.mem_cons_of_mem _ HRm.out.2.1)).1
    have c6 := (H8.out.1.cell b6 (.bool false) 4 (List.mem_cons_of_mem _ HRm.out.2.2.1)).1
    have f6 := (H8.out.1.cell b6 (.bool false) 4 (List.mem_cons_of_mem _ HRm.out.2.2.1)).2
    have c5 := (H8.out.1.cell b5 (.int .i64 stop) 3 (List.mem_cons_of_mem _ HRm.out.2.2.2.1)).1
    have hmn1 : ((n : Int) == (n : Int)) = true := by simp
    gi_wp2_with fail
    have hput := (H8.out.1.sub (X' := [(b6, [.bool false], 4)]) (Ds' := [D]) (fun p hp => by rw [List.mem_singleton] at hp; rw [hp]; exact List.mem_cons_of_mem _ HRm.out.2.2.1) (fun p hp => hp)).put (fun p hp => by cases hp) (.bool true)
    refine leaves_genN (p := 6) rfl b6 true rfl (fun w' => ∃ Q, RG w w' rb v db a sz Q Q [] []) _ [D] rfl (by simp) hput.d (fun E hE W1 h1 h2 => ?_) (hput.x (b6, [.bool true], 4) (by simp)) ⟨Q, hput.sub (fun p hp => by cases hp) (fun p hp => by cases hp)⟩
    rw [List.mem_singleton] at hE
    obtain ⟨Q1, h2⟩ := h2
    exact ⟨Q1, h2.turn (grownBy_putObj' W1 E (.deferred none)) (fun r e => by cases e; exact ⟨by rw [hE]; exact H8.out.2, by simp, _, h1, rfl⟩)⟩
  case body =>
    rintro lp pre x W ⟨hpre, Q, hQ, hI⟩ hlen
    have HI : Keep (RG w W rb v db a sz Q Q ((nb, [.int .i64 pre.length], 3) :: R) []) := ⟨hI⟩
    have HPRE : Keep (pre = List.range pre.length) := ⟨hpre⟩
    clear hI hpre
    obtain ⟨m, hm⟩ : ∃ m, pre.length = m := ⟨_, rfl⟩
    have HMM : Keep (pre.length = m) := ⟨hm⟩
    rw [hm] at HI hlen
    have hmn : m < n := by rw [HN.out] at hlen; exact hlen
    clear hm hlen
    have HWR : Keep (DRow W aw cw L) := ⟨HWAS.out.1 W (fun p hp => HI.out.x p (List.mem_cons_of_mem _ (HRm.out.2.2.2.2.2.2.1 p hp)))⟩
    have cN := (HI.out.cell nb (.int .i64 m) 3 (by simp)).1
    have fN := (HI.out.cell nb (.int .i64 m) 3 (by simp)).2
    have c7 := (HI.out.cell b7 (.slice aw n cw) 22 (List.mem_cons_of_mem _ HRm.out.2.1)).1
    have c6 := (HI.out.cell b6 (.bool false) 4 (List.mem_cons_of_mem _ HRm.out.2.2.1)).1
    have f6 := (HI.out.cell b6 (.bool false) 4 (List.mem_cons_of_mem _ HRm.out.2.2.1)).2
    have hge : ¬ ((n : Int) ≤ (m : Int)) := by omega
    by_cases hxm : x = m
    · subst hxm
      obtain ⟨y, hy⟩ : ∃ y, L[x]? = some y := ⟨_, List.getElem?_eq_getElem (by rw [HN.out]; omega)⟩
      rw [hy]
      simp only [Option.getD_some]
      obtain ⟨B, o, hBo, hcc⟩ := HWR.out.ints.at_ (by rw [HN.out]; omega)
      subst hBo
      have e2 := hcc x y hy
      have hlt : (x : Int) < n := by omega
      have hwi : IntKind.i64.wrap ((x : Int) + 1) = x + 1 := wi _ (by omega) (by omega)
      clear hcc hy HWR
      have HS : Keep (RG w (W.setCell ⟨nb, 0, none⟩ (.int .i64 ((x : Int) + 1))) rb v db a sz Q Q ((nb, [.int .i64 ((x : Int) + 1)], 3) :: R) [] ∧ Did [rb, db, nb] [⟨rb, 1, none⟩, ⟨db, 0, none⟩] W (W.setCell ⟨nb, 0, none⟩ (.int .i64 ((x : Int) + 1)))) := by
        refine ⟨HI.out.put HRm.out.2.2.2.2.2.2.2 _, Did.set (HI.out.x (nb, [.int .i64 x], 3) (by simp)) (by simp) (fun f hf e => ?_) _⟩
        obtain ⟨v8, a8, c8, r8, d8, _, _, _, h84⟩ := HI.out.e
        have := h84 (nb, [.int .i64 x], 3) (by simp)
        simp at hf
        rcases hf with rfl | rfl
        · exact this.1 (.inl e.symm)
        · exact this.2 (.inl e.symm)
      have c3 := (HS.out.1.cell b3 (.pointer (some ⟨rb, 0, none⟩)) 24 (List.mem_cons_of_mem _ HRm.out.2.2.2.2.2.1)).1
      gi_wp2_with fail
      obtain ⟨z, Q', rfl⟩ : ∃ z Q', Q = z :: Q' := by
        cases Q with
        | nil => simp at hQ; omega
        | cons z Q' => exact ⟨z, Q', rfl⟩
      have HQ : Keep (Q'.length + 1 = n) := ⟨by simpa using hQ⟩
      clear hQ
      refine ⟨trivial, (CallsIn.inRound lp (callsIn_wide.2 (rg_pop HS.out.1 [rb, db, nb] (by simp)))).mono ?_⟩
      rintro e W2 ⟨rfl, h2, d2⟩
      have H2 : Keep (RG w W2 rb v db a sz Q' (z :: Q') ((nb, [.int .i64 ((x : Int) + 1)], 3) :: R) [] ∧ Did [rb, db, nb] [⟨rb, 1, none⟩, ⟨db, 0, none⟩] W W2) := ⟨h2, HS.out.2.trans d2⟩
      clear h2 d2 HS c3 cN fN c7 c6 f6 e2 HI
      have c4 := (H2.out.1.cell b4 (.pointer (some ⟨db, 0, none⟩)) 53 (List.mem_cons_of_mem _ HRm.out.2.2.2.2.1)).1
      gi_wp2_with fail
      refine ⟨trivial, (CallsIn.inRound lp (callsIn_wide.2 (rg_dpop H2.out.1 [rb, db, nb] (by simp)))).mono ?_⟩
      rintro e W3 ⟨rfl, h3, d3⟩
      have H3 : Keep (RG w W3 rb v db a sz Q' Q' ((nb, [.int .i64 ((x : Int) + 1)], 3) :: R) [] ∧ Did [rb, db, nb] [⟨rb, 1, none⟩, ⟨db, 0, none⟩] W W3) := ⟨h3, H2.out.2.trans d3⟩
      clear h3 d3 H2 c4
      gi_wp2_with fail
      have H4 : Keep (RG w W3.drew rb v db a sz Q' Q' ((nb, [.int .i64 ((x : Int) + 1)], 3) :: R) [] ∧ Did [rb, db, nb] [⟨rb, 1, none⟩, ⟨db, 0, none⟩] W W3.drew) := by
        refine ⟨H3.out.1.grown (gr_drewN W3 1 none), H3.out.2.trans (Did.grown (gr_drewN W3 1 none) (fun f hf => ?_))⟩
        obtain ⟨v8, a8, c8, r8, d8, _⟩ := H3.out.1.e
        simp at hf
        rcases hf with rfl | rfl
        · exact r8.lt rb (.inl rfl)
        · exact d8.lt db (.inl rfl)
      clear H3
      have hlq : Q'.length < sz := by have := HQ.out; omega
      have HH : Keep (∀ (W' : World) (A B : List Int), RG w W' rb v db a sz A B ((nb, [.int .i64 ((x : Int) + 1)], 3) :: R) [] → W'.cell? ⟨b3, 0, none⟩ = some (.pointer (some ⟨rb, 0, none⟩)) ∧ W'.cell? ⟨b4, 0, none⟩ = some (.pointer (some ⟨db, 0, none⟩))) := ⟨fun W' A B h => ⟨(h.cell b3 (.pointer (some ⟨rb, 0, none⟩)) 24 (List.mem_cons_of_mem _ HRm.out.2.2.2.2.2.1)).1, (h.cell b4 (.pointer (some ⟨db, 0, none⟩)) 53 (List.mem_cons_of_mem _ HRm.out.2.2.2.2.1)).1⟩⟩
      refine held_round (S := fun w' => w'.cell? ⟨b3, 0, none⟩ = some (.pointer (some ⟨rb, 0, none⟩)) ∧ w'.cell? ⟨b4, 0, none⟩ = some (.pointer (some ⟨db, 0, none⟩))) (by kernel_rfl) (by kernel_rfl) (fun ⟨_, _, h⟩ => h) (HH.out _ _ _ H4.out.1) ?_
      intro hHeld
      obtain ⟨yy, hyy⟩ : ∃ yy, IntKind.i64.wrap (y + 1) = yy := ⟨_, rfl⟩
      refine wpAnyH_take (i := 0) (oi := _) (v := ?_) rfl (by kernel_rfl) (by kernel_rfl) (by kernel_rfl) (fun _ _ _ h => h) (Or.inl ⟨by rfl, ?_⟩) (by assumption) ?_
      rotate_left
      · (intro w hSw; obtain ⟨s1, s2⟩ := hSw; go_simp; first | done | (with_reducible rfl))
      simp only [Act.put, List.getElem_toArray, List.getElem_cons_zero, List.setIfInBounds_toArray, List.set_cons_zero, List.set_cons_succ]
      refine wpAnyH_take (i := 1) (oi := _) (v := ?_) rfl (by kernel_rfl) (by kernel_rfl) (by kernel_rfl) (fun _ _ _ h => h) (Or.inl ⟨by rfl, ?_⟩) (by assumption) ?_
      rotate_left
      · (intro w hSw; obtain ⟨s1, s2⟩ := hSw; go_simp; first | done | (with_reducible rfl))
      simp only [Act.put, List.getElem_toArray, List.getElem_cons_succ, List.getElem_cons_zero, List.setIfInBounds_toArray, List.set_cons_zero, List.set_cons_succ]
      refine wpAnyH_take (i := 2) (oi := _) (v := ?_) rfl (by kernel_rfl) (by kernel_rfl) (by kernel_rfl) (fun _ _ _ h => h) (Or.inl ⟨by rfl, ?_⟩) (by assumption) ?_
      rotate_left
      · (intro w hSw; obtain ⟨s1, s2⟩ := hSw; go_simp; first | done | (with_reducible rfl))
      simp only [Act.put, List.getElem_toArray, List.getElem_cons_succ, List.getElem_cons_zero, List.setIfInBounds_toArray, List.set_cons_zero, List.set_cons_succ]
      refine wpAnyH_take (i := 3) (oi := _) (v := ?_) rfl (by kernel_rfl) (by kernel_rfl) (by kernel_rfl) (fun _ _ _ h => h) (Or.inl ⟨by rfl, ?_⟩) (by assumption) ?_
      rotate_left
      · (intro w hSw; obtain ⟨s1, s2⟩ := hSw; go_simp; first | done | (with_reducible rfl))
      simp only [Act.put, List.getElem_toArray, List.getElem_cons_succ, List.getElem_cons_zero, List.setIfInBounds_toArray, List.set_cons_zero, List.set_cons_succ]
      refine wpAnyH_take (i := 4) (oi := _) (v := ?_) rfl (by kernel_rfl) (by kernel_rfl) (by kernel_rfl) (fun _ _ _ h => h) (Or.inl ⟨by rfl, ?_⟩) (by assumption) ?_
      rotate_left
      · (intro w hSw; obtain ⟨s1, s2⟩ := hSw; go_simp; first | done | (with_reducible rfl))
      simp only [Act.put, List.getElem_toArray, List.getElem_cons_succ, List.getElem_cons_zero, List.setIfInBounds_toArray, List.set_cons_zero, List.set_cons_succ]
      refine wpAnyH_take (i := 5) (oi := _) (v := ?_) rfl (by kernel_rfl) (by kernel_rfl) (by kernel_rfl) (fun _ _ _ h => h) (Or.inl ⟨by rfl, ?_⟩) (by assumption) ?_
      rotate_left
      · (intro w hSw; obtain ⟨s1, s2⟩ := hSw; go_simp; first | done | (with_reducible rfl))
      simp only [Act.put, List.getElem_toArray, List.getElem_cons_succ, List.getElem_cons_zero, List.setIfInBounds_toArray, List.set_cons_zero, List.set_cons_succ]
      refine wpAnyH_take (i := 6) (oi := _) (v := ?_) rfl (by kernel_rfl) (by kernel_rfl) (by kernel_rfl) (fun _ _ _ h => h) (Or.inl ⟨by rfl, ?_⟩) (by assumption) ?_
      rotate_left
      · (intro w hSw; obtain ⟨s1, s2⟩ := hSw; go_simp; first | done | (with_reducible rfl))
      simp only [Act.put, List.getElem_toArray, List.getElem_cons_succ, List.getElem_cons_zero, List.setIfInBounds_toArray, List.set_cons_zero, List.set_cons_succ]
      refine wpAnyH_take (i := 7) (oi := _) (v := ?_) rfl (by kernel_rfl) (by kernel_rfl) (by kernel_rfl) (fun _ _ _ h => h) (Or.inl ⟨by rfl, ?_⟩) (by assumption) ?_
      rotate_left
      · (intro w hSw; obtain ⟨s1, s2⟩ := hSw; go_simp; first | done | (with_reducible rfl))
      simp only [Act.put, List.getElem_toArray, List.getElem_cons_succ, List.getElem_cons_zero, List.setIfInBounds_toArray, List.set_cons_zero, List.set_cons_succ]
      refine wpAnyH_take (i := 8) (oi := _) (v := ?_) rfl (by kernel_rfl) (by kernel_rfl) (by kernel_rfl) (fun _ _ _ h => h) (Or.inl ⟨by rfl, ?_⟩) (by assumption) ?_
      rotate_left
      · (intro w hSw; obtain ⟨s1, s2⟩ := hSw; go_simp; first | done | (with_reducible rfl))
      simp only [Act.put, List.getElem_toArray, List.getElem_cons_succ, List.getElem_cons_zero, List.setIfInBounds_toArray, List.set_cons_zero, List.set_cons_succ]
      refine wpAnyH_take (i := 9) (oi := _) (v := ?_) rfl (by kernel_rfl) (by kernel_rfl) (by kernel_rfl) (fun _ _ _ h => h) (Or.inl ⟨by rfl, ?_⟩) (by assumption) ?_
      rotate_left
      · (intro w hSw; obtain ⟨s1, s2⟩ := hSw; go_simp; first | done | (with_reducible rfl))
      simp only [Act.put, List.getElem_toArray, List.getElem_cons_succ, List.getElem_cons_zero, List.setIfInBounds_toArray, List.set_cons_zero, List.set_cons_succ]
      refine wpAnyH_take (i := 10) (oi := _) (v := ?_) rfl (by kernel_rfl) (by kernel_rfl) (by kernel_rfl) (fun _ _ _ h => h) (Or.inl ⟨by rfl, ?_⟩) (by assumption) ?_
      rotate_left
      · (intro w hSw; obtain ⟨s1, s2⟩ := hSw; go_simp; first | done | (with_reducible rfl))
      simp only [Act.put, List.getElem_toArray, List.getElem_cons_succ, List.getElem_cons_zero, List.setIfInBounds_toArray, List.set_cons_zero, List.set_cons_succ]
      refine wpAnyH_take (i := 11) (oi := _) (v := ?_) rfl (by kernel_rfl) (by kernel_rfl) (by kernel_rfl) (fun _ _ _ h => h) (Or.inl ⟨by rfl, ?_⟩) (by assumption) ?_
      rotate_left
      · (intro w hSw; obtain ⟨s1, s2⟩ := hSw; go_simp; first | done | (with_reducible rfl))
      simp only [Act.put, List.getElem_toArray, List.getElem_cons_succ, List.getElem_cons_zero, List.setIfInBounds_toArray, List.set_cons_zero, List.set_cons_succ]
      refine wpAnyH_take (i := 14) (oi := _) (v := ?_) rfl (by kernel_rfl) (by kernel_rfl) (by kernel_rfl) (fun _ _ _ h => h) (Or.inl ⟨by rfl, ?_⟩) (by assumption) ?_
      rotate_left
      · (intro w hSw; obtain ⟨s1, s2⟩ := hSw; go_simp; first | done | (with_reducible rfl))
      simp only [Act.put, List.getElem_toArray, List.getElem_cons_succ, List.getElem_cons_zero, List.setIfInBounds_toArray, List.set_cons_zero, List.set_cons_succ]
      refine wpAnyH_take (i := 15) (oi := _) (v := ?_) rfl (by kernel_rfl) (by kernel_rfl) (by kernel_rfl) (fun _ _ _ h => h) (Or.inl ⟨by rfl, ?_⟩) (by assumption) ?_
      rotate_left
      · (intro w hSw; obtain ⟨s1, s2⟩ := hSw; go_simp; first | done | (with_reducible rfl))
      simp only [Act.put, List.getElem_toArray, List.getElem_cons_succ, List.getElem_cons_zero, List.setIfInBounds_toArray, List.set_cons_zero, List.set_cons_succ]
      refine wpAnyH_take (i := 16) (oi := _) (v := ?_) rfl (by kernel_rfl) (by kernel_rfl) (by kernel_rfl) (fun _ _ _ h => h) (Or.inl ⟨by rfl, ?_⟩) (by assumption) ?_
      rotate_left
      · (intro w hSw; obtain ⟨s1, s2⟩ := hSw; go_simp; first | done | (with_reducible rfl))
      simp only [Act.put, List.getElem_toArray, List.getElem_cons_succ, List.getElem_cons_zero, List.setIfInBounds_toArray, List.set_cons_zero, List.set_cons_succ]
      refine wpAnyH_ready (rs := [12]) (by kernel_rfl) (by simp) ?_
      refine AllReadyH.cons rfl (fun K hK => ?_) AllReadyH.nil
      go_simp
      go_wp2_with (go_at_call 11; refine (rg_push H4.out.1 [rb, db, nb] (by simp) yy hlq).mono ?_; rintro e W5 ⟨rfl, h5, d5⟩)
      refine hK.out _ _ (HH.out _ _ _ h5) (fun hHeld => ?_)
      clear hK K
      have H5 : Keep (RG w W5 rb v db a sz (Q' ++ [yy]) Q' ((nb, [.int .i64 ((x : Int) + 1)], 3) :: R) [] ∧ Did [rb, db, nb] [⟨rb, 1, none⟩, ⟨db, 0, none⟩] W W5) := ⟨h5, H4.out.2.trans d5⟩
      clear h5 d5 H4
      refine wpAnyH_ready (rs := [13]) (by kernel_rfl) (by simp) ?_
      refine AllReadyH.cons rfl (fun K hK => ?_) AllReadyH.nil
      go_simp
      go_wp2_with (go_at_call 10; refine (num_c 0 W5).mono ?_; rintro e W6 ⟨rfl, rfl⟩)
      refine hK.out _ _ hHeld (fun hHeld => ?_)
      clear hK K
      refine wpAnyH_ready (rs := [17]) (by kernel_rfl) (by simp) ?_
      refine AllReadyH.cons rfl (fun K hK => ?_) AllReadyH.nil
      go_simp
      go_wp2_with (go_at_call 34; refine (rg_dpush H5.out.1 [rb, db, nb] (by simp) yy hlq).mono ?_; rintro e W7 ⟨rfl, h7, d7⟩)
      refine hK.out _ _ (HH.out _ _ _ h7) (fun hHeld => ?_)
      clear hK K
      have H7' : Keep (RG w W7 rb v db a sz (Q' ++ [yy]) (Q' ++ [yy]) ((nb, [.int .i64 ((x : Int) + 1)], 3) :: R) [] ∧ Did [rb, db, nb] [⟨rb, 1, none⟩, ⟨db, 0, none⟩] W W7) := ⟨h7, H5.out.2.trans d7⟩
      clear h7 d7 H5
      refine wpAnyH_ready (rs := [18]) (by kernel_rfl) (by simp) ?_
      refine AllReadyH.cons rfl (fun K hK => ?_) AllReadyH.nil
      go_simp
      go_wp2_with (go_at_call 10; refine (num_c 0 W7).mono ?_; rintro e W8 ⟨rfl, rfl⟩)
      refine hK.out _ _ hHeld (fun hHeld => ?_)
      clear hK K
      refine wpAnyH_take (i := 19) (oi := _) (v := ?_) rfl (by kernel_rfl) (by kernel_rfl) (by kernel_rfl) (fun _ _ _ h => h) (Or.inl ⟨by rfl, ?_⟩) (by assumption) ?_
      rotate_left
      · (intro w hSw; go_simp; first | done | (with_reducible rfl))
      simp only [Act.put, List.getElem_toArray, List.getElem_cons_succ, List.getElem_cons_zero, List.setIfInBounds_toArray, List.set_cons_zero, List.set_cons_succ]
      refine wpAnyH_take (i := 20) (oi := _) (v := ?_) rfl (by kernel_rfl) (by kernel_rfl) (by kernel_rfl) (fun _ _ _ h => h) (Or.inl ⟨by rfl, ?_⟩) (by assumption) ?_
      rotate_left
      · (intro w hSw; go_simp; first | done | (with_reducible rfl))
      simp only [Act.put, List.getElem_toArray, List.getElem_cons_succ, List.getElem_cons_zero, List.setIfInBounds_toArray, List.set_cons_zero, List.set_cons_succ]
      refine wpAnyH_done (by kernel_rfl) ?_ _
      clear hHeld
      have HQ2 : Keep ((Q' ++ [yy]).length = n) := ⟨by rw [List.length_append]; exact HQ.out⟩
      have cN := (H7'.out.1.cell nb (.int .i64 ((x : Int) + 1)) 3 (by simp)).1
      have c5 := (H7'.out.1.cell b5 (.int .i64 stop) 3 (List.mem_cons_of_mem _ HRm.out.2.2.2.1)).1
      by_cases hst : (x : Int) + 1 = stop
      · have hst2 : (((x : Int) + 1) == stop) = true := by simp [hst]
        gi_wp2_with fail
        refine ⟨H7'.out.2.k.from _, .inr ⟨rfl, ?_, _, HQ2.out, ?_⟩⟩
        · rw [List.length_append, List.length_singleton, HMM.out]; exact hst
        · rw [List.length_append, List.length_singleton, HMM.out]; exact H7'.out.1
      · have hst2 : (((x : Int) + 1) == stop) = false := by simp [hst]
        gi_wp2_with fail
        refine ⟨H7'.out.2.k.from _, H7'.out.2.p, range_good HPRE.out HMM.out.symm, _, HQ2.out, ?_⟩
        rw [List.length_append, List.length_singleton, HMM.out]
        exact H7'.out.1
    · have hxm2 : ((x : Int) == (m : Int)) = false := beq_eq_false_iff_ne.2 (fun h => hxm (Int.ofNat_inj.1 h))
      gi_wp2_with fail
      exact ⟨(KeepsOthers.setCell _ _ _).from _, .inl (range_bad (by rw [HMM.out]; exact hxm))⟩
end Go.Proofs.Ytflglflggeaokaa
