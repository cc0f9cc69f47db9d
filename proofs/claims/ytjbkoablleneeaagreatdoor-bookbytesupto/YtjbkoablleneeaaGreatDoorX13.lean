import Derived.Test.YtjbkoablleneeaaGreatDoorX12
/- entries as they lie; lay, layLong -/
namespace Go.Proofs.YtjbkoablleneeaaGreatDoor.Pk
open Go Go.RowKit

/-- an entry's cells -/
def en (e : En) : List Value := [iv e.kind, .int .u64 e.tick, .int .u64 e.ses, iv e.player, .string (ba e.nm), .string (ba e.fr), .int .u64 e.seq, .string (ba e.dat)]
theorem en_len (e : En) : (en e).length = 8 := rfl
theorem en_one (e : En) : ∀ v ∈ en e, v.oneCell' = true := by
  intro v hv
  simp only [en, List.mem_cons, List.not_mem_nil, or_false] at hv
  rcases hv with rfl | rfl | rfl | rfl | rfl | rfl | rfl | rfl <;> rfl
theorem under35 : ∃ d, Tryz.prog.underlying 35 = some d ∧ d.isRow = true := by
  have h : (Tryz.prog.underlying 35).map (·.isRow) = some true := by kernel_rfl
  cases hq : Tryz.prog.underlying 35 with
  | none => rw [hq] at h; cases h
  | some d => rw [hq] at h; exact ⟨d, rfl, Option.some.inj h⟩
theorem size35 : (Tryz.prog.info? 35).map (·.size) = some 8 := by kernel_rfl
theorem under22 : Tryz.prog.underlying 22 = some (.slice 35) := by kernel_rfl
/-- a list of entries, as it is read -/
structure Es (w : World) (a : Option Addr) (n c : Nat) (L : List En) : Prop where
  len : L.length = n
  cap : n ≤ c
  at_ : 0 < n → ∃ B o, a = some ⟨B, o, none⟩ ∧ ∀ j e, L[j]? = some e → w.rangeAt B (o + j * 8) (en e)
theorem Es.kept {w w' : World} {a : Option Addr} {n c : Nat} {L : List En} (h : Es w a n c L) (hg : w.grownBy w' none) : Es w' a n c L :=
  ⟨h.len, h.cap, fun hn => by
    obtain ⟨B, o, e, hc⟩ := h.at_ hn
    exact ⟨B, o, e, fun j e he i v hv => hg.cell (hc j e he i v hv) (by simp)⟩⟩
theorem Es.sub {w : World} {a : Option Addr} {n c m : Nat} {L : List En} (h : Es w a n c L) (hm : m ≤ n) : Es w a m c (L.take m) :=
  ⟨by rw [List.length_take, h.len]; omega, Nat.le_trans hm h.cap, fun h0 => by
    obtain ⟨B, o, e, hc⟩ := h.at_ (by omega)
    refine ⟨B, o, e, fun j x hx => hc j x ?_⟩
    rw [List.getElem?_take] at hx
    split at hx
    · exact hx
    · cases hx⟩
/-- where lay stands -/
structure Ly (w W : World) (wb : Nat) (v0 v : Value) (st : WS) (ob : Nat) (cs : List Value) : Prop where
  d : WDid w W wb v0 st v
  b : Has W ob cs 35
  ne : ¬ WF wb v ob
theorem Ly.step {w W W' : World} {wb : Nat} {v0 v v' : Value} {st st' : WS} {ob : Nat} {cs : List Value} (h : Ly w W wb v0 v st ob cs) (d : WDid W W' wb v st' v') : Ly w W' wb v0 v' st' ob cs :=
  ⟨h.d.trans d, h.b.fr d.f h.ne, fun q => by
    rcases q with q | q
    · exact h.ne (.inl q)
    · rcases d.n ob q with q | q
      · exact h.ne (.inr q)
      · have := h.b.lt; omega⟩
theorem Ly.start {w : World} {wb : Nat} {v : Value} {st : WS} (cs : Array Value) (h : WAt w wb v st) : Ly w (w.alloc (.cells cs 35)) wb v v st w.heap.size cs.toList :=
  ⟨(WDid.refl h).grown (World.grownBy_alloc _ _ _), Has.newA _ _ _, fun q => by have := h.lt _ q; omega⟩
set_option maxRecDepth 100000 in
set_option maxHeartbeats 4000000 in
theorem layLong_c (wb : Nat) (v : Value) (st : WS) (s : ByteArray) (w : World) (h : WAt w wb v st) (hl : (st.getD []).length + s.size ≤ 179999999999000) (hs : s.size ≤ 1099511627776) :
    Calls Tryz.prog 61 #[.pointer (some ⟨wb, 0, none⟩), .string s] w fun e w' => e = .returned (.tuple #[]) ∧ ∃ v', WDid w w' wb v (wBytes (wNum st s.size 2) (sl s)) v' := by
  have HH : Keep (WAt w wb v st ∧ (st.getD []).length + s.size ≤ 179999999999000 ∧ ((wNum st s.size 2).getD []).length ≤ (st.getD []).length + 8) := ⟨h, hl, wNum_len _ _ _⟩
  clear h hl
  go_enter Tryz.func61, Tryz.ntmps61
  go_wp2_with (first
    | (go_at_call 30; refine (wNumber_c wb v st s.size 2 _ HH.out.1 (by omega) (by have := HH.out; omega)).mono ?_; rintro e w2 ⟨rfl, v2, d2⟩; have HD := Keep.mk d2; clear d2)
    | (go_at_call 29; refine (wBytesW_c wb _ _ s _ HD.out.a (by have := HH.out; omega) (by omega)).mono ?_; rintro e w3 ⟨rfl, v3, d3⟩; have HE := Keep.mk (HD.out.trans d3); clear d3))
  go_end0
  exact ⟨rfl, v3, HE.out⟩
theorem wEnt_len (st : WS) (e : En) : ((wEnt st e).getD []).length ≤ (st.getD []).length + e.nm.length + e.fr.length + e.dat.length + 57 := by
  unfold wEnt
  have h1 := wNum_len st (u64 e.kind) 1
  have h2 := wNum_len (wNum st (u64 e.kind) 1) e.tick 8
  have h3 := wNum_len (wNum (wNum st (u64 e.kind) 1) e.tick 8) e.ses 8
  have h4 := wNum_len (wNum (wNum (wNum st (u64 e.kind) 1) e.tick 8) e.ses 8) (u64 e.player) 1
  have h5 := wText_len (wNum (wNum (wNum (wNum st (u64 e.kind) 1) e.tick 8) e.ses 8) (u64 e.player) 1) e.nm
  generalize (wText (wNum (wNum (wNum (wNum st (u64 e.kind) 1) e.tick 8) e.ses 8) (u64 e.player) 1) e.nm) = s5 at h5 ⊢
  have h6 := wNum_len s5 e.fr.length 2
  have h7 := wBytes_len (wNum s5 e.fr.length 2) e.fr
  generalize (wBytes (wNum s5 e.fr.length 2) e.fr) = s7 at h7 ⊢
  have h8 := wNum_len s7 e.seq 8
  have h9 := wNum_len (wNum s7 e.seq 8) e.dat.length 2
  have h10 := wBytes_len (wNum (wNum s7 e.seq 8) e.dat.length 2) e.dat
  omega
set_option maxRecDepth 100000 in
set_option maxHeartbeats 8000000 in
theorem lay_c (wb : Nat) (v : Value) (st : WS) (e : En) (w : World) (h : WAt w wb v st) (he : e.Ok) (hl : (st.getD []).length + e.nm.length + e.fr.length + e.dat.length ≤ 179999999998000) (h1 : e.nm.length ≤ 1099511627776) (h2 : e.fr.length ≤ 1099511627776) (h3 : e.dat.length ≤ 1099511627776) :
    Calls Tryz.prog 31 #[.pointer (some ⟨wb, 0, none⟩), .agg (en e).toArray] w fun e' w' => e' = .returned (.tuple #[]) ∧ ∃ v', WDid w w' wb v (wEnt st e) v' := by
  have HE := Keep.mk he
  have HB : Keep (e.nm.length ≤ 1099511627776 ∧ e.fr.length ≤ 1099511627776 ∧ e.dat.length ≤ 1099511627776) := ⟨h1, h2, h3⟩
  have H0 := Keep.mk (Ly.start (en e).toArray h)
  have hku : IntKind.u64.wrap e.kind = ((u64 e.kind : Nat) : Int) := by rw [wu]; unfold u64; omega
  have hpu : IntKind.u64.wrap e.player = ((u64 e.player : Nat) : Int) := by rw [wu]; unfold u64; omega
  have q0 : (st.getD []).length + e.nm.length + e.fr.length + e.dat.length ≤ 179999999998000 := hl
  obtain ⟨s1, e1⟩ : ∃ q, wNum st (u64 e.kind) 1 = q := ⟨_, rfl⟩
  obtain ⟨s2, e2⟩ : ∃ q, wNum s1 e.tick 8 = q := ⟨_, rfl⟩
  obtain ⟨s3, e3⟩ : ∃ q, wNum s2 e.ses 8 = q := ⟨_, rfl⟩
  obtain ⟨s4, e4⟩ : ∃ q, wNum s3 (u64 e.player) 1 = q := ⟨_, rfl⟩
  obtain ⟨s5, e5⟩ : ∃ q, wText s4 e.nm = q := ⟨_, rfl⟩
  obtain ⟨s6, e6⟩ : ∃ q, wBytes (wNum s5 e.fr.length 2) e.fr = q := ⟨_, rfl⟩
  obtain ⟨s7, e7⟩ : ∃ q, wNum s6 e.seq 8 = q := ⟨_, rfl⟩
  obtain ⟨s8, e8⟩ : ∃ q, wBytes (wNum s7 e.dat.length 2) e.dat = q := ⟨_, rfl⟩
  have HL : Keep ((st.getD []).length ≤ 179999999998000 ∧ (s1.getD []).length ≤ 179999999998008 ∧ (s2.getD []).length ≤ 179999999998016 ∧ (s3.getD []).length ≤ 179999999998024 ∧ (s4.getD []).length + e.nm.length ≤ 179999999998040 ∧ (s5.getD []).length + e.fr.length ≤ 179999999998060 ∧ (s6.getD []).length ≤ 179999999998080 ∧ (s7.getD []).length + e.dat.length ≤ 179999999998100) := ⟨by
    have a1 := wNum_len st (u64 e.kind) 1; rw [e1] at a1
    have a2 := wNum_len s1 e.tick 8; rw [e2] at a2
    have a3 := wNum_len s2 e.ses 8; rw [e3] at a3
    have a4 := wNum_len s3 (u64 e.player) 1; rw [e4] at a4
    have a5 := wText_len s4 e.nm; rw [e5] at a5
    have a6 := wNum_len s5 e.fr.length 2
    have b6 := wBytes_len (wNum s5 e.fr.length 2) e.fr; rw [e6] at b6
    have a7 := wNum_len s6 e.seq 8; rw [e7] at a7
    omega⟩
  have HQ : Keep (wEnt st e = s8) := ⟨by unfold wEnt; rw [e1, e2, e3, e4, e5, e6, e7, e8]⟩
  have hob : ∀ i x, (en e)[i]? = some x → (w.alloc (.cells (en e).toArray 35)).cell? ⟨w.heap.size, i, none⟩ = some x := fun i x hx => H0.out.b.cellv i x (by simpa using hx)
  have HC : Keep (∀ (W : World) (v' : Value) (s' : WS), Ly w W wb v v' s' w.heap.size (en e) → W.cell? ⟨w.heap.size, 0, none⟩ = some (iv e.kind) ∧ W.cell? ⟨w.heap.size, 1, none⟩ = some (.int .u64 e.tick) ∧ W.cell? ⟨w.heap.size, 2, none⟩ = some (.int .u64 e.ses) ∧ W.cell? ⟨w.heap.size, 3, none⟩ = some (iv e.player) ∧ W.cell? ⟨w.heap.size, 4, none⟩ = some (.string (ba e.nm)) ∧ W.cell? ⟨w.heap.size, 5, none⟩ = some (.string (ba e.fr)) ∧ W.cell? ⟨w.heap.size, 6, none⟩ = some (.int .u64 e.seq) ∧ W.cell? ⟨w.heap.size, 7, none⟩ = some (.string (ba e.dat))) := ⟨fun W v' s' q => ⟨q.b.cellv 0 _ rfl, q.b.cellv 1 _ rfl, q.b.cellv 2 _ rfl, q.b.cellv 3 _ rfl, q.b.cellv 4 _ rfl, q.b.cellv 5 _ rfl, q.b.cellv 6 _ rfl, q.b.cellv 7 _ rfl⟩⟩
  have hc := HC.out _ _ _ H0.out
  have ht := he.t
  have hse := he.s
  have hq := he.q
  have hk1 := he.k1
  have hk2 := he.k2
  have hp1 := he.p1
  have hp2 := he.p2
  clear h h1 h2 h3 hl he hob
  obtain ⟨hc0, hc1, hc2, hc3, hc4, hc5, hc6, hc7⟩ := hc
  replace H0 : Keep (Ly w (w.alloc (.cells (en e).toArray 35)) wb v v st w.heap.size (en e)) := H0
  obtain ⟨W0, hW0⟩ : ∃ q, w.alloc (.cells (en e).toArray 35) = q := ⟨_, rfl⟩
  rw [hW0] at hc0 hc1 hc2 hc3 hc4 hc5 hc6 hc7 H0
  generalize (en e).toArray = EA at hW0 ⊢
  have hbx : ∀ W : World, W = w → W.alloc (.cells EA 35) = W0 := fun W q => by rw [q]; exact hW0
  go_enter Tryz.func31, Tryz.ntmps31
  go_wp2_with fail
  refine (wNumber_c wb _ st (u64 e.kind) 1 _ H0.out.d.a (by first | exact u64_lt _ | omega) (by have := HL.out; omega)).mono ?_
  rintro e' w1 ⟨rfl, v1, d1⟩
  rw [e1] at d1
  have H1 := Keep.mk (H0.out.step d1)
  clear d1 hc0 hc1 hc2 hc3 hc4 hc5 hc6 hc7
  obtain ⟨hc0, hc1, hc2, hc3, hc4, hc5, hc6, hc7⟩ := HC.out _ _ _ H1.out
  go_wp2_with fail
  refine (wNumber_c wb _ s1 e.tick 8 _ H1.out.d.a (by first | exact u64_lt _ | omega) (by have := HL.out; omega)).mono ?_
  rintro e' w2 ⟨rfl, v2, d2⟩
  rw [e2] at d2
  have H2 := Keep.mk (H1.out.step d2)
  clear d2 hc0 hc1 hc2 hc3 hc4 hc5 hc6 hc7
  obtain ⟨hc0, hc1, hc2, hc3, hc4, hc5, hc6, hc7⟩ := HC.out _ _ _ H2.out
  go_wp2_with fail
  refine (wNumber_c wb _ s2 e.ses 8 _ H2.out.d.a (by first | exact u64_lt _ | omega) (by have := HL.out; omega)).mono ?_
  rintro e' w3 ⟨rfl, v3, d3⟩
  rw [e3] at d3
  have H3 := Keep.mk (H2.out.step d3)
  clear d3 hc0 hc1 hc2 hc3 hc4 hc5 hc6 hc7
  obtain ⟨hc0, hc1, hc2, hc3, hc4, hc5, hc6, hc7⟩ := HC.out _ _ _ H3.out
  go_wp2_with fail
  refine (wNumber_c wb _ s3 (u64 e.player) 1 _ H3.out.d.a (by first | exact u64_lt _ | omega) (by have := HL.out; omega)).mono ?_
  rintro e' w4 ⟨rfl, v4, d4⟩
  rw [e4] at d4
  have H4 := Keep.mk (H3.out.step d4)
  clear d4 hc0 hc1 hc2 hc3 hc4 hc5 hc6 hc7
  obtain ⟨hc0, hc1, hc2, hc3, hc4, hc5, hc6, hc7⟩ := HC.out _ _ _ H4.out
  go_wp2_with fail
  refine (wTextW_c wb _ s4 (ba e.nm) _ H4.out.d.a (by have := HL.out; rw [ba_size]; omega) (by have := HB.out; rw [ba_size]; omega)).mono ?_
  rintro e' w5 ⟨rfl, v5, d5⟩
  rw [show sl (ba e.nm) = e.nm from sl_mk _] at d5
  rw [e5] at d5
  have H5 := Keep.mk (H4.out.step d5)
  clear d5 hc0 hc1 hc2 hc3 hc4 hc5 hc6 hc7
  obtain ⟨hc0, hc1, hc2, hc3, hc4, hc5, hc6, hc7⟩ := HC.out _ _ _ H5.out
  go_wp2_with fail
  refine (layLong_c wb _ s5 (ba e.fr) _ H5.out.d.a (by have := HL.out; rw [ba_size]; omega) (by have := HB.out; rw [ba_size]; omega)).mono ?_
  rintro e' w6 ⟨rfl, v6, d6⟩
  rw [show sl (ba e.fr) = e.fr from sl_mk _, ba_size] at d6
  rw [e6] at d6
  have H6 := Keep.mk (H5.out.step d6)
  clear d6 hc0 hc1 hc2 hc3 hc4 hc5 hc6 hc7
  obtain ⟨hc0, hc1, hc2, hc3, hc4, hc5, hc6, hc7⟩ := HC.out _ _ _ H6.out
  go_wp2_with fail
  refine (wNumber_c wb _ s6 e.seq 8 _ H6.out.d.a (by first | exact u64_lt _ | omega) (by have := HL.out; omega)).mono ?_
  rintro e' w7 ⟨rfl, v7, d7⟩
  rw [e7] at d7
  have H7 := Keep.mk (H6.out.step d7)
  clear d7 hc0 hc1 hc2 hc3 hc4 hc5 hc6 hc7
  obtain ⟨hc0, hc1, hc2, hc3, hc4, hc5, hc6, hc7⟩ := HC.out _ _ _ H7.out
  go_wp2_with fail
  refine (layLong_c wb _ s7 (ba e.dat) _ H7.out.d.a (by have := HL.out; rw [ba_size]; omega) (by have := HB.out; rw [ba_size]; omega)).mono ?_
  rintro e' w8 ⟨rfl, v8, d8⟩
  rw [show sl (ba e.dat) = e.dat from sl_mk _, ba_size] at d8
  rw [e8] at d8
  have H8 := Keep.mk (H7.out.step d8)
  clear d8 hc0 hc1 hc2 hc3 hc4 hc5 hc6 hc7
  obtain ⟨hc0, hc1, hc2, hc3, hc4, hc5, hc6, hc7⟩ := HC.out _ _ _ H8.out
  go_wp2_with fail
  go_end0
  exact ⟨rfl, v8, by rw [HQ.out]; exact H8.out.d⟩
end Go.Proofs.YtjbkoablleneeaaGreatDoor.Pk

