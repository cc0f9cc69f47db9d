import Derived.Test.YtplcicbpkbamnaaDoorX24
import Derived.Test.YtplcicbpkbamnaaDoorX25
import Derived.Test.YtplcicbpkbamnaaDoorTie
import Derived.Test.YtplcicbpkbamnaaDoorCards
import Derived.SevenTiedAt
import Derived.ChangeMaps5
/- LobbyMemory: the row and its card. -/
namespace Go.Proofs.YtplcicbpkbamnaaDoor.Lo
open Go Go.ChangeShapes Go.WideShapes Go.ChangeAt Go.RowKit

set_option maxRecDepth 100000 in
theorem kc22 : Tryd.prog.cellsOf 22 = 1 := by kernel_rfl
set_option maxRecDepth 100000 in
theorem kc27 : Tryd.prog.cellsOf 27 = 2 := by kernel_rfl
set_option maxRecDepth 100000 in
theorem by27 : Tryd.prog.bytesOf 27 = 32 := by kernel_rfl
set_option maxRecDepth 100000 in
theorem cfg_acc {H : Type} {enc : TypeId × Value → H} {W : World} {base fuel : Nat} {v : Value} {d : DataW H} {pl : List MemPlace} (hv : Value.okWide Tryd.prog W .any base 24 v) (hf : DataW.trod enc Tryd.prog W 0 (fun _ => true) true fuel 24 v.cells.toList = some (d, pl)) :
    ∃ (c : Cf) (u : Value) (n : Nat) (y : DataW H × List MemPlace), v = .agg (cfv c u) ∧ DataW.trod enc Tryd.prog W 0 (fun _ => true) true n 22 [u] = some y ∧ ∀ m ∈ y.1.weights Tryd.prog 22, m ∈ d.weights Tryd.prog 24 := by
  obtain ⟨cs, rfl, _⟩ := okWide_struct Tryd.underlying24 hv
  simp only [Value.cells] at hf
  obtain ⟨xs, n, _, hx, hlen, hxl, hfl⟩ := DataW.trod_struct Tryd.underlying24 hf
  have hlen : cs.toList.length = 13 := hlen.trans (by kernel_rfl)
  have hcs : cs = cs.toList.toArray := by simp
  generalize cs.toList = l at hlen hfl hcs
  subst hcs
  match l, hlen with
  | [c0, c1, c2, c3, c4, c5, c6, c7, c8, c9, c10, c11, c12], _ =>
  match xs, (show xs.length = 13 from hxl) with
  | [y0, y1, y2, y3, y4, y5, y6, y7, y8, y9, y10, y11, y12], _ =>
  have t0 : DataW.trod enc Tryd.prog W 0 (fun _ => true) true n 3 (([c0, c1, c2, c3, c4, c5, c6, c7, c8, c9, c10, c11, c12].drop 0).take (Tryd.prog.cellsOf 3)) = some y0 := hfl 0 _ rfl
  rw [kc3] at t0
  have t1 : DataW.trod enc Tryd.prog W 0 (fun _ => true) true n 3 (([c0, c1, c2, c3, c4, c5, c6, c7, c8, c9, c10, c11, c12].drop 1).take (Tryd.prog.cellsOf 3)) = some y1 := hfl 1 _ rfl
  rw [kc3] at t1
  have t2 : DataW.trod enc Tryd.prog W 0 (fun _ => true) true n 3 (([c0, c1, c2, c3, c4, c5, c6, c7, c8, c9, c10, c11, c12].drop 2).take (Tryd.prog.cellsOf 3)) = some y2 := hfl 2 _ rfl
  rw [kc3] at t2
  have t3 : DataW.trod enc Tryd.prog W 0 (fun _ => true) true n 3 (([c0, c1, c2, c3, c4, c5, c6, c7, c8, c9, c10, c11, c12].drop 3).take (Tryd.prog.cellsOf 3)) = some y3 := hfl 3 _ rfl
  rw [kc3] at t3
  have t4 : DataW.trod enc Tryd.prog W 0 (fun _ => true) true n 3 (([c0, c1, c2, c3, c4, c5, c6, c7, c8, c9, c10, c11, c12].drop 4).take (Tryd.prog.cellsOf 3)) = some y4 := hfl 4 _ rfl
  rw [kc3] at t4
  have t5 : DataW.trod enc Tryd.prog W 0 (fun _ => true) true n 3 (([c0, c1, c2, c3, c4, c5, c6, c7, c8, c9, c10, c11, c12].drop 5).take (Tryd.prog.cellsOf 3)) = some y5 := hfl 5 _ rfl
  rw [kc3] at t5
  have t6 : DataW.trod enc Tryd.prog W 0 (fun _ => true) true n 3 (([c0, c1, c2, c3, c4, c5, c6, c7, c8, c9, c10, c11, c12].drop 6).take (Tryd.prog.cellsOf 3)) = some y6 := hfl 6 _ rfl
  rw [kc3] at t6
  have t7 : DataW.trod enc Tryd.prog W 0 (fun _ => true) true n 3 (([c0, c1, c2, c3, c4, c5, c6, c7, c8, c9, c10, c11, c12].drop 7).take (Tryd.prog.cellsOf 3)) = some y7 := hfl 7 _ rfl
  rw [kc3] at t7
  have t8 : DataW.trod enc Tryd.prog W 0 (fun _ => true) true n 3 (([c0, c1, c2, c3, c4, c5, c6, c7, c8, c9, c10, c11, c12].drop 8).take (Tryd.prog.cellsOf 3)) = some y8 := hfl 8 _ rfl
  rw [kc3] at t8
  have t9 : DataW.trod enc Tryd.prog W 0 (fun _ => true) true n 3 (([c0, c1, c2, c3, c4, c5, c6, c7, c8, c9, c10, c11, c12].drop 9).take (Tryd.prog.cellsOf 3)) = some y9 := hfl 9 _ rfl
  rw [kc3] at t9
  have t10 : DataW.trod enc Tryd.prog W 0 (fun _ => true) true n 9 (([c0, c1, c2, c3, c4, c5, c6, c7, c8, c9, c10, c11, c12].drop 10).take (Tryd.prog.cellsOf 9)) = some y10 := hfl 10 _ rfl
  rw [kc9] at t10
  have t11 : DataW.trod enc Tryd.prog W 0 (fun _ => true) true n 9 (([c0, c1, c2, c3, c4, c5, c6, c7, c8, c9, c10, c11, c12].drop 11).take (Tryd.prog.cellsOf 9)) = some y11 := hfl 11 _ rfl
  rw [kc9] at t11
  have t12 : DataW.trod enc Tryd.prog W 0 (fun _ => true) true n 22 (([c0, c1, c2, c3, c4, c5, c6, c7, c8, c9, c10, c11, c12].drop 12).take (Tryd.prog.cellsOf 22)) = some y12 := hfl 12 _ rfl
  rw [kc22] at t12
  obtain ⟨x0, e0, _, _⟩ := DataW.trod_int Tryd.underlying3 t0
  obtain rfl : c0 = _ := by simpa using e0
  obtain ⟨x1, e1, _, _⟩ := DataW.trod_int Tryd.underlying3 t1
  obtain rfl : c1 = _ := by simpa using e1
  obtain ⟨x2, e2, _, _⟩ := DataW.trod_int Tryd.underlying3 t2
  obtain rfl : c2 = _ := by simpa using e2
  obtain ⟨x3, e3, _, _⟩ := DataW.trod_int Tryd.underlying3 t3
  obtain rfl : c3 = _ := by simpa using e3
  obtain ⟨x4, e4, _, _⟩ := DataW.trod_int Tryd.underlying3 t4
  obtain rfl : c4 = _ := by simpa using e4
  obtain ⟨x5, e5, _, _⟩ := DataW.trod_int Tryd.underlying3 t5
  obtain rfl : c5 = _ := by simpa using e5
  obtain ⟨x6, e6, _, _⟩ := DataW.trod_int Tryd.underlying3 t6
  obtain rfl : c6 = _ := by simpa using e6
  obtain ⟨x7, e7, _, _⟩ := DataW.trod_int Tryd.underlying3 t7
  obtain rfl : c7 = _ := by simpa using e7
  obtain ⟨x8, e8, _, _⟩ := DataW.trod_int Tryd.underlying3 t8
  obtain rfl : c8 = _ := by simpa using e8
  obtain ⟨x9, e9, _, _⟩ := DataW.trod_int Tryd.underlying3 t9
  obtain rfl : c9 = _ := by simpa using e9
  obtain ⟨x10, e10, _, _⟩ := DataW.trod_string Tryd.underlying9 t10
  obtain rfl : c10 = _ := by simpa using e10
  obtain ⟨x11, e11, _, _⟩ := DataW.trod_string Tryd.underlying9 t11
  obtain rfl : c11 = _ := by simpa using e11
  refine ⟨⟨x0, x1, x2, x3, x4, x5, x6, x7, x8, x9, x10, x11⟩, c12, n, y12, rfl, t12, fun m hm => ?_⟩
  rw [show d = .agg [y0.1, y1.1, y2.1, y3.1, y4.1, y5.1, y6.1, y7.1, y8.1, y9.1, y10.1, y11.1, y12.1] from congrArg Prod.fst hx]
  simp only [DataW.weights, Tryd.underlying24]
  exact DataW.weights_mem_each (j := 12) (t := 22) rfl rfl _ hm
def pdat {H : Type} (p : Pr) : DataW H := .agg [.lit (.string p.1.data.toList), .lit (.string p.2.data.toList)]
instance : Inhabited Pr := ⟨(⟨#[]⟩, ⟨#[]⟩)⟩
set_option maxRecDepth 100000 in
set_option maxHeartbeats 4000000 in
theorem acc_open {H : Type} {enc : TypeId × Value → H} {W : World} {u : Value} {fuel : Nat} {d : DataW H} {pl : List MemPlace} (hf : DataW.trod enc Tryd.prog W 0 (fun _ => true) true fuel 22 [u] = some (d, pl)) :
    ∃ P : List Pr, (∃ a cap, u = .slice a P.length cap ∧ (0 < P.length → ∃ g o, a = some ⟨g, o, none⟩ ∧ ∀ (j : Nat) (x : Pr), P[j]? = some x → W.cell? ⟨g, o + j * 2, none⟩ = some (.string x.1) ∧ W.cell? ⟨g, o + j * 2 + 1, none⟩ = some (.string x.2))) ∧ (u = .slice none 0 0 ∨ ∃ a n c, u = .slice (some a) n c) ∧ ((d = .nil ∧ P = []) ∨ ∃ spare, d = .slice (P.map pdat) spare) := by
  rcases Deep.open_slice Tryd.underlying22 hf with ⟨hcs, hx⟩ | ⟨a, len, cap, m, n, D, Pl, hcs, _, hl, hm, hmm, hx, hel⟩
  · have e : u = Value.slice none 0 0 := by simpa using hcs
    subst e
    simp only [Prod.mk.injEq] at hx
    exact ⟨[], ⟨none, 0, rfl, fun h => by cases h⟩, .inl rfl, .inl ⟨hx.1, rfl⟩⟩
  · have e : u = Value.slice (some a) len cap := by simpa using hcs
    subst e
    simp only [if_true] at hmm
    simp only [Prod.mk.injEq] at hx
    have each : ∀ i, i < m → ∃ o : Pr, D i = pdat o ∧ ∀ j v, (prv o)[j]? = some v → W.cell? (a.add (i * 2 + j)) = some v := by
      intro i hi
      obtain ⟨cs', h1, h2⟩ := hel i hi
      rw [kc27] at h1
      obtain ⟨_, hlen, hcell⟩ := World.cells?_some h1
      obtain ⟨xs, k, _, hD, _, hxl, hfl⟩ := DataW.trod_struct Tryd.underlying27 h2
      match cs', hlen with
      | [x0, x1], _ =>
      match xs, (show xs.length = 2 from hxl) with
      | [y0, y1], _ =>
        have t0 : DataW.trod enc Tryd.prog W 0 (fun _ => true) true k 9 (([x0, x1].drop 0).take (Tryd.prog.cellsOf 9)) = some y0 := hfl 0 _ rfl
        rw [kc9] at t0
        have t1 : DataW.trod enc Tryd.prog W 0 (fun _ => true) true k 9 (([x0, x1].drop 1).take (Tryd.prog.cellsOf 9)) = some y1 := hfl 1 _ rfl
        rw [kc9] at t1
        obtain ⟨z0, e0, d0, r0⟩ := DataW.trod_string Tryd.underlying9 t0
        obtain ⟨z1, e1, d1, r1⟩ := DataW.trod_string Tryd.underlying9 t1
        simp at e0 e1
        subst e0 e1
        refine ⟨(z0, z1), ?_, fun j v hv => ?_⟩
        · rw [show D i = .agg [y0.1, y1.1] from congrArg Prod.fst hD]
          simp only [pdat, d0, d1]
        · simp only [prv] at hv
          have hj : j < 2 := (List.getElem?_eq_some_iff.1 hv).1
          have g := hcell j (by simpa using hj)
          rw [Deep.add_add] at g
          rw [g]
          exact hv
    obtain ⟨q, hq⟩ := Deep.choose_lt each
    refine ⟨(List.range len).map q, ⟨some a, cap, by simp, fun hn => ?_⟩, .inr ⟨_, _, _, rfl⟩, .inr ⟨(List.range (m - len)).map (fun j => D (len + j)), ?_⟩⟩
    · have hn : 0 < len := by simpa using hn
      obtain ⟨b, off, spot⟩ := a
      have hspot : spot = none := by simpa [Addr.add] using World.cell?_spot ((hq 0 (by omega)).2 0 _ rfl)
      subst hspot
      refine ⟨b, off, rfl, fun j o hj => ?_⟩
      have hj2 : j < len := by
        have := (List.getElem?_eq_some_iff.1 hj).1
        simpa using this
      have e : q j = o := by
        rw [List.getElem?_map, List.getElem?_range hj2] at hj
        simpa using hj
      have p := (hq j (by omega)).2
      rw [e] at p
      have p0 := p 0 _ rfl
      have p1 := p 1 _ rfl
      rw [Addr.add_mid] at p0 p1
      exact ⟨p0, by rw [Nat.add_assoc]; exact p1⟩
    · rw [hx.1, List.map_map]
      congr 1
      refine List.map_congr_left fun i hi => ?_
      exact (hq i (by have := List.mem_range.1 hi; omega)).1
theorem acc_wide {H : Type} {d : DataW H} {P : List Pr} (h : (d = .nil ∧ P = []) ∨ ∃ spare, d = .slice (P.map pdat) spare) (hw : ∀ n ∈ d.weights Tryd.prog 22, n ≤ 140737488351232) : P.length * 32 ≤ 140737488351232 ∧ ∀ x ∈ P, x.1.size ≤ 281474976710656 ∧ x.2.size ≤ 281474976710656 := by
  rcases h with ⟨_, rfl⟩ | ⟨sp, rfl⟩
  · exact ⟨by simp, fun x hx => by cases hx⟩
  · refine ⟨?_, fun x hx => ?_⟩
    · have := hw ((P.map (pdat (H := H))).length * 32 + sp.length * 32) (by
        simp only [DataW.weights, Tryd.underlying22, by27, List.mem_cons]
        exact .inl (by omega))
      rw [List.length_map] at this
      omega
    · have key : ∀ n ∈ (pdat (H := H) x).weights Tryd.prog 27, n ≤ 140737488351232 := fun n hn => hw n (by
        simp only [DataW.weights, Tryd.underlying22, List.mem_cons, List.mem_append]
        exact .inr (.inl (weights_mem (List.mem_map.2 ⟨x, hx, rfl⟩) n hn)))
      have q0 := key x.1.data.toList.length (by
        unfold pdat
        simp only [DataW.weights, Tryd.underlying27]
        exact DataW.weights_mem_each (j := 0) (t := 9) rfl rfl _ (by simp [DataW.weights]))
      have q1 := key x.2.data.toList.length (by
        unfold pdat
        simp only [DataW.weights, Tryd.underlying27]
        exact DataW.weights_mem_each (j := 1) (t := 9) rfl rfl _ (by simp [DataW.weights]))
      rw [sz] at q0 q1
      exact ⟨by omega, by omega⟩
end Go.Proofs.YtplcicbpkbamnaaDoor.Lo
namespace Go.Proofs.YtplcicbpkbamnaaDoor
open Go Go.ChangeShapes Go.WideShapes Go.ChangeAt Go.RowKit Lo

set_option maxRecDepth 100000 in
theorem memory_lifted (os : Os) (started : os.Started) (H : Type) (enc : TypeId × Value → H) :
    ReturnsInHanded {} Tryd.checked os 3 .any (fun w args => (Rows.lobbyMemorySpec.pre enc Tryd.prog Tryd.f3 [] false w args ∧ laidMetH Tryd.prog [("joust/sha.roundWords", Rows.laid_joust_sha_roundWords), ("joust/name.spans", Rows.laid_joust_name_spans)] w) ∧ sizedMet enc Tryd.prog Tryd.f3 (OpenSpec.ofChange Rows.lobbyMemorySpec) false w args)
      (Rows.lobbyMemorySpec.post enc Tryd.prog Tryd.f3 false true false false) := by
  refine returnsInHanded_of_change_and (C := Tryd.checked) (X := fun w _ => laidMetH Tryd.prog [("joust/sha.roundWords", Rows.laid_joust_sha_roundWords), ("joust/name.spans", Rows.laid_joust_name_spans)] w) (fun _ _ _ hh h => h.of_heap hh) Lo.own started (by kernel_rfl) Tryd.func3
    (ChangeSpec.witness_shaped (enc := enc) (C := Tryd.checked) (os := os) (X := fun w _ => laidMetH Tryd.prog [("joust/sha.roundWords", Rows.laid_joust_sha_roundWords), ("joust/name.spans", Rows.laid_joust_name_spans)] w) false (World.doorLaid Tryd.prog 400 os) #[.agg #[.int .i64 0, .int .i64 0, .int .i64 0, .int .i64 0, .int .i64 0, .int .i64 0, .int .i64 0, .int .i64 0, .int .i64 0, .int .i64 0, .string ⟨#[]⟩, .string ⟨#[]⟩, .slice none 0 0], .string ⟨#[]⟩] 8 rfl (World.shaped_of_RefB (by kernel_rfl) (by kernel_rfl)) (by kernel_rfl) (by kernel_rfl) (by kernel_rfl) (Lo.door2 os _)) ?_
  intro W base args ds gs before hval0 hW _ hsz0 hL _
  have hsz : (DataW.weightsEach Tryd.prog (Tryd.f3.params.toList ++ Rows.lobbyMemorySpec.plain.varTypes Tryd.prog) (ds ++ gs)).all (· ≤ reachBytes) = true := hsz0
  have hval : ∀ (j : Nat) t v, Tryd.f3.params[j]? = some t → args[j]? = some v → Value.okWide Tryd.prog W .any base t v := hval0
  have hW' := hW
  obtain ⟨p, q, hA0, hV, rfl, hfz, hnd⟩ := hW
  have hA : DataW.TrodAll enc Tryd.prog W 0 (fun _ => true) true Tryd.f3.params.toList args.toList ds p := hA0
  rw [Tryd.params3] at hA hval hsz
  obtain ⟨v0, v1, d0, d1, p0, p1, rfl, rfl, rfl, h0, h1⟩ := trodAll_two hA
  obtain ⟨rfl, rfl⟩ := trodVars_none hV
  clear hA0 hval0 hsz0
  have k0 := h0
  obtain ⟨fuel0, hf0⟩ := h0
  have hw0 : ∀ n ∈ d0.weights Tryd.prog 24, n ≤ 140737488351232 := fun n hn => of_decide_eq_true (List.all_eq_true.1 hsz _ (DataW.weights_mem_each (j := 0) (t := 24) rfl rfl _ hn))
  obtain ⟨c, u, n, y, rfl, hf1, hwy⟩ := cfg_acc (hval 0 24 v0 rfl rfl) hf0
  obtain ⟨P, ho, hz, hd⟩ := acc_open (d := y.1) (pl := y.2) hf1
  obtain ⟨hlen, hxs⟩ := acc_wide hd (fun n hn => hw0 n (hwy n hn))
  have hin : InR W u P := ⟨ho, hxs⟩
  have k1 := h1
  obtain ⟨x1, rfl, rfl, rfl, m1⟩ := ChangeMaps.open_string Tryd.underlying9 (hval 1 9 v1 rfl rfl) h1
  have z1 : x1.size ≤ 281474976710656 := by
    have := (show ∀ n ∈ (DataW.lit (H := H) (.string x1.data.toList)).weights Tryd.prog 9, n ≤ 140737488351232 from fun n hn => of_decide_eq_true (List.all_eq_true.1 hsz _ (DataW.weights_mem_each (j := 1) (t := 9) rfl rfl _ hn))) x1.data.toList.length (by simp [DataW.weights])
    rw [Lo.sz] at this
    omega
  obtain ⟨hk, hn⟩ := all_of_laid hL
  simp only [List.append_nil] at hW'
  refine (memory_c W c u P x1 hin hz hlen hn hk z1 (fun W hn hk => alive_c W hn hk) _ (fun W => sec_c 111 W) (fun X hX => (new_ok hX).1)).mono fun e W' ⟨he, hg⟩ => ?_
  subst he
  have hB := Lo.below_of hg
  have hlt0 : ∀ x ∈ p0, x.block < W.heap.size := fun x hx => hW'.lt x (by simp [hx])
  have t0 := Below.trod (t := 24) Lo.laidOut (by kernel_rfl) (of_decide_eq_true (by kernel_rfl)) k0 hB hlt0
  refine ⟨_, rfl, _, _, _, [], p0 ++ [], [], hW', trodAll_mk1 (shut_bool Tryd.underlying4 _), trodAll_mk2 t0 (ChangeMaps.shut_string Tryd.underlying9 m1), rfl, hB.frame _, fun h => by cases h⟩

set_option maxRecDepth 100000 in
theorem memory_row : Rows.LobbyMemorySaid :=
  OpenClaim.holds_of_wide 3 Tryd.f3 rfl rfl rfl rfl rfl rfl rfl ⟨rfl, rfl, rfl, rfl, rfl⟩ rfl rfl rfl rfl rfl (by kernel_rfl) Tryd.func3 (by kernel_rfl)
    (of_decide_eq_true (by kernel_rfl)) (by unfold Func.isWrapper; first | (rw [if_pos (by decide +kernel)]; kernel_rfl) | (rw [if_neg (by decide +kernel)]; exact ⟨rfl, rfl⟩))
    (fun os started H enc _ => memory_lifted os started H enc)

set_option maxRecDepth 100000 in
theorem memory_holds : Rows.LobbyMemoryCardSaid :=
  Claim7.holds_tied_plain_at .later [] [.data, .data] true (true, "bada2712f5a880b812d9b2d23070c444b5104c3bc59405b670d8d7f2b9169e52") false
    memory_row (fun _ h => by cases h) (by kernel_rfl) (fun _ h => by cases h) lobbyMemory_row_tie rfl ⟨rfl, rfl⟩ (by kernel_rfl) rfl
    (fun f fn hf hfn => by
      obtain rfl : f = 3 := Option.some.inj ((show Tryd.prog.funcNamed "joust/joustlaw12.LobbyMemory" = some 3 by kernel_rfl).symm.trans hf) |>.symm
      obtain rfl : fn = Tryd.f3 := (Option.some.inj (Tryd.func3.symm.trans hfn)).symm
      exact ⟨by kernel_rfl, fun j t ht => by
        rw [Tryd.params3] at ht
        have hm : t ∈ [24, 9] := by simpa using Array.mem_of_getElem? ht
        have hall : ([24, 9].all fun u => !Tryd.prog.wantsStandIn u) = true := by kernel_rfl
        exact (show Tryd.prog.wantsStandIn t = false by simpa using List.all_eq_true.1 hall t hm)⟩)
    (by kernel_rfl)
#print axioms memory_holds
end Go.Proofs.YtplcicbpkbamnaaDoor

