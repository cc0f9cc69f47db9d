/- GateOnce: the walk. -/
import Derived.Test.YtjoodembmjooaaaG8
import Derived.Test.YtjoodembmjooaaaL1
import Derived.Deep.DeepCutAuto
namespace Go.Proofs.Ytjoodembmjooaaa
open Go Go.RowKit Go.Maps

theorem stv_len (s : Stp) : (stv s).length = 6 := rfl
theorem under22 : Try.prog.underlying 22 = some (.slice 29) := by kernel_rfl
theorem info29b : ∃ i, Try.prog.info? 29 = some i ∧ i.size = 6 ∧ i.bytes = 40 ∧ i.zero = some (.agg (stv ⟨0, 0, ⟨0, 0, false, false⟩⟩).toArray) := by
  have h : (Try.prog.info? 29).map (fun i => (i.size, i.bytes, i.zero)) = some (6, 40, some (.agg (stv ⟨0, 0, ⟨0, 0, false, false⟩⟩).toArray)) := by kernel_rfl
  cases e : Try.prog.info? 29 with
  | none => rw [e] at h; cases h
  | some i =>
    rw [e] at h
    simp only [Option.map_some, Option.some.injEq, Prod.mk.injEq] at h
    exact ⟨i, rfl, h.1, h.2.1, h.2.2⟩
set_option maxRecDepth 100000 in
theorem bs6_run (w : World) : ∀ (cs : List Value), cs.length = 6 → (Instr.buildSlice 22 1 #[(0, .agg cs.toArray)]).run Try.prog w = .ok (sl w.heap.size 1 1) (w.alloc (.cells cs.toArray 29))
  | c0 :: c1 :: c2 :: c3 :: c4 :: c5 :: [], _ => by kernel_rfl
theorem Sep.app6 {w0 W : World} {l : List As} {v : Value} {G : List Stp} (s : Stp) (h : Sep w0 W (rowV 29 6 v G.length (fl stv G) :: l)) (hm : (G.length + 1) * 40 ≤ 140737488355328) :
    ∃ g c W', (Builtin.append_ #[22, 22] 22 #[v, sl W.heap.size 1 1]).run Try.prog (W.alloc (.cells (stv s).toArray 29)) = .ok (sl g (G.length + 1) c) W' ∧ Sep w0 W' (rowV 29 6 (sl g (G.length + 1) c) (G ++ [s]).length (fl stv (G ++ [s])) :: l) := by
  obtain ⟨i, i1, i2, i3, i4⟩ := info29b
  obtain ⟨g, q, W', r1, r2⟩ := Sep.app (z := .agg (stv ⟨0, 0, ⟨0, 0, false, false⟩⟩).toArray) (bytes := 40) under22 i1 i4 i2 i3 rfl (by decide) h (stv s) rfl (stv_one s) hm (by decide)
  refine ⟨g, q, W', r1, ?_⟩
  rw [fl_app, List.length_append, show fl stv [s] = stv s by simp [fl]]
  exact r2
theorem sts_range {W : World} {g n c : Nat} {L : List Stp} (h : W.ownsRow 0 29 6 (sl g n c) n (fl stv L)) (hn : L.length = n) {j : Nat} {s : Stp} (hs : L[j]? = some s) : W.rangeAt g (j * 6) (stv s) := by
  have hj := (List.getElem?_eq_some_iff.1 hs).1
  obtain ⟨g', c', e, q⟩ := own_any h (by omega)
  injection e with e _ _
  injection e with e
  injection e with e _ _
  subst e
  exact fun r u hu => (q _ _ (fl_get stv_len L j s r u hs hu)).1
theorem sts_cells {W : World} {g n c : Nat} {L : List Stp} (h : W.ownsRow 0 29 6 (sl g n c) n (fl stv L)) (hn : L.length = n) {j : Nat} {s : Stp} (hs : L[j]? = some s) :
    W.cell? ⟨g, j * 6, none⟩ = some (iv s.op) ∧ W.cell? ⟨g, j * 6 + 1, none⟩ = some (iv s.pl) ∧ W.cell? ⟨g, j * 6 + 2, none⟩ = some (iv s.c.th) ∧ W.cell? ⟨g, j * 6 + 3, none⟩ = some (iv s.c.tu) ∧ W.cell? ⟨g, j * 6 + 4, none⟩ = some (.bool s.c.fi) ∧ W.cell? ⟨g, j * 6 + 5, none⟩ = some (.bool s.c.bo) := by
  have r := sts_range h hn hs
  exact ⟨r 0 _ rfl, r 1 _ rfl, r 2 _ rfl, r 3 _ rfl, r 4 _ rfl, r 5 _ rfl⟩
theorem row_cap {W : World} {e : TypeId} {s g n c : Nat} {xs : List Value} (h : W.ownsRow 0 e s (sl g n c) n xs) : n ≤ c := by
  rcases h.2 with ⟨q, _⟩ | ⟨g', cap, cur, q, _, _, q3, _⟩
  · cases q
  · injection q with _ _ e3
    rw [e3]; exact q3
theorem srt_lt {M : List Itn} (h : Srt M) {i j : Nat} {a b : Itn} (ha : M[i]? = some a) (hb : M[j]? = some b) (hij : i < j) : a.pl < b.pl := by
  obtain ⟨hi, rfl⟩ := List.getElem?_eq_some_iff.1 ha
  obtain ⟨hj, rfl⟩ := List.getElem?_eq_some_iff.1 hb
  exact List.pairwise_iff_getElem.1 h i j hi hj hij
/-- where the first k of the law's list have the player -/
def AtI (W : List Stp) (p : Int) (k : Nat) (a : Int) : Prop := (a = -1 ∧ ∀ (j : Nat) (s : Stp), j < k → W[j]? = some s → s.pl ≠ p) ∨ ∃ (j : Nat) (s : Stp), a = (j : Int) ∧ j < k ∧ W[j]? = some s ∧ s.pl = p
theorem AtI.step {W : List Stp} {p : Int} {k : Nat} {a : Int} (h : AtI W p k a) {s : Stp} (hs : W[k]? = some s) (e : s.pl ≠ p) : AtI W p (k + 1) a := by
  rcases h with ⟨h1, h2⟩ | ⟨j, t, h1, h2, h3, h4⟩
  · refine .inl ⟨h1, fun j t hj ht => ?_⟩
    by_cases q : j = k
    · subst q
      rw [hs] at ht
      cases ht
      exact e
    · exact h2 j t (by omega) ht
  · exact .inr ⟨j, t, h1, by omega, h3, h4⟩
def x0 : Stp := ⟨4, 0, ⟨0, 0, false, false⟩⟩
set_option maxRecDepth 100000 in
set_option maxHeartbeats 64000000 in
theorem once_c (w : World) (sv : Value) (L : List Stp) (hs : SrO w sv L) :
    Calls Try.prog 5 #[sv] w fun e w' => e = .returned (.bool true) ∧ w.grownBy w' none := by
  obtain ⟨a0, cap0, hsv, _⟩ := hs.o
  obtain ⟨n, hnn⟩ : ∃ n, L.length = n := ⟨_, rfl⟩
  rw [hnn] at hsv
  subst hsv
  have HNK := Keep.mk (And.intro hs hnn)
  have HNL : Keep (n * 40 ≤ 140737488351232) := ⟨by rw [← hnn]; exact hs.len⟩
  have HF := Keep.mk (fixed_c sort_c w)
  obtain ⟨du, hdu, hdr⟩ := underS
  clear hs hnn
  go_enter Try.func5, Try.ntmps5
  go_wp2_with fail
  refine HF.out.mono ?_
  rintro e w1 ⟨rfl, g1⟩
  have HN1 := Keep.mk (new_c w w1 [] (Sep.start g1))
  clear HF g1
  go_wp2_with fail
  refine HN1.out.mono ?_
  rintro e w2 ⟨gb, rfl, S2⟩
  have HS3 : Keep (Sep w w2 [rowV 29 6 (.slice none 0 0) ([] : List Stp).length (fl stv []), gateA gb []]) := ⟨S2.nilV 29 6⟩
  clear HN1 S2
  go_wp2_with fail
  go_loopw [4, 5, 6, 7, 8, 9, 10, 11, 12, 13] (fun u4 u5 _ _ _ _ _ _ _ _ wr => ∃ (i : Nat) (Wt : List Stp) (G : List Itn), i ≤ n + 1 ∧ u5 = iv i ∧ Keep (Sep w wr [rowV 29 6 u4 Wt.length (fl stv Wt), gateA gb G]) ∧ Keep (Wtr Wt G ∧ Wt.length ≤ i)) (fun _ u5 _ _ _ _ _ _ _ _ _ => (n + 1 - intOf u5).toNat)
  case atStart => exact ⟨0, [], [], by omega, rfl, HS3, ⟨Wtr.nil, Nat.le_refl _⟩⟩
  case round =>
    clear HS3
    obtain ⟨i, Wt, G, hi, rfl, hS, hL⟩ := hrel
    obtain ⟨m, hm⟩ : ∃ m, Wt.length = m := ⟨_, rfl⟩
    obtain ⟨a4, c4, h4⟩ := own_slice (hS.out.rowGet k0m)
    rw [hm] at h4 hS
    subst h4
    have HWL := Keep.mk hm
    have HWT := hL
    have HGL : Keep (G.length = m) := ⟨by rw [← hm]; exact hL.out.1.len⟩
    have HGG := Keep.mk (gok_get hS.out.swap)
    have HA4 : Keep (∀ (W' : World), W'.ownsRow 0 29 6 (.slice a4 m c4) m (fl stv Wt) → 0 < m → ∃ g, a4 = some ⟨g, 0, none⟩) := ⟨fun W' q h0 => by
      obtain ⟨g, c, e, _⟩ := own_any q h0
      injection e with e _ _
      exact ⟨g, e⟩⟩
    clear hm hL
    rename World => wr
    by_cases hle : i ≤ n
    · have hi2 : (i : Int) ≤ (n : Nat) := by omega
      have HMB : Keep (m ≤ i ∧ i ≤ n ∧ (m + 2) * 40 ≤ 140737488355328 ∧ i < 4611686018427387904) := ⟨by have := HWT.out.2; have := HWL.out; have := HNL.out; omega⟩
      have hwi : IntKind.i64.wrap ((i : Int) + 1) = ((i + 1 : Nat) : Int) := by have := HMB.out; rw [wi _ (by omega) (by omega)]; omega
      have HI : Keep (i + 1 ≤ n + 1) := ⟨by omega⟩
      have HS0 := Keep.mk (stv_one x0)
      go_wp2_with (first
        | (show wpList _ _ _ ({ dst := _, op := Op.store 29 _ _, type := _, pos := _, after := _, guard := _ } :: _) _ _
           refine store_new _ (stv x0) 29 rfl rfl rfl rfl rfl (by exact infoS) HS0.out ?_))
      intro w2 hS2 g2
      have S2 := hS2 w _ hS.out
      generalize wr.heap.size = ob at S2 ⊢
      have HS2 := Keep.mk S2
      have HBX := Keep.mk (S2.boxGet k0m)
      clear hS2 g2 S2 hS HS0
      go_upto_if 29 with fail
      go_cut [] (fun wx => ∃ x : Stp, Keep (I64 x.pl) ∧ Keep (Sep w wx [boxA ob (stv x) 29, rowV 29 6 (.slice a4 m c4) m (fl stv Wt), gateA gb G]))
      case first =>
        by_cases hlt : i < n
        · obtain ⟨b0, o0, x, rfl, hx, hxp, hrg⟩ := HNK.out.1.at HNK.out.2 HS2.out.g hlt
          have HRG := Keep.mk hrg
          have HXP := Keep.mk hxp
          have HSO := Keep.mk (stv_one x)
          have hi0 : (0 : Int) ≤ (i : Int) := by omega
          have hi1 : (i : Int) < (n : Nat) := by omega
          have hti : ((i : Nat) : Int).toNat = i := by omega
          clear hrg hxp hx hi hlt hle
          go_wp2_with (first
            | (show wpList _ _ _ ({ dst := _, op := Op.load 29 _, type := _, pos := _, after := _, guard := _ } :: _) _ _
               refine wpList_load_mid rfl 29 _ rfl _ _ rfl _ _ HRG.out hdu hdr (by exact infoS) ?_)
            | (show wpList _ _ _ ({ dst := _, op := Op.store 29 _ _, type := _, pos := _, after := _, guard := _ } :: _) _ _
               refine store_at _ ob 0 (stv x0) (stv x) 29 29 rfl rfl rfl rfl HBX.out (Nat.le_refl _) (by exact infoS) HSO.out ?_))
          intro w3 hS3 _
          have S3 := hS3 _ _ HS2.out
          rw [over_all (stv x0) (stv x) rfl] at S3
          have HSZ : Keep (Sep w w3 [boxA ob (stv x) 29, rowV 29 6 (.slice a4 m c4) m (fl stv Wt), gateA gb G]) := ⟨S3⟩
          clear hS3 S3 HRG HBX HSO hi0 hi1 hti HS2
          go_wp2_with fail
          go_meet
          exact ⟨x, HXP, HSZ⟩
        · have hi1 : ¬ (i : Int) < (n : Nat) := by omega
          have HXP : Keep (I64 x0.pl) := ⟨by unfold I64; decide⟩
          clear hi hlt hle
          go_wp2_with fail
          go_meet
          exact ⟨x0, HXP, HS2⟩
      case rest =>
      obtain ⟨x, HXP, HSZ⟩ := hcut
      clear HS2 HBX hi hle
      replace HS2 := HSZ
      clear HSZ
      go_wp2_with fail
      rename World => wo
      go_loopw [7, 8] (fun u7 u8 wz => ∃ (k : Nat) (at_ : Int), k ≤ m ∧ u8 = iv k ∧ u7 = iv at_ ∧ Keep (AtI Wt x.pl k at_) ∧ Keep (Sep w wz [boxA ob (stv x) 29, rowV 29 6 (.slice a4 m c4) m (fl stv Wt), gateA gb G])) (fun _ u8 _ => (m - intOf u8).toNat)
      case atStart => exact ⟨0, -1, by omega, rfl, rfl, ⟨.inl ⟨rfl, fun j s hj => by omega⟩⟩, HS2⟩
      case round =>
        clear HS2
        obtain ⟨k, at_, hk, rfl, rfl, hAt, hS⟩ := hrel
        rename World => wv
        by_cases hlt : k < m
        · obtain ⟨s, hs⟩ : ∃ s, Wt[k]? = some s := ⟨_, List.getElem?_eq_getElem (by rw [HWL.out]; exact hlt)⟩
          obtain ⟨g4, rfl⟩ := HA4.out _ (hS.out.rowGet k1m) (by omega)
          have hi0 : (0 : Int) ≤ (k : Int) := by omega
          have hi1 : (k : Int) < (m : Nat) := by omega
          have hti : ((k : Nat) : Int).toNat = k := by omega
          have hwk : IntKind.i64.wrap ((k : Int) + 1) = ((k + 1 : Nat) : Int) := by have := HMB.out; rw [wi _ (by omega) (by omega)]; omega
          have HK : Keep (k < m) := ⟨hlt⟩
          clear hlt hk
          by_cases e : s.pl = x.pl
          · have n0 : (s.pl == x.pl) = true := by simp [e]
            have HN : Keep (AtI Wt x.pl (k + 1) (k : Int)) := ⟨.inr ⟨k, s, rfl, by omega, hs, e⟩⟩
            clear e hAt
            go_wp2_with fail
            refine wp_region_held_drew (S := fun w' => Sep w w' [boxA ob (stv x) 29, rowV 29 6 (.slice (some ⟨g4, 0, none⟩) m c4) m (fl stv Wt), gateA gb G]) (by kernel_rfl) (hS.out.grown (gr_drew _ _)) (fun hHeld => ?_)
            clear hS
            refine wpAnyH_take (i := 0) (oi := _) (v := ?_) rfl (by kernel_rfl) (by kernel_rfl) (by kernel_rfl) (fun _ _ _ h => h) (Or.inl ⟨by rfl, ?_⟩) (by assumption) ?_
            rotate_left
            · (intro w hSw; go_simp; first | done | (with_reducible rfl))
            simp only [Act.put, List.getElem_toArray, List.getElem_cons_zero, List.setIfInBounds_toArray, List.set_cons_zero, List.set_cons_succ]
            refine wpAnyH_take (i := 1) (oi := _) (v := ?_) rfl (by kernel_rfl) (by kernel_rfl) (by kernel_rfl) (fun _ _ _ h => h) (Or.inl ⟨by rfl, ?_⟩) (by assumption) ?_
            rotate_left
            · (intro w hSw; go_simp; first | done | (with_reducible rfl))
            simp only [Act.put, List.getElem_toArray, List.getElem_cons_succ, List.getElem_cons_zero, List.setIfInBounds_toArray, List.set_cons_zero, List.set_cons_succ]
            refine wpAnyH_take (i := 2) (oi := _) (v := ?_) rfl (by kernel_rfl) (by kernel_rfl) (by kernel_rfl) (fun _ _ _ h => h) (Or.inl ⟨by rfl, ?_⟩) (by assumption) ?_
            rotate_left
            · (intro w hSw; go_simp; first | done | (with_reducible rfl))
            simp only [Act.put, List.getElem_toArray, List.getElem_cons_succ, List.getElem_cons_zero, List.setIfInBounds_toArray, List.set_cons_zero, List.set_cons_succ]
            refine wpAnyH_take (i := 3) (oi := _) (v := ?_) rfl (by kernel_rfl) (by kernel_rfl) (by kernel_rfl) (fun _ _ _ h => h) (Or.inl ⟨by rfl, ?_⟩) (by assumption) ?_
            rotate_left
            · (intro w hSw; go_simp; first | done | (with_reducible rfl))
            simp only [Act.put, List.getElem_toArray, List.getElem_cons_succ, List.getElem_cons_zero, List.setIfInBounds_toArray, List.set_cons_zero, List.set_cons_succ]
            refine wpAnyH_take (i := 4) (oi := _) (v := ?_) rfl (by kernel_rfl) (by kernel_rfl) (by kernel_rfl) (fun _ _ _ h => h) (Or.inl ⟨by rfl, ?_⟩) (by assumption) ?_
            rotate_left
            · (intro w hSw; obtain ⟨y0, y1, y2, y3, y4, y5⟩ := sts_cells (hSw.rowGet k1m) HWL.out hs; go_simp; first | done | (with_reducible rfl))
            simp only [Act.put, List.getElem_toArray, List.getElem_cons_succ, List.getElem_cons_zero, List.setIfInBounds_toArray, List.set_cons_zero, List.set_cons_succ]
            refine wpAnyH_take (i := 5) (oi := _) (v := ?_) rfl (by kernel_rfl) (by kernel_rfl) (by kernel_rfl) (fun _ _ _ h => h) (Or.inl ⟨by rfl, ?_⟩) (by assumption) ?_
            rotate_left
            · (intro w hSw; go_simp; first | done | (with_reducible rfl))
            simp only [Act.put, List.getElem_toArray, List.getElem_cons_succ, List.getElem_cons_zero, List.setIfInBounds_toArray, List.set_cons_zero, List.set_cons_succ]
            refine wpAnyH_take (i := 6) (oi := _) (v := ?_) rfl (by kernel_rfl) (by kernel_rfl) (by kernel_rfl) (fun _ _ _ h => h) (Or.inl ⟨by rfl, ?_⟩) (by assumption) ?_
            rotate_left
            · (intro w hSw; have q1 := (hSw.boxGet k0m).cellv 1 _ rfl; go_simp; first | done | (with_reducible rfl))
            simp only [Act.put, List.getElem_toArray, List.getElem_cons_succ, List.getElem_cons_zero, List.setIfInBounds_toArray, List.set_cons_zero, List.set_cons_succ]
            refine wpAnyH_take (i := 7) (oi := _) (v := .bool true) rfl (by kernel_rfl) (by kernel_rfl) (by kernel_rfl) (fun _ _ _ h => h) (Or.inl ⟨by rfl, ?_⟩) (by assumption) ?_
            · (intro w hSw; go_simp; first | done | (simp; done) | trace_state)
            simp only [Act.put, List.getElem_toArray, List.getElem_cons_succ, List.getElem_cons_zero, List.setIfInBounds_toArray, List.set_cons_zero, List.set_cons_succ]
            refine wpAnyH_done (by kernel_rfl) ?_ _

            have HSX := Keep.mk hHeld
            clear hHeld
            go_wp2_with fail
            go_roundw
            case rel => exact ⟨k + 1, _, HK.out, rfl, rfl, HN, HSX⟩
            case measure => simp [intOf]; have := HK.out; omega
          · have n0 : (s.pl == x.pl) = false := by simp [e]
            have HN : Keep (AtI Wt x.pl (k + 1) at_) := ⟨hAt.out.step hs e⟩
            clear e hAt
            go_wp2_with fail
            refine wp_region_held_drew (S := fun w' => Sep w w' [boxA ob (stv x) 29, rowV 29 6 (.slice (some ⟨g4, 0, none⟩) m c4) m (fl stv Wt), gateA gb G]) (by kernel_rfl) (hS.out.grown (gr_drew _ _)) (fun hHeld => ?_)
            clear hS
            refine wpAnyH_take (i := 0) (oi := _) (v := ?_) rfl (by kernel_rfl) (by kernel_rfl) (by kernel_rfl) (fun _ _ _ h => h) (Or.inl ⟨by rfl, ?_⟩) (by assumption) ?_
            rotate_left
            · (intro w hSw; go_simp; first | done | (with_reducible rfl))
            simp only [Act.put, List.getElem_toArray, List.getElem_cons_zero, List.setIfInBounds_toArray, List.set_cons_zero, List.set_cons_succ]
            refine wpAnyH_take (i := 1) (oi := _) (v := ?_) rfl (by kernel_rfl) (by kernel_rfl) (by kernel_rfl) (fun _ _ _ h => h) (Or.inl ⟨by rfl, ?_⟩) (by assumption) ?_
            rotate_left
            · (intro w hSw; go_simp; first | done | (with_reducible rfl))
            simp only [Act.put, List.getElem_toArray, List.getElem_cons_succ, List.getElem_cons_zero, List.setIfInBounds_toArray, List.set_cons_zero, List.set_cons_succ]
            refine wpAnyH_take (i := 2) (oi := _) (v := ?_) rfl (by kernel_rfl) (by kernel_rfl) (by kernel_rfl) (fun _ _ _ h => h) (Or.inl ⟨by rfl, ?_⟩) (by assumption) ?_
            rotate_left
            · (intro w hSw; go_simp; first | done | (with_reducible rfl))
            simp only [Act.put, List.getElem_toArray, List.getElem_cons_succ, List.getElem_cons_zero, List.setIfInBounds_toArray, List.set_cons_zero, List.set_cons_succ]
            refine wpAnyH_take (i := 3) (oi := _) (v := ?_) rfl (by kernel_rfl) (by kernel_rfl) (by kernel_rfl) (fun _ _ _ h => h) (Or.inl ⟨by rfl, ?_⟩) (by assumption) ?_
            rotate_left
            · (intro w hSw; go_simp; first | done | (with_reducible rfl))
            simp only [Act.put, List.getElem_toArray, List.getElem_cons_succ, List.getElem_cons_zero, List.setIfInBounds_toArray, List.set_cons_zero, List.set_cons_succ]
            refine wpAnyH_take (i := 4) (oi := _) (v := ?_) rfl (by kernel_rfl) (by kernel_rfl) (by kernel_rfl) (fun _ _ _ h => h) (Or.inl ⟨by rfl, ?_⟩) (by assumption) ?_
            rotate_left
            · (intro w hSw; obtain ⟨y0, y1, y2, y3, y4, y5⟩ := sts_cells (hSw.rowGet k1m) HWL.out hs; go_simp; first | done | (with_reducible rfl))
            simp only [Act.put, List.getElem_toArray, List.getElem_cons_succ, List.getElem_cons_zero, List.setIfInBounds_toArray, List.set_cons_zero, List.set_cons_succ]
            refine wpAnyH_take (i := 5) (oi := _) (v := ?_) rfl (by kernel_rfl) (by kernel_rfl) (by kernel_rfl) (fun _ _ _ h => h) (Or.inl ⟨by rfl, ?_⟩) (by assumption) ?_
            rotate_left
            · (intro w hSw; go_simp; first | done | (with_reducible rfl))
            simp only [Act.put, List.getElem_toArray, List.getElem_cons_succ, List.getElem_cons_zero, List.setIfInBounds_toArray, List.set_cons_zero, List.set_cons_succ]
            refine wpAnyH_take (i := 6) (oi := _) (v := ?_) rfl (by kernel_rfl) (by kernel_rfl) (by kernel_rfl) (fun _ _ _ h => h) (Or.inl ⟨by rfl, ?_⟩) (by assumption) ?_
            rotate_left
            · (intro w hSw; have q1 := (hSw.boxGet k0m).cellv 1 _ rfl; go_simp; first | done | (with_reducible rfl))
            simp only [Act.put, List.getElem_toArray, List.getElem_cons_succ, List.getElem_cons_zero, List.setIfInBounds_toArray, List.set_cons_zero, List.set_cons_succ]
            refine wpAnyH_take (i := 7) (oi := _) (v := .bool false) rfl (by kernel_rfl) (by kernel_rfl) (by kernel_rfl) (fun _ _ _ h => h) (Or.inl ⟨by rfl, ?_⟩) (by assumption) ?_
            · (intro w hSw; go_simp; first | done | (simp; done) | trace_state)
            simp only [Act.put, List.getElem_toArray, List.getElem_cons_succ, List.getElem_cons_zero, List.setIfInBounds_toArray, List.set_cons_zero, List.set_cons_succ]
            refine wpAnyH_done (by kernel_rfl) ?_ _

            have HSX := Keep.mk hHeld
            clear hHeld
            go_wp2_with fail
            go_roundw
            case rel => exact ⟨k + 1, _, HK.out, rfl, rfl, HN, HSX⟩
            case measure => simp [intOf]; have := HK.out; omega
        · have hi1 : ¬ (k : Int) < (m : Nat) := by omega
          obtain rfl : k = m := by omega
          have HW := Keep.mk (waits_c w wv _ gb G x.pl HXP.out (fr1 [_, _] hS.out))
          clear hlt hk
          have d1 : wv.cell? ⟨ob, 1, none⟩ = some (iv x.pl) := (hS.out.boxGet k0m).cellv 1 _ rfl
          have hlk : (look G x.pl).isSome = decide (0 ≤ at_) := by
            rcases hAt.out with ⟨rfl, hno⟩ | ⟨j0, s0, rfl, hj0, hs0, hp0⟩
            · rw [HWT.out.1.look_none fun s hs => by
                obtain ⟨j, hj, e⟩ := List.getElem_of_mem hs
                exact hno j s (by rw [← HWL.out]; exact hj) (by rw [List.getElem?_eq_getElem hj, e])]
              rfl
            · rw [← hp0, HWT.out.1.look_some (List.mem_of_getElem? hs0)]
              exact (decide_eq_true (by omega)).symm
          rw [hlk] at HW
          have hbb : (decide (0 ≤ at_) != decide (0 ≤ at_)) = false := by simp
          clear hlk
          go_wp2_with fail
          refine HW.out.mono ?_
          rintro e wt ⟨rfl, gt⟩
          have HSW := Keep.mk (hS.out.grown gt)
          clear HW gt hS d1
          have d0 : wt.cell? ⟨ob, 0, none⟩ = some (iv x.op) := (HSW.out.boxGet k0m).cellv 0 _ rfl
          have d1 : wt.cell? ⟨ob, 1, none⟩ = some (iv x.pl) := (HSW.out.boxGet k0m).cellv 1 _ rfl
          have d2 : wt.cell? ⟨ob, 2, none⟩ = some (iv x.c.th) := (HSW.out.boxGet k0m).cellv 2 _ rfl
          have d3 : wt.cell? ⟨ob, 3, none⟩ = some (iv x.c.tu) := (HSW.out.boxGet k0m).cellv 3 _ rfl
          have d4 : wt.cell? ⟨ob, 4, none⟩ = some (.bool x.c.fi) := (HSW.out.boxGet k0m).cellv 4 _ rfl
          have d5 : wt.cell? ⟨ob, 5, none⟩ = some (.bool x.c.bo) := (HSW.out.boxGet k0m).cellv 5 _ rfl
          by_cases e4 : x.op = 4
          · rw [e4] at d0
            clear e4 hAt
            as_aux_lemma =>
              have HT := Keep.mk (take_c sort_c w wt _ gb G (by have := HGL.out; have := HMB.out; omega) (fr1 [_, _] HSW.out))
              clear HSW
              go_wp2_with fail
              refine HT.out.mono ?_
              rintro e w4 ⟨g2, c2, rfl, S4⟩
              rw [HGL.out] at S4 ⊢
              have HS4 : Keep (Sep w w4 [rowV 36 5 (sl g2 k c2) k (its G), gateA gb [], boxA ob (stv x) 29, rowV 29 6 (.slice a4 k c4) k (fl stv Wt)]) := ⟨S4⟩
              clear HT S4
              go_wp2_with fail
              rename World => wo2
              go_loopw [11, 12, 13] (fun u11 _ _ wz => ∃ q : Nat, q ≤ k ∧ u11 = iv q ∧ Keep (Sep w wz [rowV 36 5 (sl g2 k c2) k (its G), gateA gb [], boxA ob (stv x) 29, rowV 29 6 (.slice a4 k c4) k (fl stv Wt)])) (fun u11 _ _ _ => (k - intOf u11).toNat)
              case atStart => exact ⟨0, by omega, rfl, HS4⟩
              case round =>
                clear HS4
                obtain ⟨q, hq, rfl, hS⟩ := hrel
                by_cases hlt : q < k
                · obtain ⟨y, hy⟩ : ∃ y, G[q]? = some y := ⟨_, List.getElem?_eq_getElem (by rw [HGL.out]; exact hlt)⟩
                  obtain ⟨j0, s0, hj0, hy0, huq⟩ := HWT.out.1.of hy
                  obtain ⟨g4, rfl⟩ := HA4.out _ (hS.out.rowGet k3m) (by omega)
                  have hi0 : (0 : Int) ≤ (q : Int) := by omega
                  have hi1 : (q : Int) < (k : Nat) := by omega
                  have htq : ((q : Nat) : Int).toNat = q := by omega
                  have hwq : IntKind.i64.wrap ((q : Int) + 1) = ((q + 1 : Nat) : Int) := by have := HMB.out; rw [wi _ (by omega) (by omega)]; omega
                  have HQ1 : Keep (q < k) := ⟨hlt⟩
                  have HJ0 : Keep (j0 < k) := ⟨by rw [← HWL.out]; exact (List.getElem?_eq_some_iff.1 hj0).1⟩
                  have HUQ := Keep.mk huq
                  have HY0 := Keep.mk (And.intro hj0 hy0)
                  have HYP : Keep (I64 y.pl) := ⟨HGG.out.2 y (List.mem_of_getElem? hy)⟩
                  have HSRT := Keep.mk (fun (r : Nat) (y' : Itn) (hr : G[r]? = some y') (hrq : r < q) => srt_lt HGG.out.1 hr hy hrq)
                  clear hlt hq huq hj0 hy0
                  have HSB : Keep (Sep w _ [rowV 36 5 (sl g2 k c2) k (its G), gateA gb [], boxA ob (stv x) 29, rowV 29 6 (sl g4 k c4) k (fl stv Wt)]) := hS
                  clear hS
                  go_wp2_with fail
                  rename World => wo3
                  go_loopw [12, 13] (fun u12 u13 wz => ∃ j : Nat, j ≤ k ∧ u13 = iv j ∧ u12 = .bool (decide (j0 < j)) ∧ Keep (Sep w wz [rowV 36 5 (sl g2 k c2) k (its G), gateA gb [], boxA ob (stv x) 29, rowV 29 6 (sl g4 k c4) k (fl stv Wt)])) (fun _ u13 _ => (k - intOf u13).toNat)
                  case atStart => exact ⟨0, by omega, rfl, by simp, HSB⟩
                  case round =>
                    clear HSB
                    obtain ⟨j, hj, rfl, rfl, hS⟩ := hrel
                    by_cases hlt : j < k
                    · obtain ⟨s, hs⟩ : ∃ s, Wt[j]? = some s := ⟨_, List.getElem?_eq_getElem (by rw [HWL.out]; exact hlt)⟩
                      have hj0 : (0 : Int) ≤ (j : Int) := by omega
                      have hj1 : (j : Int) < (k : Nat) := by omega
                      have htj : ((j : Nat) : Int).toNat = j := by omega
                      have hwj : IntKind.i64.wrap ((j : Int) + 1) = ((j + 1 : Nat) : Int) := by have := HMB.out; rw [wi _ (by omega) (by omega)]; omega
                      have HJ : Keep (j < k) := ⟨hlt⟩
                      clear hlt hj
                      by_cases hf : j0 < j
                      · have HD : Keep (decide (j0 < j + 1) = true) := ⟨decide_eq_true (by omega)⟩
                        rw [decide_eq_true hf]
                        clear hf
                        go_wp2_with fail
                        refine wp_region_held_drew (S := fun w' => Sep w w' [rowV 36 5 (sl g2 k c2) k (its G), gateA gb [], boxA ob (stv x) 29, rowV 29 6 (sl g4 k c4) k (fl stv Wt)]) (by kernel_rfl) (hS.out.grown (gr_drew _ _)) (fun hHeld => ?_)
                        clear hS
                        refine wpAnyH_take (i := 0) (oi := _) (v := ?_) rfl (by kernel_rfl) (by kernel_rfl) (by kernel_rfl) (fun _ _ _ h => h) (Or.inl ⟨by rfl, ?_⟩) (by assumption) ?_
                        rotate_left
                        · (intro w hSw; go_simp; first | done | (with_reducible rfl))
                        simp only [Act.put, List.getElem_toArray, List.getElem_cons_zero, List.setIfInBounds_toArray, List.set_cons_zero, List.set_cons_succ]
                        refine wpAnyH_take (i := 1) (oi := _) (v := ?_) rfl (by kernel_rfl) (by kernel_rfl) (by kernel_rfl) (fun _ _ _ h => h) (Or.inl ⟨by rfl, ?_⟩) (by assumption) ?_
                        rotate_left
                        · (intro w hSw; go_simp; first | done | (with_reducible rfl))
                        simp only [Act.put, List.getElem_toArray, List.getElem_cons_succ, List.getElem_cons_zero, List.setIfInBounds_toArray, List.set_cons_zero, List.set_cons_succ]
                        refine wpAnyH_take (i := 2) (oi := _) (v := undef) rfl (by kernel_rfl) (by kernel_rfl) (by kernel_rfl) (fun _ _ _ h => h) (Or.inr ⟨by rfl, rfl⟩) (by assumption) ?_
                        simp only [Act.put, List.getElem_toArray, List.getElem_cons_succ, List.getElem_cons_zero, List.setIfInBounds_toArray, List.set_cons_zero, List.set_cons_succ]
                        refine wpAnyH_take (i := 3) (oi := _) (v := undef) rfl (by kernel_rfl) (by kernel_rfl) (by kernel_rfl) (fun _ _ _ h => h) (Or.inr ⟨by rfl, rfl⟩) (by assumption) ?_
                        simp only [Act.put, List.getElem_toArray, List.getElem_cons_succ, List.getElem_cons_zero, List.setIfInBounds_toArray, List.set_cons_zero, List.set_cons_succ]
                        refine wpAnyH_take (i := 4) (oi := _) (v := undef) rfl (by kernel_rfl) (by kernel_rfl) (by kernel_rfl) (fun _ _ _ h => h) (Or.inr ⟨by rfl, rfl⟩) (by assumption) ?_
                        simp only [Act.put, List.getElem_toArray, List.getElem_cons_succ, List.getElem_cons_zero, List.setIfInBounds_toArray, List.set_cons_zero, List.set_cons_succ]
                        refine wpAnyH_take (i := 5) (oi := _) (v := undef) rfl (by kernel_rfl) (by kernel_rfl) (by kernel_rfl) (fun _ _ _ h => h) (Or.inr ⟨by rfl, rfl⟩) (by assumption) ?_
                        simp only [Act.put, List.getElem_toArray, List.getElem_cons_succ, List.getElem_cons_zero, List.setIfInBounds_toArray, List.set_cons_zero, List.set_cons_succ]
                        refine wpAnyH_take (i := 6) (oi := _) (v := undef) rfl (by kernel_rfl) (by kernel_rfl) (by kernel_rfl) (fun _ _ _ h => h) (Or.inr ⟨by rfl, rfl⟩) (by assumption) ?_
                        simp only [Act.put, List.getElem_toArray, List.getElem_cons_succ, List.getElem_cons_zero, List.setIfInBounds_toArray, List.set_cons_zero, List.set_cons_succ]
                        refine wpAnyH_take (i := 7) (oi := _) (v := undef) rfl (by kernel_rfl) (by kernel_rfl) (by kernel_rfl) (fun _ _ _ h => h) (Or.inr ⟨by rfl, rfl⟩) (by assumption) ?_
                        simp only [Act.put, List.getElem_toArray, List.getElem_cons_succ, List.getElem_cons_zero, List.setIfInBounds_toArray, List.set_cons_zero, List.set_cons_succ]
                        refine wpAnyH_take (i := 8) (oi := _) (v := undef) rfl (by kernel_rfl) (by kernel_rfl) (by kernel_rfl) (fun _ _ _ h => h) (Or.inr ⟨by rfl, rfl⟩) (by assumption) ?_
                        simp only [Act.put, List.getElem_toArray, List.getElem_cons_succ, List.getElem_cons_zero, List.setIfInBounds_toArray, List.set_cons_zero, List.set_cons_succ]
                        refine wpAnyH_take (i := 9) (oi := _) (v := undef) rfl (by kernel_rfl) (by kernel_rfl) (by kernel_rfl) (fun _ _ _ h => h) (Or.inr ⟨by rfl, rfl⟩) (by assumption) ?_
                        simp only [Act.put, List.getElem_toArray, List.getElem_cons_succ, List.getElem_cons_zero, List.setIfInBounds_toArray, List.set_cons_zero, List.set_cons_succ]
                        refine wpAnyH_take (i := 10) (oi := _) (v := undef) rfl (by kernel_rfl) (by kernel_rfl) (by kernel_rfl) (fun _ _ _ h => h) (Or.inr ⟨by rfl, rfl⟩) (by assumption) ?_
                        simp only [Act.put, List.getElem_toArray, List.getElem_cons_succ, List.getElem_cons_zero, List.setIfInBounds_toArray, List.set_cons_zero, List.set_cons_succ]
                        refine wpAnyH_take (i := 11) (oi := _) (v := undef) rfl (by kernel_rfl) (by kernel_rfl) (by kernel_rfl) (fun _ _ _ h => h) (Or.inr ⟨by rfl, rfl⟩) (by assumption) ?_
                        simp only [Act.put, List.getElem_toArray, List.getElem_cons_succ, List.getElem_cons_zero, List.setIfInBounds_toArray, List.set_cons_zero, List.set_cons_succ]
                        refine wpAnyH_take (i := 12) (oi := _) (v := undef) rfl (by kernel_rfl) (by kernel_rfl) (by kernel_rfl) (fun _ _ _ h => h) (Or.inr ⟨by rfl, rfl⟩) (by assumption) ?_
                        simp only [Act.put, List.getElem_toArray, List.getElem_cons_succ, List.getElem_cons_zero, List.setIfInBounds_toArray, List.set_cons_zero, List.set_cons_succ]
                        refine wpAnyH_take (i := 13) (oi := _) (v := undef) rfl (by kernel_rfl) (by kernel_rfl) (by kernel_rfl) (fun _ _ _ h => h) (Or.inr ⟨by rfl, rfl⟩) (by assumption) ?_
                        simp only [Act.put, List.getElem_toArray, List.getElem_cons_succ, List.getElem_cons_zero, List.setIfInBounds_toArray, List.set_cons_zero, List.set_cons_succ]
                        refine wpAnyH_take (i := 14) (oi := _) (v := undef) rfl (by kernel_rfl) (by kernel_rfl) (by kernel_rfl) (fun _ _ _ h => h) (Or.inr ⟨by rfl, rfl⟩) (by assumption) ?_
                        simp only [Act.put, List.getElem_toArray, List.getElem_cons_succ, List.getElem_cons_zero, List.setIfInBounds_toArray, List.set_cons_zero, List.set_cons_succ]
                        refine wpAnyH_take (i := 15) (oi := _) (v := undef) rfl (by kernel_rfl) (by kernel_rfl) (by kernel_rfl) (fun _ _ _ h => h) (Or.inr ⟨by rfl, rfl⟩) (by assumption) ?_
                        simp only [Act.put, List.getElem_toArray, List.getElem_cons_succ, List.getElem_cons_zero, List.setIfInBounds_toArray, List.set_cons_zero, List.set_cons_succ]
                        refine wpAnyH_take (i := 16) (oi := _) (v := undef) rfl (by kernel_rfl) (by kernel_rfl) (by kernel_rfl) (fun _ _ _ h => h) (Or.inr ⟨by rfl, rfl⟩) (by assumption) ?_
                        simp only [Act.put, List.getElem_toArray, List.getElem_cons_succ, List.getElem_cons_zero, List.setIfInBounds_toArray, List.set_cons_zero, List.set_cons_succ]
                        refine wpAnyH_take (i := 17) (oi := _) (v := ?_) rfl (by kernel_rfl) (by kernel_rfl) (by kernel_rfl) (fun _ _ _ h => h) (Or.inl ⟨by rfl, ?_⟩) (by assumption) ?_
                        rotate_left
                        · (intro w hSw; go_simp; first | done | (with_reducible rfl))
                        simp only [Act.put, List.getElem_toArray, List.getElem_cons_succ, List.getElem_cons_zero, List.setIfInBounds_toArray, List.set_cons_zero, List.set_cons_succ]
                        refine wpAnyH_take (i := 18) (oi := _) (v := ?_) rfl (by kernel_rfl) (by kernel_rfl) (by kernel_rfl) (fun _ _ _ h => h) (Or.inl ⟨by rfl, ?_⟩) (by assumption) ?_
                        rotate_left
                        · (intro w hSw; go_simp; first | done | (with_reducible rfl))
                        simp only [Act.put, List.getElem_toArray, List.getElem_cons_succ, List.getElem_cons_zero, List.setIfInBounds_toArray, List.set_cons_zero, List.set_cons_succ]
                        refine wpAnyH_done (by kernel_rfl) ?_ _

                        have HSX := Keep.mk hHeld
                        clear hHeld
                        go_wp2_with fail
                        go_roundw
                        case rel => exact ⟨j + 1, HJ.out, rfl, by rw [HD.out], HSX⟩
                        case measure => simp [intOf]; have := HJ.out; omega
                      · have HDF := Keep.mk (decide_eq_false hf)
                        by_cases hjj : j = j0
                        · have HD : Keep (decide (j0 < j + 1) = true) := ⟨decide_eq_true (by omega)⟩
                          have hse : s = s0 := by
                            have := HY0.out.1
                            rw [← hjj, hs] at this
                            exact Option.some.inj this
                          subst hse
                          have HLC : Keep (∀ W, Sep w W [rowV 36 5 (sl g2 k c2) k (its G), gateA gb [], boxA ob (stv x) 29, rowV 29 6 (sl g4 k c4) k (fl stv Wt)] → Calls Try.prog 14 #[.agg #[iv y.pl, iv y.th, iv y.tu, .bool y.fi, .bool y.bo], iv s.pl, .agg #[iv s.c.th, iv s.c.tu, .bool s.c.fi, .bool s.c.bo]] W fun e W' => e = .returned (.bool true) ∧ Sep w W' [rowV 36 5 (sl g2 k c2) k (its G), gateA gb [], boxA ob (stv x) 29, rowV 29 6 (sl g4 k c4) k (fl stv Wt)]) := ⟨fun W z => by rw [HY0.out.2]; exact (legal_yes W s.pl s.c).mono fun e W' u => ⟨u.1, z.grown u.2⟩⟩
                          rw [HDF.out]
                          clear hf hjj HDF
                          go_wp2_with fail
                          refine wp_region_held_drew (S := fun w' => Sep w w' [rowV 36 5 (sl g2 k c2) k (its G), gateA gb [], boxA ob (stv x) 29, rowV 29 6 (sl g4 k c4) k (fl stv Wt)]) (by kernel_rfl) (hS.out.grown (gr_drew _ _)) (fun hHeld => ?_)
                          clear hS
                          refine wpAnyH_take (i := 0) (oi := _) (v := ?_) rfl (by kernel_rfl) (by kernel_rfl) (by kernel_rfl) (fun _ _ _ h => h) (Or.inl ⟨by rfl, ?_⟩) (by assumption) ?_
                          rotate_left
                          · (intro w hSw; go_simp; first | done | (with_reducible rfl))
                          simp only [Act.put, List.getElem_toArray, List.getElem_cons_zero, List.setIfInBounds_toArray, List.set_cons_zero, List.set_cons_succ]
                          refine wpAnyH_take (i := 1) (oi := _) (v := ?_) rfl (by kernel_rfl) (by kernel_rfl) (by kernel_rfl) (fun _ _ _ h => h) (Or.inl ⟨by rfl, ?_⟩) (by assumption) ?_
                          rotate_left
                          · (intro w hSw; go_simp; first | done | (with_reducible rfl))
                          simp only [Act.put, List.getElem_toArray, List.getElem_cons_succ, List.getElem_cons_zero, List.setIfInBounds_toArray, List.set_cons_zero, List.set_cons_succ]
                          refine wpAnyH_take (i := 2) (oi := _) (v := ?_) rfl (by kernel_rfl) (by kernel_rfl) (by kernel_rfl) (fun _ _ _ h => h) (Or.inl ⟨by rfl, ?_⟩) (by assumption) ?_
                          rotate_left
                          · (intro w hSw; go_simp; first | done | (with_reducible rfl))
                          simp only [Act.put, List.getElem_toArray, List.getElem_cons_succ, List.getElem_cons_zero, List.setIfInBounds_toArray, List.set_cons_zero, List.set_cons_succ]
                          refine wpAnyH_take (i := 3) (oi := _) (v := ?_) rfl (by kernel_rfl) (by kernel_rfl) (by kernel_rfl) (fun _ _ _ h => h) (Or.inl ⟨by rfl, ?_⟩) (by assumption) ?_
                          rotate_left
                          · (intro w hSw; go_simp; first | done | (with_reducible rfl))
                          simp only [Act.put, List.getElem_toArray, List.getElem_cons_succ, List.getElem_cons_zero, List.setIfInBounds_toArray, List.set_cons_zero, List.set_cons_succ]
                          refine wpAnyH_take (i := 4) (oi := _) (v := ?_) rfl (by kernel_rfl) (by kernel_rfl) (by kernel_rfl) (fun _ _ _ h => h) (Or.inl ⟨by rfl, ?_⟩) (by assumption) ?_
                          rotate_left
                          · (intro w hSw; go_simp; first | done | (with_reducible rfl))
                          simp only [Act.put, List.getElem_toArray, List.getElem_cons_succ, List.getElem_cons_zero, List.setIfInBounds_toArray, List.set_cons_zero, List.set_cons_succ]
                          refine wpAnyH_take (i := 5) (oi := _) (v := ?_) rfl (by kernel_rfl) (by kernel_rfl) (by kernel_rfl) (fun _ _ _ h => h) (Or.inl ⟨by rfl, ?_⟩) (by assumption) ?_
                          rotate_left
                          · (intro w hSw; obtain ⟨y0, y1, y2, y3, y4⟩ := (hSw.rdi (M := G) k0m HGL.out.symm).cells HGL.out hy; go_simp; first | done | (with_reducible rfl))
                          simp only [Act.put, List.getElem_toArray, List.getElem_cons_succ, List.getElem_cons_zero, List.setIfInBounds_toArray, List.set_cons_zero, List.set_cons_succ]
                          refine wpAnyH_take (i := 6) (oi := _) (v := ?_) rfl (by kernel_rfl) (by kernel_rfl) (by kernel_rfl) (fun _ _ _ h => h) (Or.inl ⟨by rfl, ?_⟩) (by assumption) ?_
                          rotate_left
                          · (intro w hSw; go_simp; first | done | (with_reducible rfl))
                          simp only [Act.put, List.getElem_toArray, List.getElem_cons_succ, List.getElem_cons_zero, List.setIfInBounds_toArray, List.set_cons_zero, List.set_cons_succ]
                          refine wpAnyH_take (i := 7) (oi := _) (v := ?_) rfl (by kernel_rfl) (by kernel_rfl) (by kernel_rfl) (fun _ _ _ h => h) (Or.inl ⟨by rfl, ?_⟩) (by assumption) ?_
                          rotate_left
                          · (intro w hSw; go_simp; first | done | (with_reducible rfl))
                          simp only [Act.put, List.getElem_toArray, List.getElem_cons_succ, List.getElem_cons_zero, List.setIfInBounds_toArray, List.set_cons_zero, List.set_cons_succ]
                          refine wpAnyH_take (i := 8) (oi := _) (v := ?_) rfl (by kernel_rfl) (by kernel_rfl) (by kernel_rfl) (fun _ _ _ h => h) (Or.inl ⟨by rfl, ?_⟩) (by assumption) ?_
                          rotate_left
                          · (intro w hSw; go_simp; first | done | (with_reducible rfl))
                          simp only [Act.put, List.getElem_toArray, List.getElem_cons_succ, List.getElem_cons_zero, List.setIfInBounds_toArray, List.set_cons_zero, List.set_cons_succ]
                          refine wpAnyH_take (i := 9) (oi := _) (v := ?_) rfl (by kernel_rfl) (by kernel_rfl) (by kernel_rfl) (fun _ _ _ h => h) (Or.inl ⟨by rfl, ?_⟩) (by assumption) ?_
                          rotate_left
                          · (intro w hSw; go_simp; first | done | (with_reducible rfl))
                          simp only [Act.put, List.getElem_toArray, List.getElem_cons_succ, List.getElem_cons_zero, List.setIfInBounds_toArray, List.set_cons_zero, List.set_cons_succ]
                          refine wpAnyH_take (i := 10) (oi := _) (v := ?_) rfl (by kernel_rfl) (by kernel_rfl) (by kernel_rfl) (fun _ _ _ h => h) (Or.inl ⟨by rfl, ?_⟩) (by assumption) ?_
                          rotate_left
                          · (intro w hSw; obtain ⟨z0, z1, z2, z3, z4, z5⟩ := sts_cells (hSw.rowGet k3m) HWL.out hs; go_simp; first | done | (with_reducible rfl))
                          simp only [Act.put, List.getElem_toArray, List.getElem_cons_succ, List.getElem_cons_zero, List.setIfInBounds_toArray, List.set_cons_zero, List.set_cons_succ]
                          refine wpAnyH_take (i := 11) (oi := _) (v := ?_) rfl (by kernel_rfl) (by kernel_rfl) (by kernel_rfl) (fun _ _ _ h => h) (Or.inl ⟨by rfl, ?_⟩) (by assumption) ?_
                          rotate_left
                          · (intro w hSw; go_simp; first | done | (with_reducible rfl))
                          simp only [Act.put, List.getElem_toArray, List.getElem_cons_succ, List.getElem_cons_zero, List.setIfInBounds_toArray, List.set_cons_zero, List.set_cons_succ]
                          refine wpAnyH_take (i := 12) (oi := _) (v := ?_) rfl (by kernel_rfl) (by kernel_rfl) (by kernel_rfl) (fun _ _ _ h => h) (Or.inl ⟨by rfl, ?_⟩) (by assumption) ?_
                          rotate_left
                          · (intro w hSw; go_simp; first | done | (with_reducible rfl))
                          simp only [Act.put, List.getElem_toArray, List.getElem_cons_succ, List.getElem_cons_zero, List.setIfInBounds_toArray, List.set_cons_zero, List.set_cons_succ]
                          refine wpAnyH_take (i := 13) (oi := _) (v := ?_) rfl (by kernel_rfl) (by kernel_rfl) (by kernel_rfl) (fun _ _ _ h => h) (Or.inl ⟨by rfl, ?_⟩) (by assumption) ?_
                          rotate_left
                          · (intro w hSw; go_simp; first | done | (with_reducible rfl))
                          simp only [Act.put, List.getElem_toArray, List.getElem_cons_succ, List.getElem_cons_zero, List.setIfInBounds_toArray, List.set_cons_zero, List.set_cons_succ]
                          refine wpAnyH_take (i := 14) (oi := _) (v := ?_) rfl (by kernel_rfl) (by kernel_rfl) (by kernel_rfl) (fun _ _ _ h => h) (Or.inl ⟨by rfl, ?_⟩) (by assumption) ?_
                          rotate_left
                          · (intro w hSw; go_simp; first | done | (with_reducible rfl))
                          simp only [Act.put, List.getElem_toArray, List.getElem_cons_succ, List.getElem_cons_zero, List.setIfInBounds_toArray, List.set_cons_zero, List.set_cons_succ]
                          refine wpAnyH_take (i := 15) (oi := _) (v := ?_) rfl (by kernel_rfl) (by kernel_rfl) (by kernel_rfl) (fun _ _ _ h => h) (Or.inl ⟨by rfl, ?_⟩) (by assumption) ?_
                          rotate_left
                          · (intro w hSw; obtain ⟨z0, z1, z2, z3, z4, z5⟩ := sts_cells (hSw.rowGet k3m) HWL.out hs; go_simp; first | done | (with_reducible rfl))
                          simp only [Act.put, List.getElem_toArray, List.getElem_cons_succ, List.getElem_cons_zero, List.setIfInBounds_toArray, List.set_cons_zero, List.set_cons_succ]
                          refine wpAnyH_ready (rs := [16]) (by kernel_rfl) (by simp) ?_
                          refine AllReadyH.cons (o := _) rfl (fun K hK => ?_) AllReadyH.nil
                          go_simp
                          refine (HLC.out _ hHeld).mono ?_
                          rintro e wA ⟨rfl, SA⟩
                          refine hK.out _ _ SA (fun hHeld => ?_)
                          clear hK K
                          refine wpAnyH_take (i := 17) (oi := _) (v := ?_) rfl (by kernel_rfl) (by kernel_rfl) (by kernel_rfl) (fun _ _ _ h => h) (Or.inl ⟨by rfl, ?_⟩) (by assumption) ?_
                          rotate_left
                          · (intro w hSw; go_simp; first | done | (with_reducible rfl))
                          simp only [Act.put, List.getElem_toArray, List.getElem_cons_succ, List.getElem_cons_zero, List.setIfInBounds_toArray, List.set_cons_zero, List.set_cons_succ]
                          refine wpAnyH_take (i := 18) (oi := _) (v := ?_) rfl (by kernel_rfl) (by kernel_rfl) (by kernel_rfl) (fun _ _ _ h => h) (Or.inl ⟨by rfl, ?_⟩) (by assumption) ?_
                          rotate_left
                          · (intro w hSw; go_simp; first | done | (with_reducible rfl))
                          simp only [Act.put, List.getElem_toArray, List.getElem_cons_succ, List.getElem_cons_zero, List.setIfInBounds_toArray, List.set_cons_zero, List.set_cons_succ]
                          refine wpAnyH_done (by kernel_rfl) ?_ _

                          have HSX := Keep.mk hHeld
                          clear hHeld HLC
                          go_wp2_with fail
                          go_roundw
                          case rel => exact ⟨j + 1, HJ.out, rfl, by rw [HD.out], HSX⟩
                          case measure => simp [intOf]; have := HJ.out; omega
                        · have HD : Keep (decide (j0 < j + 1) = false) := ⟨decide_eq_false (by omega)⟩
                          have HLC : Keep (∀ W, Sep w W [rowV 36 5 (sl g2 k c2) k (its G), gateA gb [], boxA ob (stv x) 29, rowV 29 6 (sl g4 k c4) k (fl stv Wt)] → Calls Try.prog 14 #[.agg #[iv y.pl, iv y.th, iv y.tu, .bool y.fi, .bool y.bo], iv s.pl, .agg #[iv s.c.th, iv s.c.tu, .bool s.c.fi, .bool s.c.bo]] W fun e W' => e = .returned (.bool false) ∧ Sep w W' [rowV 36 5 (sl g2 k c2) k (its G), gateA gb [], boxA ob (stv x) 29, rowV 29 6 (sl g4 k c4) k (fl stv Wt)]) := ⟨fun W z => (legal_no W y s.pl s.c (HUQ.out j s hs hjj)).mono fun e W' u => ⟨u.1, z.grown u.2⟩⟩
                          rw [HDF.out]
                          clear hf hjj HDF
                          go_wp2_with fail
                          refine wp_region_held_drew (S := fun w' => Sep w w' [rowV 36 5 (sl g2 k c2) k (its G), gateA gb [], boxA ob (stv x) 29, rowV 29 6 (sl g4 k c4) k (fl stv Wt)]) (by kernel_rfl) (hS.out.grown (gr_drew _ _)) (fun hHeld => ?_)
                          clear hS
                          refine wpAnyH_take (i := 0) (oi := _) (v := ?_) rfl (by kernel_rfl) (by kernel_rfl) (by kernel_rfl) (fun _ _ _ h => h) (Or.inl ⟨by rfl, ?_⟩) (by assumption) ?_
                          rotate_left
                          · (intro w hSw; go_simp; first | done | (with_reducible rfl))
                          simp only [Act.put, List.getElem_toArray, List.getElem_cons_zero, List.setIfInBounds_toArray, List.set_cons_zero, List.set_cons_succ]
                          refine wpAnyH_take (i := 1) (oi := _) (v := ?_) rfl (by kernel_rfl) (by kernel_rfl) (by kernel_rfl) (fun _ _ _ h => h) (Or.inl ⟨by rfl, ?_⟩) (by assumption) ?_
                          rotate_left
                          · (intro w hSw; go_simp; first | done | (with_reducible rfl))
                          simp only [Act.put, List.getElem_toArray, List.getElem_cons_succ, List.getElem_cons_zero, List.setIfInBounds_toArray, List.set_cons_zero, List.set_cons_succ]
                          refine wpAnyH_take (i := 2) (oi := _) (v := ?_) rfl (by kernel_rfl) (by kernel_rfl) (by kernel_rfl) (fun _ _ _ h => h) (Or.inl ⟨by rfl, ?_⟩) (by assumption) ?_
                          rotate_left
                          · (intro w hSw; go_simp; first | done | (with_reducible rfl))
                          simp only [Act.put, List.getElem_toArray, List.getElem_cons_succ, List.getElem_cons_zero, List.setIfInBounds_toArray, List.set_cons_zero, List.set_cons_succ]
                          refine wpAnyH_take (i := 3) (oi := _) (v := ?_) rfl (by kernel_rfl) (by kernel_rfl) (by kernel_rfl) (fun _ _ _ h => h) (Or.inl ⟨by rfl, ?_⟩) (by assumption) ?_
                          rotate_left
                          · (intro w hSw; go_simp; first | done | (with_reducible rfl))
                          simp only [Act.put, List.getElem_toArray, List.getElem_cons_succ, List.getElem_cons_zero, List.setIfInBounds_toArray, List.set_cons_zero, List.set_cons_succ]
                          refine wpAnyH_take (i := 4) (oi := _) (v := ?_) rfl (by kernel_rfl) (by kernel_rfl) (by kernel_rfl) (fun _ _ _ h => h) (Or.inl ⟨by rfl, ?_⟩) (by assumption) ?_
                          rotate_left
                          · (intro w hSw; go_simp; first | done | (with_reducible rfl))
                          simp only [Act.put, List.getElem_toArray, List.getElem_cons_succ, List.getElem_cons_zero, List.setIfInBounds_toArray, List.set_cons_zero, List.set_cons_succ]
                          refine wpAnyH_take (i := 5) (oi := _) (v := ?_) rfl (by kernel_rfl) (by kernel_rfl) (by kernel_rfl) (fun _ _ _ h => h) (Or.inl ⟨by rfl, ?_⟩) (by assumption) ?_
                          rotate_left
                          · (intro w hSw; obtain ⟨y0, y1, y2, y3, y4⟩ := (hSw.rdi (M := G) k0m HGL.out.symm).cells HGL.out hy; go_simp; first | done | (with_reducible rfl))
                          simp only [Act.put, List.getElem_toArray, List.getElem_cons_succ, List.getElem_cons_zero, List.setIfInBounds_toArray, List.set_cons_zero, List.set_cons_succ]
                          refine wpAnyH_take (i := 6) (oi := _) (v := ?_) rfl (by kernel_rfl) (by kernel_rfl) (by kernel_rfl) (fun _ _ _ h => h) (Or.inl ⟨by rfl, ?_⟩) (by assumption) ?_
                          rotate_left
                          · (intro w hSw; go_simp; first | done | (with_reducible rfl))
                          simp only [Act.put, List.getElem_toArray, List.getElem_cons_succ, List.getElem_cons_zero, List.setIfInBounds_toArray, List.set_cons_zero, List.set_cons_succ]
                          refine wpAnyH_take (i := 7) (oi := _) (v := ?_) rfl (by kernel_rfl) (by kernel_rfl) (by kernel_rfl) (fun _ _ _ h => h) (Or.inl ⟨by rfl, ?_⟩) (by assumption) ?_
                          rotate_left
                          · (intro w hSw; go_simp; first | done | (with_reducible rfl))
                          simp only [Act.put, List.getElem_toArray, List.getElem_cons_succ, List.getElem_cons_zero, List.setIfInBounds_toArray, List.set_cons_zero, List.set_cons_succ]
                          refine wpAnyH_take (i := 8) (oi := _) (v := ?_) rfl (by kernel_rfl) (by kernel_rfl) (by kernel_rfl) (fun _ _ _ h => h) (Or.inl ⟨by rfl, ?_⟩) (by assumption) ?_
                          rotate_left
                          · (intro w hSw; go_simp; first | done | (with_reducible rfl))
                          simp only [Act.put, List.getElem_toArray, List.getElem_cons_succ, List.getElem_cons_zero, List.setIfInBounds_toArray, List.set_cons_zero, List.set_cons_succ]
                          refine wpAnyH_take (i := 9) (oi := _) (v := ?_) rfl (by kernel_rfl) (by kernel_rfl) (by kernel_rfl) (fun _ _ _ h => h) (Or.inl ⟨by rfl, ?_⟩) (by assumption) ?_
                          rotate_left
                          · (intro w hSw; go_simp; first | done | (with_reducible rfl))
                          simp only [Act.put, List.getElem_toArray, List.getElem_cons_succ, List.getElem_cons_zero, List.setIfInBounds_toArray, List.set_cons_zero, List.set_cons_succ]
                          refine wpAnyH_take (i := 10) (oi := _) (v := ?_) rfl (by kernel_rfl) (by kernel_rfl) (by kernel_rfl) (fun _ _ _ h => h) (Or.inl ⟨by rfl, ?_⟩) (by assumption) ?_
                          rotate_left
                          · (intro w hSw; obtain ⟨z0, z1, z2, z3, z4, z5⟩ := sts_cells (hSw.rowGet k3m) HWL.out hs; go_simp; first | done | (with_reducible rfl))
                          simp only [Act.put, List.getElem_toArray, List.getElem_cons_succ, List.getElem_cons_zero, List.setIfInBounds_toArray, List.set_cons_zero, List.set_cons_succ]
                          refine wpAnyH_take (i := 11) (oi := _) (v := ?_) rfl (by kernel_rfl) (by kernel_rfl) (by kernel_rfl) (fun _ _ _ h => h) (Or.inl ⟨by rfl, ?_⟩) (by assumption) ?_
                          rotate_left
                          · (intro w hSw; go_simp; first | done | (with_reducible rfl))
                          simp only [Act.put, List.getElem_toArray, List.getElem_cons_succ, List.getElem_cons_zero, List.setIfInBounds_toArray, List.set_cons_zero, List.set_cons_succ]
                          refine wpAnyH_take (i := 12) (oi := _) (v := ?_) rfl (by kernel_rfl) (by kernel_rfl) (by kernel_rfl) (fun _ _ _ h => h) (Or.inl ⟨by rfl, ?_⟩) (by assumption) ?_
                          rotate_left
                          · (intro w hSw; go_simp; first | done | (with_reducible rfl))
                          simp only [Act.put, List.getElem_toArray, List.getElem_cons_succ, List.getElem_cons_zero, List.setIfInBounds_toArray, List.set_cons_zero, List.set_cons_succ]
                          refine wpAnyH_take (i := 13) (oi := _) (v := ?_) rfl (by kernel_rfl) (by kernel_rfl) (by kernel_rfl) (fun _ _ _ h => h) (Or.inl ⟨by rfl, ?_⟩) (by assumption) ?_
                          rotate_left
                          · (intro w hSw; go_simp; first | done | (with_reducible rfl))
                          simp only [Act.put, List.getElem_toArray, List.getElem_cons_succ, List.getElem_cons_zero, List.setIfInBounds_toArray, List.set_cons_zero, List.set_cons_succ]
                          refine wpAnyH_take (i := 14) (oi := _) (v := ?_) rfl (by kernel_rfl) (by kernel_rfl) (by kernel_rfl) (fun _ _ _ h => h) (Or.inl ⟨by rfl, ?_⟩) (by assumption) ?_
                          rotate_left
                          · (intro w hSw; go_simp; first | done | (with_reducible rfl))
                          simp only [Act.put, List.getElem_toArray, List.getElem_cons_succ, List.getElem_cons_zero, List.setIfInBounds_toArray, List.set_cons_zero, List.set_cons_succ]
                          refine wpAnyH_take (i := 15) (oi := _) (v := ?_) rfl (by kernel_rfl) (by kernel_rfl) (by kernel_rfl) (fun _ _ _ h => h) (Or.inl ⟨by rfl, ?_⟩) (by assumption) ?_
                          rotate_left
                          · (intro w hSw; obtain ⟨z0, z1, z2, z3, z4, z5⟩ := sts_cells (hSw.rowGet k3m) HWL.out hs; go_simp; first | done | (with_reducible rfl))
                          simp only [Act.put, List.getElem_toArray, List.getElem_cons_succ, List.getElem_cons_zero, List.setIfInBounds_toArray, List.set_cons_zero, List.set_cons_succ]
                          refine wpAnyH_ready (rs := [16]) (by kernel_rfl) (by simp) ?_
                          refine AllReadyH.cons (o := _) rfl (fun K hK => ?_) AllReadyH.nil
                          go_simp
                          refine (HLC.out _ hHeld).mono ?_
                          rintro e wA ⟨rfl, SA⟩
                          refine hK.out _ _ SA (fun hHeld => ?_)
                          clear hK K
                          refine wpAnyH_take (i := 17) (oi := _) (v := ?_) rfl (by kernel_rfl) (by kernel_rfl) (by kernel_rfl) (fun _ _ _ h => h) (Or.inl ⟨by rfl, ?_⟩) (by assumption) ?_
                          rotate_left
                          · (intro w hSw; go_simp; first | done | (with_reducible rfl))
                          simp only [Act.put, List.getElem_toArray, List.getElem_cons_succ, List.getElem_cons_zero, List.setIfInBounds_toArray, List.set_cons_zero, List.set_cons_succ]
                          refine wpAnyH_take (i := 18) (oi := _) (v := ?_) rfl (by kernel_rfl) (by kernel_rfl) (by kernel_rfl) (fun _ _ _ h => h) (Or.inl ⟨by rfl, ?_⟩) (by assumption) ?_
                          rotate_left
                          · (intro w hSw; go_simp; first | done | (with_reducible rfl))
                          simp only [Act.put, List.getElem_toArray, List.getElem_cons_succ, List.getElem_cons_zero, List.setIfInBounds_toArray, List.set_cons_zero, List.set_cons_succ]
                          refine wpAnyH_done (by kernel_rfl) ?_ _

                          have HSX := Keep.mk hHeld
                          clear hHeld HLC
                          go_wp2_with fail
                          go_roundw
                          case rel => exact ⟨j + 1, HJ.out, rfl, by rw [HD.out], HSX⟩
                          case measure => simp [intOf]; have := HJ.out; omega
                    · have hj1 : ¬ (j : Int) < (k : Nat) := by omega
                      rw [decide_eq_true (show j0 < j by have := HJ0.out; omega)]
                      have HWC : Keep (∀ W, Sep w W [rowV 36 5 (sl g2 k c2) k (its G), gateA gb [], boxA ob (stv x) 29, rowV 29 6 (sl g4 k c4) k (fl stv Wt)] → Calls Try.prog 13 #[pt gb, iv y.pl] W fun e W' => e = .returned (.bool false) ∧ Sep w W' [rowV 36 5 (sl g2 k c2) k (its G), gateA gb [], boxA ob (stv x) 29, rowV 29 6 (sl g4 k c4) k (fl stv Wt)]) := ⟨fun W z => (waits_c w W _ gb [] y.pl HYP.out (fr1 [_] z)).mono fun e W' u => ⟨u.1, z.grown u.2⟩⟩
                      clear hlt hj
                      by_cases hq0 : q = 0
                      · have hk0 : decide ((0 : Int) < (q : Int)) = false := decide_eq_false (by omega)
                        have hk1 : decide (0 < q) = false := decide_eq_false (by omega)
                        clear hq0
                        go_wp2_with fail
                        refine wp_region_held_drew (S := fun w' => Sep w w' [rowV 36 5 (sl g2 k c2) k (its G), gateA gb [], boxA ob (stv x) 29, rowV 29 6 (sl g4 k c4) k (fl stv Wt)]) (by kernel_rfl) (hS.out.grown (gr_drew _ _)) (fun hHeld => ?_)
                        clear hS
                        refine wpAnyH_take (i := 0) (oi := _) (v := ?_) rfl (by kernel_rfl) (by kernel_rfl) (by kernel_rfl) (fun _ _ _ h => h) (Or.inl ⟨by rfl, ?_⟩) (by assumption) ?_
                        rotate_left
                        · (intro w hSw; go_simp; first | done | (with_reducible rfl))
                        simp only [Act.put, List.getElem_toArray, List.getElem_cons_zero, List.setIfInBounds_toArray, List.set_cons_zero, List.set_cons_succ]
                        refine wpAnyH_take (i := 1) (oi := _) (v := ?_) rfl (by kernel_rfl) (by kernel_rfl) (by kernel_rfl) (fun _ _ _ h => h) (Or.inl ⟨by rfl, ?_⟩) (by assumption) ?_
                        rotate_left
                        · (intro w hSw; go_simp; first | done | (with_reducible rfl))
                        simp only [Act.put, List.getElem_toArray, List.getElem_cons_succ, List.getElem_cons_zero, List.setIfInBounds_toArray, List.set_cons_zero, List.set_cons_succ]
                        refine wpAnyH_take (i := 2) (oi := _) (v := ?_) rfl (by kernel_rfl) (by kernel_rfl) (by kernel_rfl) (fun _ _ _ h => h) (Or.inl ⟨by rfl, ?_⟩) (by assumption) ?_
                        rotate_left
                        · (intro w hSw; go_simp; first | done | (with_reducible rfl))
                        simp only [Act.put, List.getElem_toArray, List.getElem_cons_succ, List.getElem_cons_zero, List.setIfInBounds_toArray, List.set_cons_zero, List.set_cons_succ]
                        refine wpAnyH_take (i := 3) (oi := _) (v := ?_) rfl (by kernel_rfl) (by kernel_rfl) (by kernel_rfl) (fun _ _ _ h => h) (Or.inl ⟨by rfl, ?_⟩) (by assumption) ?_
                        rotate_left
                        · (intro w hSw; go_simp; first | done | (with_reducible rfl))
                        simp only [Act.put, List.getElem_toArray, List.getElem_cons_succ, List.getElem_cons_zero, List.setIfInBounds_toArray, List.set_cons_zero, List.set_cons_succ]
                        refine wpAnyH_take (i := 4) (oi := _) (v := .bool false) rfl (by kernel_rfl) (by kernel_rfl) (by kernel_rfl) (fun _ _ _ h => h) (Or.inl ⟨by rfl, ?_⟩) (by assumption) ?_
                        · (intro w hSw; go_simp; first | done | (simp; done) | trace_state)
                        simp only [Act.put, List.getElem_toArray, List.getElem_cons_succ, List.getElem_cons_zero, List.setIfInBounds_toArray, List.set_cons_zero, List.set_cons_succ]
                        refine wpAnyH_take (i := 5) (oi := _) (v := ?_) rfl (by kernel_rfl) (by kernel_rfl) (by kernel_rfl) (fun _ _ _ h => h) (Or.inl ⟨by rfl, ?_⟩) (by assumption) ?_
                        rotate_left
                        · (intro w hSw; go_simp; first | done | (with_reducible rfl))
                        simp only [Act.put, List.getElem_toArray, List.getElem_cons_succ, List.getElem_cons_zero, List.setIfInBounds_toArray, List.set_cons_zero, List.set_cons_succ]
                        refine wpAnyH_take (i := 6) (oi := _) (v := undef) rfl (by kernel_rfl) (by kernel_rfl) (by kernel_rfl) (fun _ _ _ h => h) (Or.inr ⟨by rfl, rfl⟩) (by assumption) ?_
                        simp only [Act.put, List.getElem_toArray, List.getElem_cons_succ, List.getElem_cons_zero, List.setIfInBounds_toArray, List.set_cons_zero, List.set_cons_succ]
                        refine wpAnyH_take (i := 7) (oi := _) (v := undef) rfl (by kernel_rfl) (by kernel_rfl) (by kernel_rfl) (fun _ _ _ h => h) (Or.inr ⟨by rfl, rfl⟩) (by assumption) ?_
                        simp only [Act.put, List.getElem_toArray, List.getElem_cons_succ, List.getElem_cons_zero, List.setIfInBounds_toArray, List.set_cons_zero, List.set_cons_succ]
                        refine wpAnyH_take (i := 8) (oi := _) (v := undef) rfl (by kernel_rfl) (by kernel_rfl) (by kernel_rfl) (fun _ _ _ h => h) (Or.inr ⟨by rfl, rfl⟩) (by assumption) ?_
                        simp only [Act.put, List.getElem_toArray, List.getElem_cons_succ, List.getElem_cons_zero, List.setIfInBounds_toArray, List.set_cons_zero, List.set_cons_succ]
                        refine wpAnyH_take (i := 9) (oi := _) (v := undef) rfl (by kernel_rfl) (by kernel_rfl) (by kernel_rfl) (fun _ _ _ h => h) (Or.inr ⟨by rfl, rfl⟩) (by assumption) ?_
                        simp only [Act.put, List.getElem_toArray, List.getElem_cons_succ, List.getElem_cons_zero, List.setIfInBounds_toArray, List.set_cons_zero, List.set_cons_succ]
                        refine wpAnyH_take (i := 10) (oi := _) (v := undef) rfl (by kernel_rfl) (by kernel_rfl) (by kernel_rfl) (fun _ _ _ h => h) (Or.inr ⟨by rfl, rfl⟩) (by assumption) ?_
                        simp only [Act.put, List.getElem_toArray, List.getElem_cons_succ, List.getElem_cons_zero, List.setIfInBounds_toArray, List.set_cons_zero, List.set_cons_succ]
                        refine wpAnyH_take (i := 11) (oi := _) (v := undef) rfl (by kernel_rfl) (by kernel_rfl) (by kernel_rfl) (fun _ _ _ h => h) (Or.inr ⟨by rfl, rfl⟩) (by assumption) ?_
                        simp only [Act.put, List.getElem_toArray, List.getElem_cons_succ, List.getElem_cons_zero, List.setIfInBounds_toArray, List.set_cons_zero, List.set_cons_succ]
                        refine wpAnyH_take (i := 12) (oi := _) (v := undef) rfl (by kernel_rfl) (by kernel_rfl) (by kernel_rfl) (fun _ _ _ h => h) (Or.inr ⟨by rfl, rfl⟩) (by assumption) ?_
                        simp only [Act.put, List.getElem_toArray, List.getElem_cons_succ, List.getElem_cons_zero, List.setIfInBounds_toArray, List.set_cons_zero, List.set_cons_succ]
                        refine wpAnyH_take (i := 13) (oi := _) (v := undef) rfl (by kernel_rfl) (by kernel_rfl) (by kernel_rfl) (fun _ _ _ h => h) (Or.inr ⟨by rfl, rfl⟩) (by assumption) ?_
                        simp only [Act.put, List.getElem_toArray, List.getElem_cons_succ, List.getElem_cons_zero, List.setIfInBounds_toArray, List.set_cons_zero, List.set_cons_succ]
                        refine wpAnyH_take (i := 14) (oi := _) (v := undef) rfl (by kernel_rfl) (by kernel_rfl) (by kernel_rfl) (fun _ _ _ h => h) (Or.inr ⟨by rfl, rfl⟩) (by assumption) ?_
                        simp only [Act.put, List.getElem_toArray, List.getElem_cons_succ, List.getElem_cons_zero, List.setIfInBounds_toArray, List.set_cons_zero, List.set_cons_succ]
                        refine wpAnyH_take (i := 15) (oi := _) (v := undef) rfl (by kernel_rfl) (by kernel_rfl) (by kernel_rfl) (fun _ _ _ h => h) (Or.inr ⟨by rfl, rfl⟩) (by assumption) ?_
                        simp only [Act.put, List.getElem_toArray, List.getElem_cons_succ, List.getElem_cons_zero, List.setIfInBounds_toArray, List.set_cons_zero, List.set_cons_succ]
                        refine wpAnyH_take (i := 16) (oi := _) (v := undef) rfl (by kernel_rfl) (by kernel_rfl) (by kernel_rfl) (fun _ _ _ h => h) (Or.inr ⟨by rfl, rfl⟩) (by assumption) ?_
                        simp only [Act.put, List.getElem_toArray, List.getElem_cons_succ, List.getElem_cons_zero, List.setIfInBounds_toArray, List.set_cons_zero, List.set_cons_succ]
                        refine wpAnyH_take (i := 17) (oi := _) (v := undef) rfl (by kernel_rfl) (by kernel_rfl) (by kernel_rfl) (fun _ _ _ h => h) (Or.inr ⟨by rfl, rfl⟩) (by assumption) ?_
                        simp only [Act.put, List.getElem_toArray, List.getElem_cons_succ, List.getElem_cons_zero, List.setIfInBounds_toArray, List.set_cons_zero, List.set_cons_succ]
                        refine wpAnyH_take (i := 18) (oi := _) (v := ?_) rfl (by kernel_rfl) (by kernel_rfl) (by kernel_rfl) (fun _ _ _ h => h) (Or.inl ⟨by rfl, ?_⟩) (by assumption) ?_
                        rotate_left
                        · (intro w hSw; go_simp; first | done | (with_reducible rfl))
                        simp only [Act.put, List.getElem_toArray, List.getElem_cons_succ, List.getElem_cons_zero, List.setIfInBounds_toArray, List.set_cons_zero, List.set_cons_succ]
                        refine wpAnyH_take (i := 19) (oi := _) (v := ?_) rfl (by kernel_rfl) (by kernel_rfl) (by kernel_rfl) (fun _ _ _ h => h) (Or.inl ⟨by rfl, ?_⟩) (by assumption) ?_
                        rotate_left
                        · (intro w hSw; go_simp; first | done | (with_reducible rfl))
                        simp only [Act.put, List.getElem_toArray, List.getElem_cons_succ, List.getElem_cons_zero, List.setIfInBounds_toArray, List.set_cons_zero, List.set_cons_succ]
                        refine wpAnyH_take (i := 20) (oi := _) (v := ?_) rfl (by kernel_rfl) (by kernel_rfl) (by kernel_rfl) (fun _ _ _ h => h) (Or.inl ⟨by rfl, ?_⟩) (by assumption) ?_
                        rotate_left
                        · (intro w hSw; go_simp; first | done | (with_reducible rfl))
                        simp only [Act.put, List.getElem_toArray, List.getElem_cons_succ, List.getElem_cons_zero, List.setIfInBounds_toArray, List.set_cons_zero, List.set_cons_succ]
                        refine wpAnyH_take (i := 21) (oi := _) (v := ?_) rfl (by kernel_rfl) (by kernel_rfl) (by kernel_rfl) (fun _ _ _ h => h) (Or.inl ⟨by rfl, ?_⟩) (by assumption) ?_
                        rotate_left
                        · (intro w hSw; go_simp; first | done | (with_reducible rfl))
                        simp only [Act.put, List.getElem_toArray, List.getElem_cons_succ, List.getElem_cons_zero, List.setIfInBounds_toArray, List.set_cons_zero, List.set_cons_succ]
                        refine wpAnyH_take (i := 22) (oi := _) (v := ?_) rfl (by kernel_rfl) (by kernel_rfl) (by kernel_rfl) (fun _ _ _ h => h) (Or.inl ⟨by rfl, ?_⟩) (by assumption) ?_
                        rotate_left
                        · (intro w hSw; go_simp; first | done | (with_reducible rfl))
                        simp only [Act.put, List.getElem_toArray, List.getElem_cons_succ, List.getElem_cons_zero, List.setIfInBounds_toArray, List.set_cons_zero, List.set_cons_succ]
                        refine wpAnyH_take (i := 23) (oi := _) (v := ?_) rfl (by kernel_rfl) (by kernel_rfl) (by kernel_rfl) (fun _ _ _ h => h) (Or.inl ⟨by rfl, ?_⟩) (by assumption) ?_
                        rotate_left
                        · (intro w hSw; go_simp; first | done | (with_reducible rfl))
                        simp only [Act.put, List.getElem_toArray, List.getElem_cons_succ, List.getElem_cons_zero, List.setIfInBounds_toArray, List.set_cons_zero, List.set_cons_succ]
                        refine wpAnyH_take (i := 24) (oi := _) (v := ?_) rfl (by kernel_rfl) (by kernel_rfl) (by kernel_rfl) (fun _ _ _ h => h) (Or.inl ⟨by rfl, ?_⟩) (by assumption) ?_
                        rotate_left
                        · (intro w hSw; go_simp; first | done | (with_reducible rfl))
                        simp only [Act.put, List.getElem_toArray, List.getElem_cons_succ, List.getElem_cons_zero, List.setIfInBounds_toArray, List.set_cons_zero, List.set_cons_succ]
                        refine wpAnyH_take (i := 25) (oi := _) (v := ?_) rfl (by kernel_rfl) (by kernel_rfl) (by kernel_rfl) (fun _ _ _ h => h) (Or.inl ⟨by rfl, ?_⟩) (by assumption) ?_
                        rotate_left
                        · (intro w hSw; go_simp; first | done | (with_reducible rfl))
                        simp only [Act.put, List.getElem_toArray, List.getElem_cons_succ, List.getElem_cons_zero, List.setIfInBounds_toArray, List.set_cons_zero, List.set_cons_succ]
                        refine wpAnyH_take (i := 26) (oi := _) (v := ?_) rfl (by kernel_rfl) (by kernel_rfl) (by kernel_rfl) (fun _ _ _ h => h) (Or.inl ⟨by rfl, ?_⟩) (by assumption) ?_
                        rotate_left
                        · (intro w hSw; obtain ⟨y0, y1, y2, y3, y4⟩ := (hSw.rdi (M := G) k0m HGL.out.symm).cells HGL.out hy; go_simp; first | done | (with_reducible rfl))
                        simp only [Act.put, List.getElem_toArray, List.getElem_cons_succ, List.getElem_cons_zero, List.setIfInBounds_toArray, List.set_cons_zero, List.set_cons_succ]
                        refine wpAnyH_ready (rs := [27]) (by kernel_rfl) (by simp) ?_
                        refine AllReadyH.cons (o := _) rfl (fun K hK => ?_) AllReadyH.nil
                        go_simp
                        refine (HWC.out _ hHeld).mono ?_
                        rintro e wA ⟨rfl, SA⟩
                        refine hK.out _ _ SA (fun hHeld => ?_)
                        clear hK K
                        refine wpAnyH_take (i := 28) (oi := _) (v := ?_) rfl (by kernel_rfl) (by kernel_rfl) (by kernel_rfl) (fun _ _ _ h => h) (Or.inl ⟨by rfl, ?_⟩) (by assumption) ?_
                        rotate_left
                        · (intro w hSw; go_simp; first | done | (with_reducible rfl))
                        simp only [Act.put, List.getElem_toArray, List.getElem_cons_succ, List.getElem_cons_zero, List.setIfInBounds_toArray, List.set_cons_zero, List.set_cons_succ]
                        refine wpAnyH_done (by kernel_rfl) ?_ _

                        have HSX := Keep.mk hHeld
                        clear hHeld HWC
                        go_wp2_with fail
                        go_roundw
                        case rel => exact ⟨q + 1, HQ1.out, rfl, HSX⟩
                        case measure => simp [intOf]; have := HQ1.out; omega
                      · have hk0 : decide ((0 : Int) < (q : Int)) = true := decide_eq_true (by omega)
                        have hk1 : decide (0 < q) = true := decide_eq_true (by omega)
                        obtain ⟨r, hr⟩ : ∃ r, r + 1 = q := ⟨q - 1, by omega⟩
                        obtain ⟨y', hy9⟩ : ∃ y', G[r]? = some y' := ⟨_, List.getElem?_eq_getElem (by have := HQ1.out; have := HGL.out; omega)⟩
                        have hwr : IntKind.i64.wrap ((q : Int) - 1) = (r : Int) := by have := HMB.out; have := HQ1.out; rw [wi _ (by omega) (by omega)]; omega
                        have hr0 : (0 : Int) ≤ (r : Int) := by omega
                        have hr1 : (r : Int) < (k : Nat) := by have := HQ1.out; omega
                        have htr : ((r : Nat) : Int).toNat = r := by omega
                        have hyl : decide (y.pl ≤ y'.pl) = false := decide_eq_false (by have := HSRT.out r y' hy9 (by omega); omega)
                        clear hq0 hr
                        go_wp2_with fail
                        refine wp_region_held_drew (S := fun w' => Sep w w' [rowV 36 5 (sl g2 k c2) k (its G), gateA gb [], boxA ob (stv x) 29, rowV 29 6 (sl g4 k c4) k (fl stv Wt)]) (by kernel_rfl) (hS.out.grown (gr_drew _ _)) (fun hHeld => ?_)
                        clear hS
                        refine wpAnyH_take (i := 0) (oi := _) (v := ?_) rfl (by kernel_rfl) (by kernel_rfl) (by kernel_rfl) (fun _ _ _ h => h) (Or.inl ⟨by rfl, ?_⟩) (by assumption) ?_
                        rotate_left
                        · (intro w hSw; go_simp; first | done | (with_reducible rfl))
                        simp only [Act.put, List.getElem_toArray, List.getElem_cons_zero, List.setIfInBounds_toArray, List.set_cons_zero, List.set_cons_succ]
                        refine wpAnyH_take (i := 1) (oi := _) (v := ?_) rfl (by kernel_rfl) (by kernel_rfl) (by kernel_rfl) (fun _ _ _ h => h) (Or.inl ⟨by rfl, ?_⟩) (by assumption) ?_
                        rotate_left
                        · (intro w hSw; go_simp; first | done | (with_reducible rfl))
                        simp only [Act.put, List.getElem_toArray, List.getElem_cons_succ, List.getElem_cons_zero, List.setIfInBounds_toArray, List.set_cons_zero, List.set_cons_succ]
                        refine wpAnyH_take (i := 2) (oi := _) (v := ?_) rfl (by kernel_rfl) (by kernel_rfl) (by kernel_rfl) (fun _ _ _ h => h) (Or.inl ⟨by rfl, ?_⟩) (by assumption) ?_
                        rotate_left
                        · (intro w hSw; go_simp; first | done | (with_reducible rfl))
                        simp only [Act.put, List.getElem_toArray, List.getElem_cons_succ, List.getElem_cons_zero, List.setIfInBounds_toArray, List.set_cons_zero, List.set_cons_succ]
                        refine wpAnyH_take (i := 3) (oi := _) (v := ?_) rfl (by kernel_rfl) (by kernel_rfl) (by kernel_rfl) (fun _ _ _ h => h) (Or.inl ⟨by rfl, ?_⟩) (by assumption) ?_
                        rotate_left
                        · (intro w hSw; go_simp; first | done | (with_reducible rfl))
                        simp only [Act.put, List.getElem_toArray, List.getElem_cons_succ, List.getElem_cons_zero, List.setIfInBounds_toArray, List.set_cons_zero, List.set_cons_succ]
                        refine wpAnyH_take (i := 4) (oi := _) (v := .bool true) rfl (by kernel_rfl) (by kernel_rfl) (by kernel_rfl) (fun _ _ _ h => h) (Or.inl ⟨by rfl, ?_⟩) (by assumption) ?_
                        · (intro w hSw; go_simp; first | done | (simp; done) | trace_state)
                        simp only [Act.put, List.getElem_toArray, List.getElem_cons_succ, List.getElem_cons_zero, List.setIfInBounds_toArray, List.set_cons_zero, List.set_cons_succ]
                        refine wpAnyH_take (i := 5) (oi := _) (v := ?_) rfl (by kernel_rfl) (by kernel_rfl) (by kernel_rfl) (fun _ _ _ h => h) (Or.inl ⟨by rfl, ?_⟩) (by assumption) ?_
                        rotate_left
                        · (intro w hSw; go_simp; first | done | (with_reducible rfl))
                        simp only [Act.put, List.getElem_toArray, List.getElem_cons_succ, List.getElem_cons_zero, List.setIfInBounds_toArray, List.set_cons_zero, List.set_cons_succ]
                        refine wpAnyH_take (i := 6) (oi := _) (v := ?_) rfl (by kernel_rfl) (by kernel_rfl) (by kernel_rfl) (fun _ _ _ h => h) (Or.inl ⟨by rfl, ?_⟩) (by assumption) ?_
                        rotate_left
                        · (intro w hSw; go_simp; first | done | (with_reducible rfl))
                        simp only [Act.put, List.getElem_toArray, List.getElem_cons_succ, List.getElem_cons_zero, List.setIfInBounds_toArray, List.set_cons_zero, List.set_cons_succ]
                        refine wpAnyH_take (i := 7) (oi := _) (v := ?_) rfl (by kernel_rfl) (by kernel_rfl) (by kernel_rfl) (fun _ _ _ h => h) (Or.inl ⟨by rfl, ?_⟩) (by assumption) ?_
                        rotate_left
                        · (intro w hSw; go_simp; first | done | (with_reducible rfl))
                        simp only [Act.put, List.getElem_toArray, List.getElem_cons_succ, List.getElem_cons_zero, List.setIfInBounds_toArray, List.set_cons_zero, List.set_cons_succ]
                        refine wpAnyH_take (i := 8) (oi := _) (v := ?_) rfl (by kernel_rfl) (by kernel_rfl) (by kernel_rfl) (fun _ _ _ h => h) (Or.inl ⟨by rfl, ?_⟩) (by assumption) ?_
                        rotate_left
                        · (intro w hSw; go_simp; first | done | (with_reducible rfl))
                        simp only [Act.put, List.getElem_toArray, List.getElem_cons_succ, List.getElem_cons_zero, List.setIfInBounds_toArray, List.set_cons_zero, List.set_cons_succ]
                        refine wpAnyH_take (i := 9) (oi := _) (v := ?_) rfl (by kernel_rfl) (by kernel_rfl) (by kernel_rfl) (fun _ _ _ h => h) (Or.inl ⟨by rfl, ?_⟩) (by assumption) ?_
                        rotate_left
                        · (intro w hSw; go_simp; first | done | (with_reducible rfl))
                        simp only [Act.put, List.getElem_toArray, List.getElem_cons_succ, List.getElem_cons_zero, List.setIfInBounds_toArray, List.set_cons_zero, List.set_cons_succ]
                        refine wpAnyH_take (i := 10) (oi := _) (v := ?_) rfl (by kernel_rfl) (by kernel_rfl) (by kernel_rfl) (fun _ _ _ h => h) (Or.inl ⟨by rfl, ?_⟩) (by assumption) ?_
                        rotate_left
                        · (intro w hSw; go_simp; first | done | (with_reducible rfl))
                        simp only [Act.put, List.getElem_toArray, List.getElem_cons_succ, List.getElem_cons_zero, List.setIfInBounds_toArray, List.set_cons_zero, List.set_cons_succ]
                        refine wpAnyH_take (i := 11) (oi := _) (v := ?_) rfl (by kernel_rfl) (by kernel_rfl) (by kernel_rfl) (fun _ _ _ h => h) (Or.inl ⟨by rfl, ?_⟩) (by assumption) ?_
                        rotate_left
                        · (intro w hSw; obtain ⟨y0, y1, y2, y3, y4⟩ := (hSw.rdi (M := G) k0m HGL.out.symm).cells HGL.out hy9; go_simp; first | done | (with_reducible rfl))
                        simp only [Act.put, List.getElem_toArray, List.getElem_cons_succ, List.getElem_cons_zero, List.setIfInBounds_toArray, List.set_cons_zero, List.set_cons_succ]
                        refine wpAnyH_take (i := 12) (oi := _) (v := ?_) rfl (by kernel_rfl) (by kernel_rfl) (by kernel_rfl) (fun _ _ _ h => h) (Or.inl ⟨by rfl, ?_⟩) (by assumption) ?_
                        rotate_left
                        · (intro w hSw; go_simp; first | done | (with_reducible rfl))
                        simp only [Act.put, List.getElem_toArray, List.getElem_cons_succ, List.getElem_cons_zero, List.setIfInBounds_toArray, List.set_cons_zero, List.set_cons_succ]
                        refine wpAnyH_take (i := 13) (oi := _) (v := ?_) rfl (by kernel_rfl) (by kernel_rfl) (by kernel_rfl) (fun _ _ _ h => h) (Or.inl ⟨by rfl, ?_⟩) (by assumption) ?_
                        rotate_left
                        · (intro w hSw; go_simp; first | done | (with_reducible rfl))
                        simp only [Act.put, List.getElem_toArray, List.getElem_cons_succ, List.getElem_cons_zero, List.setIfInBounds_toArray, List.set_cons_zero, List.set_cons_succ]
                        refine wpAnyH_take (i := 14) (oi := _) (v := ?_) rfl (by kernel_rfl) (by kernel_rfl) (by kernel_rfl) (fun _ _ _ h => h) (Or.inl ⟨by rfl, ?_⟩) (by assumption) ?_
                        rotate_left
                        · (intro w hSw; go_simp; first | done | (with_reducible rfl))
                        simp only [Act.put, List.getElem_toArray, List.getElem_cons_succ, List.getElem_cons_zero, List.setIfInBounds_toArray, List.set_cons_zero, List.set_cons_succ]
                        refine wpAnyH_take (i := 15) (oi := _) (v := ?_) rfl (by kernel_rfl) (by kernel_rfl) (by kernel_rfl) (fun _ _ _ h => h) (Or.inl ⟨by rfl, ?_⟩) (by assumption) ?_
                        rotate_left
                        · (intro w hSw; go_simp; first | done | (with_reducible rfl))
                        simp only [Act.put, List.getElem_toArray, List.getElem_cons_succ, List.getElem_cons_zero, List.setIfInBounds_toArray, List.set_cons_zero, List.set_cons_succ]
                        refine wpAnyH_take (i := 16) (oi := _) (v := ?_) rfl (by kernel_rfl) (by kernel_rfl) (by kernel_rfl) (fun _ _ _ h => h) (Or.inl ⟨by rfl, ?_⟩) (by assumption) ?_
                        rotate_left
                        · (intro w hSw; obtain ⟨y0, y1, y2, y3, y4⟩ := (hSw.rdi (M := G) k0m HGL.out.symm).cells HGL.out hy; go_simp; first | done | (with_reducible rfl))
                        simp only [Act.put, List.getElem_toArray, List.getElem_cons_succ, List.getElem_cons_zero, List.setIfInBounds_toArray, List.set_cons_zero, List.set_cons_succ]
                        refine wpAnyH_take (i := 17) (oi := _) (v := .bool false) rfl (by kernel_rfl) (by kernel_rfl) (by kernel_rfl) (fun _ _ _ h => h) (Or.inl ⟨by rfl, ?_⟩) (by assumption) ?_
                        · (intro w hSw; go_simp; first | done | (simp; done) | trace_state)
                        simp only [Act.put, List.getElem_toArray, List.getElem_cons_succ, List.getElem_cons_zero, List.setIfInBounds_toArray, List.set_cons_zero, List.set_cons_succ]
                        refine wpAnyH_take (i := 18) (oi := _) (v := ?_) rfl (by kernel_rfl) (by kernel_rfl) (by kernel_rfl) (fun _ _ _ h => h) (Or.inl ⟨by rfl, ?_⟩) (by assumption) ?_
                        rotate_left
                        · (intro w hSw; go_simp; first | done | (with_reducible rfl))
                        simp only [Act.put, List.getElem_toArray, List.getElem_cons_succ, List.getElem_cons_zero, List.setIfInBounds_toArray, List.set_cons_zero, List.set_cons_succ]
                        refine wpAnyH_take (i := 19) (oi := _) (v := ?_) rfl (by kernel_rfl) (by kernel_rfl) (by kernel_rfl) (fun _ _ _ h => h) (Or.inl ⟨by rfl, ?_⟩) (by assumption) ?_
                        rotate_left
                        · (intro w hSw; go_simp; first | done | (with_reducible rfl))
                        simp only [Act.put, List.getElem_toArray, List.getElem_cons_succ, List.getElem_cons_zero, List.setIfInBounds_toArray, List.set_cons_zero, List.set_cons_succ]
                        refine wpAnyH_take (i := 20) (oi := _) (v := ?_) rfl (by kernel_rfl) (by kernel_rfl) (by kernel_rfl) (fun _ _ _ h => h) (Or.inl ⟨by rfl, ?_⟩) (by assumption) ?_
                        rotate_left
                        · (intro w hSw; go_simp; first | done | (with_reducible rfl))
                        simp only [Act.put, List.getElem_toArray, List.getElem_cons_succ, List.getElem_cons_zero, List.setIfInBounds_toArray, List.set_cons_zero, List.set_cons_succ]
                        refine wpAnyH_take (i := 21) (oi := _) (v := ?_) rfl (by kernel_rfl) (by kernel_rfl) (by kernel_rfl) (fun _ _ _ h => h) (Or.inl ⟨by rfl, ?_⟩) (by assumption) ?_
                        rotate_left
                        · (intro w hSw; go_simp; first | done | (with_reducible rfl))
                        simp only [Act.put, List.getElem_toArray, List.getElem_cons_succ, List.getElem_cons_zero, List.setIfInBounds_toArray, List.set_cons_zero, List.set_cons_succ]
                        refine wpAnyH_take (i := 22) (oi := _) (v := ?_) rfl (by kernel_rfl) (by kernel_rfl) (by kernel_rfl) (fun _ _ _ h => h) (Or.inl ⟨by rfl, ?_⟩) (by assumption) ?_
                        rotate_left
                        · (intro w hSw; go_simp; first | done | (with_reducible rfl))
                        simp only [Act.put, List.getElem_toArray, List.getElem_cons_succ, List.getElem_cons_zero, List.setIfInBounds_toArray, List.set_cons_zero, List.set_cons_succ]
                        refine wpAnyH_take (i := 23) (oi := _) (v := ?_) rfl (by kernel_rfl) (by kernel_rfl) (by kernel_rfl) (fun _ _ _ h => h) (Or.inl ⟨by rfl, ?_⟩) (by assumption) ?_
                        rotate_left
                        · (intro w hSw; go_simp; first | done | (with_reducible rfl))
                        simp only [Act.put, List.getElem_toArray, List.getElem_cons_succ, List.getElem_cons_zero, List.setIfInBounds_toArray, List.set_cons_zero, List.set_cons_succ]
                        refine wpAnyH_take (i := 24) (oi := _) (v := ?_) rfl (by kernel_rfl) (by kernel_rfl) (by kernel_rfl) (fun _ _ _ h => h) (Or.inl ⟨by rfl, ?_⟩) (by assumption) ?_
                        rotate_left
                        · (intro w hSw; go_simp; first | done | (with_reducible rfl))
                        simp only [Act.put, List.getElem_toArray, List.getElem_cons_succ, List.getElem_cons_zero, List.setIfInBounds_toArray, List.set_cons_zero, List.set_cons_succ]
                        refine wpAnyH_take (i := 25) (oi := _) (v := ?_) rfl (by kernel_rfl) (by kernel_rfl) (by kernel_rfl) (fun _ _ _ h => h) (Or.inl ⟨by rfl, ?_⟩) (by assumption) ?_
                        rotate_left
                        · (intro w hSw; go_simp; first | done | (with_reducible rfl))
                        simp only [Act.put, List.getElem_toArray, List.getElem_cons_succ, List.getElem_cons_zero, List.setIfInBounds_toArray, List.set_cons_zero, List.set_cons_succ]
                        refine wpAnyH_take (i := 26) (oi := _) (v := ?_) rfl (by kernel_rfl) (by kernel_rfl) (by kernel_rfl) (fun _ _ _ h => h) (Or.inl ⟨by rfl, ?_⟩) (by assumption) ?_
                        rotate_left
                        · (intro w hSw; obtain ⟨y0, y1, y2, y3, y4⟩ := (hSw.rdi (M := G) k0m HGL.out.symm).cells HGL.out hy; go_simp; first | done | (with_reducible rfl))
                        simp only [Act.put, List.getElem_toArray, List.getElem_cons_succ, List.getElem_cons_zero, List.setIfInBounds_toArray, List.set_cons_zero, List.set_cons_succ]
                        refine wpAnyH_ready (rs := [27]) (by kernel_rfl) (by simp) ?_
                        refine AllReadyH.cons (o := _) rfl (fun K hK => ?_) AllReadyH.nil
                        go_simp
                        refine (HWC.out _ hHeld).mono ?_
                        rintro e wA ⟨rfl, SA⟩
                        refine hK.out _ _ SA (fun hHeld => ?_)
                        clear hK K
                        refine wpAnyH_take (i := 28) (oi := _) (v := ?_) rfl (by kernel_rfl) (by kernel_rfl) (by kernel_rfl) (fun _ _ _ h => h) (Or.inl ⟨by rfl, ?_⟩) (by assumption) ?_
                        rotate_left
                        · (intro w hSw; go_simp; first | done | (with_reducible rfl))
                        simp only [Act.put, List.getElem_toArray, List.getElem_cons_succ, List.getElem_cons_zero, List.setIfInBounds_toArray, List.set_cons_zero, List.set_cons_succ]
                        refine wpAnyH_done (by kernel_rfl) ?_ _

                        have HSX := Keep.mk hHeld
                        clear hHeld HWC
                        go_wp2_with fail
                        go_roundw
                        case rel => exact ⟨q + 1, HQ1.out, rfl, HSX⟩
                        case measure => simp [intOf]; have := HQ1.out; omega
                · have hi1 : ¬ (q : Int) < (k : Nat) := by omega
                  have HSX : Keep (Sep w _ [rowV 29 6 (.slice none 0 0) ([] : List Stp).length (fl stv []), gateA gb []]) := ⟨(Sep.dropM (l := []) [gateA gb []] [boxA ob (stv x) 29, rowV 29 6 (.slice a4 k c4) k (fl stv Wt)] hS.out.tail).nilV 29 6⟩
                  clear hS hlt hq
                  go_wp2_with fail
                  go_roundw
                  case rel => exact ⟨i + 1, [], [], HI.out, rfl, HSX, ⟨Wtr.nil, by simp⟩⟩
                  case measure => simp [intOf]; have := HI.out; omega
          · have n4 : (x.op == 4) = false := by simp [e4]
            by_cases e1 : x.op = 1
            · rw [e1] at d0
              clear e1 e4 n4
              as_aux_lemma =>
                rcases hAt.out with ⟨rfl, hno⟩ | ⟨j0, s0, rfl, hj0, hs0, hp0⟩
                · have hno2 : ∀ s ∈ Wt, s.pl ≠ x.pl := fun s hs => by
                    obtain ⟨j, hj, e⟩ := List.getElem_of_mem hs
                    exact hno j s (by rw [← HWL.out]; exact hj) (by rw [List.getElem?_eq_getElem hj, e])
                  have HNO := Keep.mk hno2
                  clear hno hno2 hAt hbb
                  have hC := offer_c w wt _ gb G x.pl x.c HXP.out (by have := HGL.out; have := HMB.out; omega) (fr1 [_, _] HSW.out)
                  have hoe : ofE G x.pl = 0 := by unfold ofE; rw [HWT.out.1.look_none HNO.out]; rfl
                  rw [hoe] at hC
                  have HC := Keep.mk hC
                  have HAD := Keep.mk (HWT.out.1.add x HNO.out)
                  clear hC hoe HSW
                  go_wp2_with fail
                  refine HC.out.mono ?_
                  rintro e w4 ⟨rfl, S4⟩
                  have S5 : Sep w w4 (rowV 29 6 (.slice a4 k c4) Wt.length (fl stv Wt) :: gateA gb (ofX G x.pl x.c) :: boxA ob (stv x) 29 :: []) := by
                    rw [HWL.out]
                    exact S4.third.third.third |> fun z => by exact (fr1 [_, _] (S4 : Sep w w4 (gateA gb (ofX G x.pl x.c) :: boxA ob (stv x) 29 :: rowV 29 6 (.slice a4 k c4) k (fl stv Wt) :: [])))
                  have RN := Keep.mk (S5.boxGet k2m).range
                  obtain ⟨g9, c9, w9, ap, S9⟩ := Sep.app6 x S5 (by have := HWL.out; have := HMB.out; omega)
                  have AP := Keep.mk ap
                  rw [HWL.out] at AP
                  have HS9 : Keep (Sep w w9 [rowV 29 6 (sl g9 (k + 1) c9) (Wt ++ [x]).length (fl stv (Wt ++ [x])), gateA gb (ofX G x.pl x.c)]) := ⟨by
                    have q := S9
                    rw [HWL.out] at q
                    exact Sep.dropM (l := []) [_, _] [_] q⟩
                  obtain ⟨k1, hk1⟩ : ∃ k1, k + 1 = k1 := ⟨_, rfl⟩
                  rw [hk1] at AP HS9
                  clear HC S4 S5 ap S9 d0 d1 d2 d3 d4 d5 hk1
                  go_wp2_with (first
                    | (show wpList _ _ _ ({ dst := _, op := Op.load 29 _, type := _, pos := _, after := _, guard := _ } :: _) _ _
                       refine wpList_load_mid rfl 29 _ rfl _ _ rfl _ _ RN.out hdu hdr (by exact infoS) ?_)
                    | (show wpList _ _ _ ({ dst := _, op := Op.buildSlice 22 _ _, type := _, pos := _, after := _, guard := _ } :: _) _ _
                       refine wpList_bs_run rfl (.tmp 82) 22 rfl _ rfl (bs6_run _ (stv x) rfl) ?_)
                    | (at_builtin; refine wpList_append_run _ rfl (.tmp 81) (.tmp 83) 22 rfl _ _ rfl rfl AP.out ?_))
                  go_roundw
                  case rel => exact ⟨i + 1, Wt ++ [x], _, HI.out, rfl, HS9, ⟨HAD.out, by have := HWT.out.2; simp; omega⟩⟩
                  case measure => simp [intOf]; have := HI.out; omega
                · have hsm : s0 ∈ Wt := List.mem_of_getElem? hs0
                  have na : decide ((0 : Int) ≤ (j0 : Int)) = true := decide_eq_true (by omega)
                  have nb : decide ((j0 : Int) < 0) = false := decide_eq_false (by omega)
                  have HJ0 : Keep (j0 < k ∧ Wt[j0]? = some s0 ∧ s0.pl = x.pl ∧ s0 ∈ Wt) := ⟨hj0, hs0, hp0, hsm⟩
                  clear hAt hj0 hs0 hp0 hsm hbb
                  have hC := offer_c w wt _ gb G x.pl x.c HXP.out (by have := HGL.out; have := HMB.out; omega) (fr1 [_, _] HSW.out)
                  have hoe : ofE G x.pl = 180 := by unfold ofE; rw [← HJ0.out.2.2.1, HWT.out.1.look_some HJ0.out.2.2.2]; rfl
                  have hox : ofX G x.pl x.c = G := by rw [← HJ0.out.2.2.1]; exact HWT.out.1.there HJ0.out.2.2.2 x.c
                  rw [hoe, hox] at hC
                  have HC := Keep.mk hC
                  clear hC hoe hox HSW
                  go_wp2_with fail
                  refine HC.out.mono ?_
                  rintro e w4 ⟨rfl, S4⟩
                  have HSW : Keep (Sep w w4 [boxA ob (stv x) 29, rowV 29 6 (.slice a4 k c4) k (fl stv Wt), gateA gb G]) := ⟨bk1 [_, _] S4⟩
                  clear HC S4 d0 d1 d2 d3 d4 d5
                  have HSX : Keep (Sep w _ [rowV 29 6 (.slice a4 k c4) Wt.length (fl stv Wt), gateA gb G]) := ⟨by rw [HWL.out]; exact HSW.out.tail⟩
                  clear HSW
                  go_wp2_with fail
                  go_roundw
                  case rel => exact ⟨i + 1, Wt, G, HI.out, rfl, HSX, ⟨HWT.out.1, by have := HWT.out.2; omega⟩⟩
                  case measure => simp [intOf]; have := HI.out; omega
            · have n1 : (x.op == 1) = false := by simp [e1]
              by_cases e3 : x.op = 3
              · rw [e3] at d0
                clear e1 n1 e3 e4 n4
                as_aux_lemma =>
                  rcases hAt.out with ⟨rfl, hno⟩ | ⟨j0, s0, rfl, hj0, hs0, hp0⟩
                  · have hno2 : ∀ s ∈ Wt, s.pl ≠ x.pl := fun s hs => by
                      obtain ⟨j, hj, e⟩ := List.getElem_of_mem hs
                      exact hno j s (by rw [← HWL.out]; exact hj) (by rw [List.getElem?_eq_getElem hj, e])
                    have HNO := Keep.mk hno2
                    clear hno hno2 hAt hbb
                    have hC := drop_c w wt _ gb G x.pl HXP.out (fr1 [_, _] HSW.out)
                    rw [show (look G x.pl).isSome = false by rw [HWT.out.1.look_none HNO.out]; rfl, HWT.out.1.del_none HNO.out] at hC
                    have HC := Keep.mk hC
                    clear hC HSW
                    go_wp2_with fail
                    refine HC.out.mono ?_
                    rintro e w4 ⟨rfl, S4⟩
                    have HSW : Keep (Sep w w4 [boxA ob (stv x) 29, rowV 29 6 (.slice a4 k c4) k (fl stv Wt), gateA gb G]) := ⟨bk1 [_, _] S4⟩
                    clear HC S4 d0 d1 d2 d3 d4 d5
                    have HSX : Keep (Sep w _ [rowV 29 6 (.slice a4 k c4) Wt.length (fl stv Wt), gateA gb G]) := ⟨by rw [HWL.out]; exact HSW.out.tail⟩
                    clear HSW
                    go_wp2_with fail
                    go_roundw
                    case rel => exact ⟨i + 1, Wt, G, HI.out, rfl, HSX, ⟨HWT.out.1, by have := HWT.out.2; omega⟩⟩
                    case measure => simp [intOf]; have := HI.out; omega
                  · have hsm : s0 ∈ Wt := List.mem_of_getElem? hs0
                    have na : decide ((0 : Int) ≤ (j0 : Int)) = true := decide_eq_true (by omega)
                    have nb : decide ((j0 : Int) < 0) = false := decide_eq_false (by omega)
                    have HJ0 : Keep (j0 < k ∧ Wt[j0]? = some s0 ∧ s0.pl = x.pl ∧ s0 ∈ Wt) := ⟨hj0, hs0, hp0, hsm⟩
                    clear hAt hj0 hs0 hp0 hsm hbb
                    have hC := drop_c w wt _ gb G x.pl HXP.out (fr1 [_, _] HSW.out)
                    rw [show (look G x.pl).isSome = true by rw [← HJ0.out.2.2.1]; exact HWT.out.1.look_some HJ0.out.2.2.2] at hC
                    have HC := Keep.mk hC
                    clear hC HSW
                    go_wp2_with fail
                    refine HC.out.mono ?_
                    rintro e w4 ⟨rfl, S4⟩
                    have S4b : Sep w w4 (gateA gb (rmk G x.pl) :: boxA ob (stv x) 29 :: rowV 29 6 (.slice a4 k c4) k (fl stv Wt) :: []) := S4
                    obtain ⟨g4, rfl⟩ := HA4.out _ (S4b.rowGet k2m) (by have := HJ0.out.1; omega)
                    clear S4b
                    have S5 : Sep w w4 (rowV 29 6 (sl g4 k c4) k (fl stv Wt) :: gateA gb (rmk G x.pl) :: boxA ob (stv x) 29 :: []) := fr1 [_, _] S4
                    obtain ⟨r, hr⟩ : ∃ r, r + 1 = k := ⟨k - 1, by have := HJ0.out.1; omega⟩
                    obtain ⟨z, hz⟩ : ∃ z, Wt[r]? = some z := ⟨_, List.getElem?_eq_getElem (by have := HWL.out; omega)⟩
                    have RN := Keep.mk (sts_range (S5.rowGet k0m) HWL.out hz)
                    have OW := Keep.mk (S5.rowGet k0m)
                    have hcap : r ≤ c4 := by
                      have := row_cap (S5.rowGet k0m)
                      omega
                    have HS5 := Keep.mk S5
                    have hwr : IntKind.i64.wrap ((k : Int) - 1) = (r : Int) := by have := HMB.out; rw [wi _ (by omega) (by omega)]; omega
                    have hr0 : (0 : Int) ≤ (r : Int) := by omega
                    have hr1 : (r : Int) < (k : Nat) := by omega
                    have htr : ((r : Nat) : Int).toNat = r := by omega
                    have hrc : (r : Int) ≤ (c4 : Nat) := by omega
                    have hj00 : (0 : Int) ≤ (j0 : Int) := by omega
                    have hj01 : (j0 : Int) < (k : Nat) := by have := HJ0.out.1; omega
                    have htj : ((j0 : Nat) : Int).toNat = j0 := by omega
                    have HSO := Keep.mk (stv_one z)
                    have HDEL : Keep (Wtr (rmAt Wt j0 z) (rmk G x.pl) ∧ (rmAt Wt j0 z) = (Wt.set j0 z).take r ∧ (rmAt Wt j0 z).length = r) := ⟨by
                      have hl : Wt.length - 1 = r := by have := HWL.out; omega
                      refine ⟨?_, by unfold rmAt; rw [hl], by unfold rmAt; rw [hl, List.length_take, List.length_set]; have := HWL.out; omega⟩
                      have := HWT.out.1.del HGG.out (z := z) HJ0.out.2.1 (by rw [hl]; exact hz)
                      rw [HJ0.out.2.2.1] at this
                      exact this⟩
                    have HRK : Keep (r + 1 = k) := ⟨hr⟩
                    clear HC S4 S5 d0 d1 d2 d3 d4 d5 hz hr hcap
                    go_wp2_with (first
                      | (show wpList _ _ _ ({ dst := _, op := Op.load 29 _, type := _, pos := _, after := _, guard := _ } :: _) _ _
                         refine wpList_load_mid rfl 29 _ rfl _ _ rfl _ _ RN.out hdu hdr (by exact infoS) ?_)
                      | (show wpList _ _ _ ({ dst := _, op := Op.store 29 _ _, type := _, pos := _, after := _, guard := _ } :: _) _ _
                         refine store_row stv_len _ g4 k c4 j0 Wt z 29 29 rfl rfl rfl rfl OW.out HWL.out HJ0.out.1 infoS HSO.out ?_))
                    intro w6 hS6 _
                    have S6 := hS6 _ _ HS5.out
                    have S7 := S6.rowCut stv_len (by rw [List.length_set]; exact HWL.out) r (by have := HRK.out; omega)
                    rw [← HDEL.out.2.1] at S7
                    have HSX : Keep (Sep w w6 [rowV 29 6 (sl g4 r c4) (rmAt Wt j0 z).length (fl stv (rmAt Wt j0 z)), gateA gb (rmk G x.pl)]) := ⟨by rw [HDEL.out.2.2]; exact Sep.dropM (l := []) [_, _] [_] S7⟩
                    clear hS6 S6 S7 HS5 OW RN
                    go_wp2_with fail
                    go_roundw
                    case rel => exact ⟨i + 1, rmAt Wt j0 z, _, HI.out, rfl, HSX, ⟨HDEL.out.1, by have := HDEL.out.2.2; have := HWT.out.2; have := HWL.out; have := HRK.out; omega⟩⟩
                    case measure => simp [intOf]; have := HI.out; omega
              · have n3 : (x.op == 3) = false := by simp [e3]
                clear e1 e3 e4 hAt
                have HSX : Keep (Sep w _ [rowV 29 6 (.slice a4 k c4) Wt.length (fl stv Wt), gateA gb G]) := ⟨by rw [HWL.out]; exact HSW.out.tail⟩
                clear HSW
                go_wp2_with fail
                go_roundw
                case rel => exact ⟨i + 1, Wt, G, HI.out, rfl, HSX, ⟨HWT.out.1, by have := HWT.out.2; omega⟩⟩
                case measure => simp [intOf]; have := HI.out; omega
    · have hi2 : ¬ (i : Int) ≤ (n : Nat) := by omega
      have HG := Keep.mk hS.out.g
      clear hS
      go_wp2_with fail
      go_ret
      exact ⟨rfl, HG.out⟩
end Go.Proofs.Ytjoodembmjooaaa
