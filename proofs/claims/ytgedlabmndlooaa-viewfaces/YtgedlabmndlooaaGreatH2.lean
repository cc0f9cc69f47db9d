/- grid: block. -/
import Derived.Test.YtgedlabmndlooaaGreatH1
namespace Go.Proofs.YtgedlabmndlooaaGreat
open Go Go.RowKit

abbrev clV (c : Cl) : Value := sl c.g c.L.length c.c
def Vis (fx fy cy i k : Int) (q : Int × Int) : Prop := fx ≤ q.1 ∧ fy ≤ q.2 ∧ q.2 < fy + cy ∧ (q.1 < fx + i ∨ (q.1 = fx + i ∧ q.2 < fy + k))
structure Fnd (C : List Cl) (fx fy cy i k : Int) (F : List Cl) : Prop where
  sub : ∀ c ∈ F, c ∈ C
  vis : ∀ c ∈ F, Vis fx fy cy i k c.k
  all : ∀ c ∈ C, Vis fx fy cy i k c.k → c ∈ F
  kd : F.Pairwise (fun a b => a.k ≠ b.k)
set_option maxRecDepth 100000 in
theorem Fnd.start (C : List Cl) (fx fy cy : Int) : Fnd C fx fy cy 0 0 [] := ⟨nofun, nofun, fun c _ h => by unfold Vis at h; omega, List.Pairwise.nil⟩
set_option maxRecDepth 100000 in
theorem Fnd.none {C F : List Cl} {fx fy cy i k : Int} (h : Fnd C fx fy cy i k F) (hk : ∀ c ∈ C, c.k ≠ (fx + i, fy + k)) : Fnd C fx fy cy i (k + 1) F where
  sub := h.sub
  vis c hc := by have := h.vis c hc; unfold Vis at *; omega
  all c hc hv := by
    refine h.all c hc ?_
    have hn := hk c hc
    have hn2 : ¬ (c.k.1 = fx + i ∧ c.k.2 = fy + k) := fun e => hn (Prod.ext e.1 e.2)
    unfold Vis at *; omega
  kd := h.kd
set_option maxRecDepth 100000 in
theorem Fnd.some {C F : List Cl} {fx fy cy i k : Int} (h : Fnd C fx fy cy i k F) (hC : C.Pairwise (fun a b => a.k ≠ b.k)) {c : Cl} (hc : c ∈ C) (hk : c.k = (fx + i, fy + k)) (h0 : 0 ≤ i ∧ 0 ≤ k ∧ k < cy) : Fnd C fx fy cy i (k + 1) (F ++ [c]) where
  sub d hd := by
    rcases List.mem_append.1 hd with hd | hd
    · exact h.sub d hd
    · rw [List.mem_singleton] at hd; rw [hd]; exact hc
  vis d hd := by
    rcases List.mem_append.1 hd with hd | hd
    · have := h.vis d hd; unfold Vis at *; omega
    · rw [List.mem_singleton] at hd
      have e1 : d.k.1 = fx + i := by rw [hd, hk]
      have e2 : d.k.2 = fy + k := by rw [hd, hk]
      unfold Vis; omega
  all d hd hv := by
    by_cases e : d.k = (fx + i, fy + k)
    · have : d = c := by
        have hp := hC
        rcases List.mem_iff_getElem.1 hd with ⟨n, hn, rfl⟩
        rcases List.mem_iff_getElem.1 hc with ⟨m, hm, rfl⟩
        rw [List.pairwise_iff_getElem] at hp
        rcases Nat.lt_trichotomy n m with q | q | q
        · exact absurd (e.trans hk.symm) (hp n m hn hm q)
        · subst q; rfl
        · exact absurd (hk.trans e.symm) (hp m n hm hn q)
      rw [this]
      exact List.mem_append_right _ (List.mem_singleton_self _)
    · refine List.mem_append_left _ (h.all d hd ?_)
      have hn2 : ¬ (d.k.1 = fx + i ∧ d.k.2 = fy + k) := fun q => e (Prod.ext q.1 q.2)
      unfold Vis at *; omega
  kd := by
    refine List.pairwise_append.2 ⟨h.kd, List.pairwise_singleton _ _, fun d hd e he => ?_⟩
    rw [List.mem_singleton] at he
    subst he
    intro q
    have := h.vis d hd
    rw [q, hk] at this
    unfold Vis at this
    simp only at this
    omega
set_option maxRecDepth 100000 in
theorem Fnd.next {C F : List Cl} {fx fy cy i : Int} (h : Fnd C fx fy cy i cy F) : Fnd C fx fy cy (i + 1) 0 F where
  sub := h.sub
  vis c hc := by have := h.vis c hc; unfold Vis at *; omega
  all c hc hv := h.all c hc (by unfold Vis at *; omega)
  kd := h.kd
set_option maxRecDepth 100000 in
theorem few_of {F C : List Cl} (hs : ∀ c ∈ F, c ∈ C) (hk : F.Pairwise (fun a b => a.k ≠ b.k)) : F.length ≤ C.length := by
  induction F generalizing C with
  | nil => simp
  | cons c F ih =>
    obtain ⟨h1, h2⟩ := List.pairwise_cons.1 hk
    obtain ⟨D, hD⟩ := mem_perm (hs c (List.mem_cons_self ..))
    have h3 := ih (C := D) (fun d hd => by
      rcases List.mem_cons.1 (hD.mem_iff.1 (hs d (List.mem_cons_of_mem _ hd))) with rfl | q
      · exact absurd rfl (h1 d hd)
      · exact q) h2
    rw [hD.length_eq, List.length_cons, List.length_cons]
    omega
set_option maxRecDepth 100000 in
theorem info54b : ∃ i, Tryz.prog.info? 101 = some i ∧ i.size = 1 ∧ i.bytes = 24 ∧ i.zero = some (.slice none 0 0) := by
  have h : (Tryz.prog.info? 101).map (fun i => (i.size, i.bytes, i.zero)) = some (1, 24, some (.slice none 0 0)) := by kernel_rfl
  cases e : Tryz.prog.info? 101 with
  | none => rw [e] at h; cases h
  | some i =>
    rw [e] at h
    simp only [Option.map_some, Option.some.injEq, Prod.mk.injEq] at h
    exact ⟨i, rfl, h.1, h.2.1, h.2.2⟩
set_option maxRecDepth 100000 in
theorem clf_cases (C : List Cl) (hC : C.Pairwise (fun a b => a.k ≠ b.k)) (k : Int × Int) : (clf C k = none ∧ ∀ c ∈ C, c.k ≠ k) ∨ ∃ c ∈ C, c.k = k ∧ clf C k = some (clS c) := by
  by_cases h : ∃ c ∈ C, c.k = k
  · obtain ⟨c, hc, rfl⟩ := h
    exact .inr ⟨c, hc, rfl, clf_mem hC hc⟩
  · exact .inl ⟨clf_none (fun c hc e => h ⟨c, hc, e⟩), fun c hc e => h ⟨c, hc, e⟩⟩

set_option maxRecDepth 100000 in
set_option maxHeartbeats 16000000 in
theorem block_c (w0 W : World) (l : List As) (gb : Nat) (sd : Int) (va : Value) (mi mc : Nat) (A : List Tg) (C : List Cl) (fx cx fy cy : Int) (hkd : C.Pairwise (fun a b => a.k ≠ b.k)) (hn : C.length * 24 + 24 ≤ 140737488355328) (hx1 : I64 fx) (hx2 : I64 (fx + cx - 1)) (hy1 : I64 fy) (hy2 : I64 (fy + cy - 1)) (hc : 1 ≤ cx ∧ cx ≤ 4294967296 ∧ 1 ≤ cy ∧ cy ≤ 4294967296)
    (h : Sep w0 W (gOpen gb sd va mi mc A C l)) :
    Calls Tryz.prog 120 #[pt gb, .agg #[iv fx, iv cx], .agg #[iv fy, iv cy]] W fun e W' => ∃ v F, e = .returned v ∧ Fnd C fx fy cy cx 0 F ∧ Sep w0 W' (rowV 101 1 v F.length (F.map clV) :: gOpen gb sd va mi mc A C l) := by
  have S1 := ((h.newBox #[iv fx, iv cx] 172).newBox #[iv fy, iv cy] 172)
  obtain ⟨W1, hW1⟩ : ∃ W1, (W.alloc (.cells #[iv fx, iv cx] 172)).alloc (.cells #[iv fy, iv cy] 172) = W1 := ⟨_, rfl⟩
  obtain ⟨xb, hxb⟩ : ∃ b, W.heap.size = b := ⟨_, rfl⟩
  obtain ⟨yb, hyb⟩ : ∃ b, (W.alloc (.cells #[iv fx, iv cx] 172)).heap.size = b := ⟨_, rfl⟩
  rw [hW1, hxb, hyb] at S1
  rw [heap1, hxb] at hyb
  have HS0 : Keep (Sep w0 W1 (rowV 101 1 (.slice none 0 0) 0 [] :: boxA yb [iv fy, iv cy] 172 :: boxA xb [iv fx, iv cx] 172 :: gOpen gb sd va mi mc A C l)) := ⟨S1.nilV 101 1⟩
  have c1 := (S1.boxGet k1m).cellv 1 _ rfl
  have HKD := Keep.mk hkd
  have HN := Keep.mk hn
  have HR : Keep ((I64 fx ∧ I64 (fx + cx - 1)) ∧ (I64 fy ∧ I64 (fy + cy - 1))) := ⟨⟨hx1, hx2⟩, hy1, hy2⟩
  obtain ⟨hc1, hc2, hc3, hc4⟩ := hc
  clear S1 h hkd hn hx1 hx2 hy1 hy2
  go_enter Tryz.func120, Tryz.ntmps120
  go_wp2_with fail
  first | rw [hyb] | skip
  clear hW1 hxb hyb c1
  go_loopw [7, 13] (fun u7 u13 wr => ∃ (i : Nat) (F : List Cl), (i : Int) ≤ cx ∧ u13 = iv i ∧ Keep (Fnd C fx fy cy i 0 F) ∧ Keep (Sep w0 wr (rowV 101 1 u7 F.length (F.map clV) :: boxA yb [iv fy, iv cy] 172 :: boxA xb [iv fx, iv cx] 172 :: gOpen gb sd va mi mc A C l))) (fun _ u13 _ => (cx - intOf u13).toNat)
  case atStart => exact ⟨0, [], by omega, rfl, ⟨Fnd.start C fx fy cy⟩, HS0⟩
  case round =>
    clear HS0
    obtain ⟨i, F, hi, rfl, hF, hS⟩ := hrel
    by_cases hlt : (i : Int) < cx
    · have c1 := (hS.out.boxGet k1m).cellv 1 _ rfl
      go_wp2_with fail
      clear c1
      go_loopw [7, 18] (fun u7 u18 wz => ∃ (k : Nat) (F : List Cl), (k : Int) ≤ cy ∧ u18 = iv k ∧ Keep (Fnd C fx fy cy i k F) ∧ Keep (Sep w0 wz (rowV 101 1 u7 F.length (F.map clV) :: boxA yb [iv fy, iv cy] 172 :: boxA xb [iv fx, iv cx] 172 :: gOpen gb sd va mi mc A C l))) (fun _ u18 _ => (cy - intOf u18).toNat)
      case atStart => exact ⟨0, F, by omega, rfl, hF, hS⟩
      case round =>
        clear hF hS F
        rename_i u7' _ _
        obtain ⟨k, F, hk, rfl, hF, hS⟩ := hrel
        by_cases hlu : (k : Int) < cy
        · have hki : IntKind.i64.wrap ((k : Int) + 1) = ((k + 1 : Nat) : Int) := by rw [IntKind.wrap_i64]; omega
          obtain ⟨kx, hkx⟩ : ∃ kx, fx + (i : Int) = kx := ⟨_, rfl⟩
          obtain ⟨ky, hky⟩ : ∃ ky, fy + (k : Int) = ky := ⟨_, rfl⟩
          have HK : Keep (I64p (kx, ky)) := ⟨by
            have := HR.out
            unfold I64p I64 at *
            simp only
            omega⟩
          have ex : IntKind.i64.wrap (fx + (i : Int)) = kx := by
            have := HK.out
            unfold I64p I64 at this
            simp only at this
            rw [IntKind.wrap_i64]; omega
          have ey : IntKind.i64.wrap (fy + (k : Int)) = ky := by
            have := HK.out
            unfold I64p I64 at this
            simp only at this
            rw [IntKind.wrap_i64]; omega
          have HXY := Keep.mk (And.intro hkx hky)
          clear hkx hky
          have HB : Keep (Sep w0 wr (rowV 101 1 u7 F.length (F.map clV) :: boxA yb [iv fy, iv cy] 172 :: boxA xb [iv fx, iv cx] 172 :: gOpen gb sd va mi mc A C l)) := hS
          clear hS
          rcases clf_cases C HKD.out (kx, ky) with ⟨hv, hno⟩ | ⟨c, hcC, hck, hv⟩
          · have HV : Keep (cellsM.ev ((clf C (kx, ky)).getD cellsM.z) = .slice none 0 0) := ⟨by rw [hv]; rfl⟩
            have HF2 : Keep (Fnd C fx fy cy i ((k + 1 : Nat) : Int) F) := ⟨by
              have := hF.out.none (by rw [HXY.out.1, HXY.out.2]; exact hno)
              exact_mod_cast this⟩
            clear hv hno hF
            go_wp2_with fail
            refine region_X (S := fun w' => Sep w0 w' (rowV 101 1 u7 F.length (F.map clV) :: boxA yb [iv fy, iv cy] 172 :: boxA xb [iv fx, iv cx] 172 :: gOpen gb sd va mi mc A C l)) [] (by kernel_rfl) (HB.out.grown (gr_drew _ _)) (fun hHeld => ?_)
            replace HB := Keep.mk hHeld
            obtain ⟨W0, hW0⟩ : ∃ W_, wr.drew = W_ := ⟨_, rfl⟩
            rw [hW0] at HB hHeld ⊢
            clear hW0
            refine wpAnyX_take (i := 0) (oi := _) (v := ?_) rfl (by kernel_rfl) (by kernel_rfl) (by kernel_rfl) (by kernel_rfl) (by kernel_rfl) (fun _ _ _ h => h) (Or.inl ⟨by rfl, ?_⟩) (by assumption) ?_
            rotate_left
            · (intro w hSw; go_simp; first | done | (with_reducible rfl))
            simp only [Act.put, A1, A3, A4, A5, A6]
            refine wpAnyX_take (i := 1) (oi := _) (v := ?_) rfl (by kernel_rfl) (by kernel_rfl) (by kernel_rfl) (by kernel_rfl) (by kernel_rfl) (fun _ _ _ h => h) (Or.inl ⟨by rfl, ?_⟩) (by assumption) ?_
            rotate_left
            · (intro w hSw; go_simp; first | done | (with_reducible rfl))
            simp only [Act.put, A1, A2, A3, A4, A5, A6]
            refine wpAnyX_take (i := 2) (oi := _) (v := ?_) rfl (by kernel_rfl) (by kernel_rfl) (by kernel_rfl) (by kernel_rfl) (by kernel_rfl) (fun _ _ _ h => h) (Or.inl ⟨by rfl, ?_⟩) (by assumption) ?_
            rotate_left
            · (intro w hSw; go_simp; first | done | (with_reducible rfl))
            simp only [Act.put, A1, A2, A3, A4, A5, A6]
            refine wpAnyX_take (i := 3) (oi := _) (v := ?_) rfl (by kernel_rfl) (by kernel_rfl) (by kernel_rfl) (by kernel_rfl) (by kernel_rfl) (fun _ _ _ h => h) (Or.inl ⟨by rfl, ?_⟩) (by assumption) ?_
            rotate_left
            · (intro w hSw; have q3 := (hSw.boxGet k3m).cellv 3 _ rfl; go_simp; first | done | (with_reducible rfl))
            simp only [Act.put, A1, A2, A3, A4, A5, A6]
            refine wpAnyX_take (i := 4) (oi := _) (v := ?_) rfl (by kernel_rfl) (by kernel_rfl) (by kernel_rfl) (by kernel_rfl) (by kernel_rfl) (fun _ _ _ h => h) (Or.inl ⟨by rfl, ?_⟩) (by assumption) ?_
            rotate_left
            · (intro w hSw; go_simp; first | done | (with_reducible rfl))
            simp only [Act.put, A1, A2, A3, A4, A5, A6]
            refine wpAnyX_take (i := 5) (oi := _) (v := ?_) rfl (by kernel_rfl) (by kernel_rfl) (by kernel_rfl) (by kernel_rfl) (by kernel_rfl) (fun _ _ _ h => h) (Or.inl ⟨by rfl, ?_⟩) (by assumption) ?_
            rotate_left
            · (intro w hSw; have q0 := (hSw.boxGet k2m).cellv 0 _ rfl; go_simp; first | done | (with_reducible rfl))
            simp only [Act.put, A1, A2, A3, A4, A5, A6]
            refine wpAnyX_take (i := 6) (oi := _) (v := ?_) rfl (by kernel_rfl) (by kernel_rfl) (by kernel_rfl) (by kernel_rfl) (by kernel_rfl) (fun _ _ _ h => h) (Or.inl ⟨by rfl, ?_⟩) (by assumption) ?_
            rotate_left
            · (intro w hSw; go_simp; first | done | (with_reducible rfl))
            simp only [Act.put, A1, A2, A3, A4, A5, A6]
            refine wpAnyX_take (i := 7) (oi := _) (v := ?_) rfl (by kernel_rfl) (by kernel_rfl) (by kernel_rfl) (by kernel_rfl) (by kernel_rfl) (fun _ _ _ h => h) (Or.inl ⟨by rfl, ?_⟩) (by assumption) ?_
            rotate_left
            · (intro w hSw; go_simp; first | done | (with_reducible rfl))
            simp only [Act.put, A1, A2, A3, A4, A5, A6]
            refine wpAnyX_take (i := 8) (oi := _) (v := ?_) rfl (by kernel_rfl) (by kernel_rfl) (by kernel_rfl) (by kernel_rfl) (by kernel_rfl) (fun _ _ _ h => h) (Or.inl ⟨by rfl, ?_⟩) (by assumption) ?_
            rotate_left
            · (intro w hSw; go_simp; first | done | (with_reducible rfl))
            simp only [Act.put, A1, A2, A3, A4, A5, A6]
            refine wpAnyX_take (i := 9) (oi := _) (v := ?_) rfl (by kernel_rfl) (by kernel_rfl) (by kernel_rfl) (by kernel_rfl) (by kernel_rfl) (fun _ _ _ h => h) (Or.inl ⟨by rfl, ?_⟩) (by assumption) ?_
            rotate_left
            · (intro w hSw; have q0 := (hSw.boxGet k1m).cellv 0 _ rfl; go_simp; first | done | (with_reducible rfl))
            simp only [Act.put, A1, A2, A3, A4, A5, A6]
            refine wpAnyX_take (i := 10) (oi := _) (v := ?_) rfl (by kernel_rfl) (by kernel_rfl) (by kernel_rfl) (by kernel_rfl) (by kernel_rfl) (fun _ _ _ h => h) (Or.inl ⟨by rfl, ?_⟩) (by assumption) ?_
            rotate_left
            · (intro w hSw; go_simp; first | done | (with_reducible rfl))
            simp only [Act.put, A1, A2, A3, A4, A5, A6]
            refine wpAnyX_take (i := 11) (oi := _) (v := ?_) rfl (by kernel_rfl) (by kernel_rfl) (by kernel_rfl) (by kernel_rfl) (by kernel_rfl) (fun _ _ _ h => h) (Or.inl ⟨by rfl, ?_⟩) (by assumption) ?_
            rotate_left
            · (intro w hSw; go_simp; first | done | (with_reducible rfl))
            simp only [Act.put, A1, A2, A3, A4, A5, A6]
            refine wpAnyX_take (i := 12) (oi := _) (v := ?_) rfl (by kernel_rfl) (by kernel_rfl) (by kernel_rfl) (by kernel_rfl) (by kernel_rfl) (fun _ _ _ h => h) (Or.inl ⟨by rfl, ?_⟩) (by assumption) ?_
            rotate_left
            · (intro w hSw; go_simp; first | done | (with_reducible rfl))
            simp only [Act.put, A1, A2, A3, A4, A5, A6]
            refine wpAnyX_take (i := 13) (oi := _) (v := .slice none 0 0) rfl (by kernel_rfl) (by kernel_rfl) (by kernel_rfl) (by kernel_rfl) (by kernel_rfl) (fun _ _ _ h => h) (Or.inl ⟨by rfl, ?_⟩) (by assumption) ?_
            · (intro w hSw; have ql : (Instr.lookup 100 (.map (some mc)) (.agg #[iv kx, iv ky]) false).run Tryz.prog w = .ok (.slice none 0 0) w := (by have q := (hSw.mapGet k4m).look (kx, ky) HK.out; rw [HV.out] at q; exact q); go_simp; first | done | rfl | (simp; done) | trace_state)
            simp only [Act.put, A1, A2, A3, A4, A5, A6]
            refine wpAnyX_one (i := 14) (by kernel_rfl) rfl (fun K hK => ?_)
            go_simp
            refine hK.out _ _ HB.out (fun hHeld => ?_)
            clear hK K
            refine wpAnyX_done (by kernel_rfl) ?_ _
            go_wp2_with fail
            go_roundw
            case rel => exact ⟨k + 1, F, by omega, rfl, HF2, HB⟩
            case measure => simp [intOf]; omega
          · have HV : Keep (cellsM.ev ((clf C (kx, ky)).getD cellsM.z) = sl c.g c.L.length c.c) := ⟨by rw [hv]; rfl⟩
            have HF2 : Keep (Fnd C fx fy cy i ((k + 1 : Nat) : Int) (F ++ [c])) := ⟨by
              have := hF.out.some HKD.out hcC (by rw [HXY.out.1, HXY.out.2]; exact hck) ⟨by omega, by omega, hlu⟩
              exact_mod_cast this⟩
            have HFL : Keep (F.length ≤ C.length) := ⟨few_of hF.out.sub hF.out.kd⟩
            clear hv hF hck hcC
            obtain ⟨cl, hcl⟩ : ∃ n, c.L.length = n := ⟨_, rfl⟩
            have HCL := Keep.mk hcl
            rw [hcl] at HV
            clear hcl
            go_wp2_with fail
            refine region_X (S := fun w' => Sep w0 w' (rowV 101 1 u7 F.length (F.map clV) :: boxA yb [iv fy, iv cy] 172 :: boxA xb [iv fx, iv cx] 172 :: gOpen gb sd va mi mc A C l)) [] (by kernel_rfl) (HB.out.grown (gr_drew _ _)) (fun hHeld => ?_)
            replace HB := Keep.mk hHeld
            obtain ⟨W0, hW0⟩ : ∃ W_, wr.drew = W_ := ⟨_, rfl⟩
            rw [hW0] at HB hHeld ⊢
            clear hW0
            refine wpAnyX_take (i := 0) (oi := _) (v := ?_) rfl (by kernel_rfl) (by kernel_rfl) (by kernel_rfl) (by kernel_rfl) (by kernel_rfl) (fun _ _ _ h => h) (Or.inl ⟨by rfl, ?_⟩) (by assumption) ?_
            rotate_left
            · (intro w hSw; go_simp; first | done | (with_reducible rfl))
            simp only [Act.put, A1, A3, A4, A5, A6]
            refine wpAnyX_take (i := 1) (oi := _) (v := ?_) rfl (by kernel_rfl) (by kernel_rfl) (by kernel_rfl) (by kernel_rfl) (by kernel_rfl) (fun _ _ _ h => h) (Or.inl ⟨by rfl, ?_⟩) (by assumption) ?_
            rotate_left
            · (intro w hSw; go_simp; first | done | (with_reducible rfl))
            simp only [Act.put, A1, A2, A3, A4, A5, A6]
            refine wpAnyX_take (i := 2) (oi := _) (v := ?_) rfl (by kernel_rfl) (by kernel_rfl) (by kernel_rfl) (by kernel_rfl) (by kernel_rfl) (fun _ _ _ h => h) (Or.inl ⟨by rfl, ?_⟩) (by assumption) ?_
            rotate_left
            · (intro w hSw; go_simp; first | done | (with_reducible rfl))
            simp only [Act.put, A1, A2, A3, A4, A5, A6]
            refine wpAnyX_take (i := 3) (oi := _) (v := ?_) rfl (by kernel_rfl) (by kernel_rfl) (by kernel_rfl) (by kernel_rfl) (by kernel_rfl) (fun _ _ _ h => h) (Or.inl ⟨by rfl, ?_⟩) (by assumption) ?_
            rotate_left
            · (intro w hSw; have q3 := (hSw.boxGet k3m).cellv 3 _ rfl; go_simp; first | done | (with_reducible rfl))
            simp only [Act.put, A1, A2, A3, A4, A5, A6]
            refine wpAnyX_take (i := 4) (oi := _) (v := ?_) rfl (by kernel_rfl) (by kernel_rfl) (by kernel_rfl) (by kernel_rfl) (by kernel_rfl) (fun _ _ _ h => h) (Or.inl ⟨by rfl, ?_⟩) (by assumption) ?_
            rotate_left
            · (intro w hSw; go_simp; first | done | (with_reducible rfl))
            simp only [Act.put, A1, A2, A3, A4, A5, A6]
            refine wpAnyX_take (i := 5) (oi := _) (v := ?_) rfl (by kernel_rfl) (by kernel_rfl) (by kernel_rfl) (by kernel_rfl) (by kernel_rfl) (fun _ _ _ h => h) (Or.inl ⟨by rfl, ?_⟩) (by assumption) ?_
            rotate_left
            · (intro w hSw; have q0 := (hSw.boxGet k2m).cellv 0 _ rfl; go_simp; first | done | (with_reducible rfl))
            simp only [Act.put, A1, A2, A3, A4, A5, A6]
            refine wpAnyX_take (i := 6) (oi := _) (v := ?_) rfl (by kernel_rfl) (by kernel_rfl) (by kernel_rfl) (by kernel_rfl) (by kernel_rfl) (fun _ _ _ h => h) (Or.inl ⟨by rfl, ?_⟩) (by assumption) ?_
            rotate_left
            · (intro w hSw; go_simp; first | done | (with_reducible rfl))
            simp only [Act.put, A1, A2, A3, A4, A5, A6]
            refine wpAnyX_take (i := 7) (oi := _) (v := ?_) rfl (by kernel_rfl) (by kernel_rfl) (by kernel_rfl) (by kernel_rfl) (by kernel_rfl) (fun _ _ _ h => h) (Or.inl ⟨by rfl, ?_⟩) (by assumption) ?_
            rotate_left
            · (intro w hSw; go_simp; first | done | (with_reducible rfl))
            simp only [Act.put, A1, A2, A3, A4, A5, A6]
            refine wpAnyX_take (i := 8) (oi := _) (v := ?_) rfl (by kernel_rfl) (by kernel_rfl) (by kernel_rfl) (by kernel_rfl) (by kernel_rfl) (fun _ _ _ h => h) (Or.inl ⟨by rfl, ?_⟩) (by assumption) ?_
            rotate_left
            · (intro w hSw; go_simp; first | done | (with_reducible rfl))
            simp only [Act.put, A1, A2, A3, A4, A5, A6]
            refine wpAnyX_take (i := 9) (oi := _) (v := ?_) rfl (by kernel_rfl) (by kernel_rfl) (by kernel_rfl) (by kernel_rfl) (by kernel_rfl) (fun _ _ _ h => h) (Or.inl ⟨by rfl, ?_⟩) (by assumption) ?_
            rotate_left
            · (intro w hSw; have q0 := (hSw.boxGet k1m).cellv 0 _ rfl; go_simp; first | done | (with_reducible rfl))
            simp only [Act.put, A1, A2, A3, A4, A5, A6]
            refine wpAnyX_take (i := 10) (oi := _) (v := ?_) rfl (by kernel_rfl) (by kernel_rfl) (by kernel_rfl) (by kernel_rfl) (by kernel_rfl) (fun _ _ _ h => h) (Or.inl ⟨by rfl, ?_⟩) (by assumption) ?_
            rotate_left
            · (intro w hSw; go_simp; first | done | (with_reducible rfl))
            simp only [Act.put, A1, A2, A3, A4, A5, A6]
            refine wpAnyX_take (i := 11) (oi := _) (v := ?_) rfl (by kernel_rfl) (by kernel_rfl) (by kernel_rfl) (by kernel_rfl) (by kernel_rfl) (fun _ _ _ h => h) (Or.inl ⟨by rfl, ?_⟩) (by assumption) ?_
            rotate_left
            · (intro w hSw; go_simp; first | done | (with_reducible rfl))
            simp only [Act.put, A1, A2, A3, A4, A5, A6]
            refine wpAnyX_take (i := 12) (oi := _) (v := ?_) rfl (by kernel_rfl) (by kernel_rfl) (by kernel_rfl) (by kernel_rfl) (by kernel_rfl) (fun _ _ _ h => h) (Or.inl ⟨by rfl, ?_⟩) (by assumption) ?_
            rotate_left
            · (intro w hSw; go_simp; first | done | (with_reducible rfl))
            simp only [Act.put, A1, A2, A3, A4, A5, A6]
            refine wpAnyX_take (i := 13) (oi := _) (v := sl c.g cl c.c) rfl (by kernel_rfl) (by kernel_rfl) (by kernel_rfl) (by kernel_rfl) (by kernel_rfl) (fun _ _ _ h => h) (Or.inl ⟨by rfl, ?_⟩) (by assumption) ?_
            · (intro w hSw; have ql : (Instr.lookup 100 (.map (some mc)) (.agg #[iv kx, iv ky]) false).run Tryz.prog w = .ok (sl c.g cl c.c) w := (by have q := (hSw.mapGet k4m).look (kx, ky) HK.out; rw [HV.out] at q; exact q); go_simp; first | done | rfl | (simp; done) | trace_state)
            simp only [Act.put, A1, A2, A3, A4, A5, A6]
            refine wpAnyX_one (i := 14) (by kernel_rfl) rfl (fun K hK => ?_)
            go_simp
            refine hK.out _ _ HB.out (fun hHeld => ?_)
            clear hK K
            refine wpAnyX_done (by kernel_rfl) ?_ _
            obtain ⟨i0, i1, i2, i3, i4⟩ := info54b
            obtain ⟨g9, c9, W9, ap, S9⟩ := Sep.app (t := 159) (bytes := 24) Tryz.underlying159 i1 i4 i2 i3 rfl (by omega) HB.out [sl c.g cl c.c] rfl (by intro u hu; simp at hu; subst hu; rfl) (by have := HN.out; have := HFL.out; omega) (by omega)
            have AP := Keep.mk ap
            have el : (F ++ [c]).length = F.length + 1 := by simp
            have HS9 : Keep (Sep w0 W9 (rowV 101 1 (sl g9 (F.length + 1) c9) (F ++ [c]).length ((F ++ [c]).map clV) :: boxA yb [iv fy, iv cy] 172 :: boxA xb [iv fx, iv cx] 172 :: gOpen gb sd va mi mc A C l)) := ⟨by
              rw [el, List.map_append, List.map_cons, List.map_nil]
              show Sep w0 W9 (rowV 101 1 _ _ (F.map clV ++ [sl c.g c.L.length c.c]) :: _)
              rw [HCL.out]
              exact S9⟩
            clear ap S9 el i1 i2 i3 i4
            obtain ⟨wb, hwb⟩ : ∃ b, W0.heap.size = b := ⟨_, rfl⟩
            rw [hwb] at AP
            obtain ⟨n1, hn1⟩ : ∃ n1, F.length + 1 = n1 := ⟨_, rfl⟩
            rw [hn1] at AP HS9
            clear hn1 HB
            go_wp2_with (first
              | (at_builtin; refine wpList_append_run _ rfl (.tmp 37) (.tmp 39) 159 rfl _ _ rfl rfl AP.out ?_))
            go_roundw
            case rel => exact ⟨k + 1, F ++ [c], by omega, rfl, HF2, HS9⟩
            case measure => simp [intOf]; omega
        · have hyi : IntKind.i64.wrap ((i : Int) + 1) = ((i + 1 : Nat) : Int) := by rw [IntKind.wrap_i64]; omega
          have HF2 : Keep (Fnd C fx fy cy ((i + 1 : Nat) : Int) 0 F) := ⟨by
            have e : (k : Int) = cy := by omega
            have q := hF.out
            rw [e] at q
            have := q.next
            exact_mod_cast this⟩
          clear hF
          go_wp2_with fail
          go_roundw
          case rel => exact ⟨i + 1, F, by omega, rfl, HF2, hS⟩
          case measure => simp [intOf]; omega
    · have HF2 : Keep (Fnd C fx fy cy cx 0 F) := ⟨by
        have e : (i : Int) = cx := by omega
        rw [← e]; exact hF.out⟩
      have HE : Keep (Sep w0 wr (rowV 101 1 u7 F.length (F.map clV) :: gOpen gb sd va mi mc A C l)) := ⟨(hS.out.perm ((List.Perm.swap _ _ _).trans ((List.Perm.swap _ _ _).cons _))).tail.tail⟩
      clear hF hS
      go_wp2_with fail
      go_ret
      exact ⟨_, rfl, F, HF2.out, HE.out⟩
end Go.Proofs.YtgedlabmndlooaaGreat
