import Derived.Test.YtplcicbpkbamnaaDoorX3
import Derived.Test.YtplcicbpkbamnaaDoorX7
import Derived.Lib.ConvBytes
import Derived.Test.YtplcicbpkbamnaaDoorX0
import Derived.Deep.RegionHeld
/- lobby: accounts: copyAccounts. -/
namespace Go.Proofs.YtplcicbpkbamnaaDoor.Lo
open Go Go.RowKit

abbrev Pr := ByteArray × ByteArray
/-- one account more, or none -/
def cpyS (A : List Ac) (p : Pr) : Option (List Ac) := if (fdI A p.1).isSome = true ∨ ¬ Na.chkOK p.1 = true ∨ p.2.size ≠ 32 then none else some (A ++ [⟨p.1, Na.sl p.2⟩])
def cpy : List Ac → List Pr → Option (List Ac)
  | A, [] => some A
  | A, p :: r => match cpyS A p with
    | none => none
    | some B => cpy B r
theorem cpy_step {A : List Ac} {P : List Pr} {i : Nat} {p : Pr} (h : P[i]? = some p) : cpy A (P.drop i) = match cpyS A p with
    | none => none
    | some B => cpy B (P.drop (i + 1)) := by
  obtain ⟨hi, e⟩ := List.getElem?_eq_some_iff.1 h
  rw [List.drop_eq_getElem_cons hi, e]
  rfl
/-- accounts as they are handed in -/
structure InR (W : World) (v : Value) (P : List Pr) : Prop where
  o : ∃ a cap, v = .slice a P.length cap ∧ (0 < P.length → ∃ g o, a = some ⟨g, o, none⟩ ∧ ∀ (j : Nat) (x : Pr), P[j]? = some x → W.cell? ⟨g, o + j * 2, none⟩ = some (.string x.1) ∧ W.cell? ⟨g, o + j * 2 + 1, none⟩ = some (.string x.2))
  s : ∀ x ∈ P, x.1.size ≤ 281474976710656 ∧ x.2.size ≤ 281474976710656
theorem InR.kept {W W' : World} {v : Value} {P : List Pr} (h : InR W v P) (g : W.grownBy W' none) : InR W' v P := by
  obtain ⟨a, cap, e, q⟩ := h.o
  refine ⟨⟨a, cap, e, fun hn => ?_⟩, h.s⟩
  obtain ⟨b, o, e1, q⟩ := q hn
  exact ⟨b, o, e1, fun j x hx => ⟨g.cell (q j x hx).1 (by simp), g.cell (q j x hx).2 (by simp)⟩⟩
/-- a new account's cells -/
def z33 (nm : ByteArray) : List Value := .string nm :: List.replicate 32 (.int .u8 0)
theorem z33_len (nm : ByteArray) : (z33 nm).length = 33 := by simp [z33]
theorem z33_one (nm : ByteArray) : ∀ v ∈ z33 nm, v.oneCell' = true := by
  intro v hv
  rcases List.mem_cons.1 hv with rfl | hv
  · rfl
  · rw [List.eq_of_mem_replicate hv]; rfl
set_option maxRecDepth 100000 in
theorem info87b : ∃ i, Tryd.prog.info? 87 = some i ∧ i.size = 33 ∧ i.bytes = 48 ∧ i.zero = some (.agg (z33 ⟨#[]⟩).toArray) := by
  have h : (Tryd.prog.info? 87).map (fun i => (i.size, i.bytes, i.zero)) = some (33, 48, some (.agg (z33 ⟨#[]⟩).toArray)) := by kernel_rfl
  cases hq : Tryd.prog.info? 87 with
  | none => simp [hq] at h
  | some i =>
    simp only [hq, Option.map_some, Option.some.injEq, Prod.mk.injEq] at h
    exact ⟨i, rfl, h.1, h.2.1, h.2.2⟩
theorem under75 : Tryd.prog.underlying 75 = some (.slice 87) := by kernel_rfl
theorem acs_app (A : List Ac) (a : Ac) : acs (A ++ [a]) = acs A ++ acv a := by simp [acs]
/-- a row of accounts grows by one -/
theorem Sep.acc {w0 W : World} {l : List As} {v : Value} {A : List Ac} (a : Ac) (h : Sep w0 W (rowV 87 33 v A.length (acs A) :: l)) (hn : A.length ≤ 64) (ha : a.sc.length = 32) :
    ∃ g c W', (Builtin.append_ #[75, 75] 75 #[v, .slice (some ⟨W.heap.size, 0, none⟩) 1 1]).run Tryd.prog (W.alloc (.cells (acv a).toArray 87)) = .ok (.slice (some ⟨g, 0, none⟩) (A.length + 1) c) W' ∧ Sep w0 W' (rowV 87 33 (.slice (some ⟨g, 0, none⟩) (A.length + 1) c) (A ++ [a]).length (acs (A ++ [a])) :: l) := by
  obtain ⟨i, i1, i2, i3, i4⟩ := info87b
  obtain ⟨g, c, W', r1, r2⟩ := Sep.app under75 i1 i4 i2 i3 (z33_len _) (by decide) h (acv a) (acv_len a ha) (acv_one a) (by omega) (by decide)
  refine ⟨g, c, W', r1, ?_⟩
  rw [List.length_append, acs_app]
  exact r2
theorem Sep.acr {w0 W : World} {l : List As} {v : Value} {A : List Ac} (h : Sep w0 W l) (hm : rowV 87 33 v A.length (acs A) ∈ l) (hs : ∀ a ∈ A, a.sc.length = 32) : AcR W v A := acr_of hs (h.rowGet hm)
/-- what copyAccounts gives -/
def CpR (w : World) : Option (List Ac) → Ending → World → Prop
  | none, e, w' => e = .returned (.tuple #[.slice none 0 0, .bool false]) ∧ w.grownBy w' none
  | some A, e, w' => (∀ a ∈ A, a.sc.length = 32) ∧ A.length ≤ 64 ∧ ∃ v, e = .returned (.tuple #[v, .bool true]) ∧ Sep w w' [rowV 87 33 v A.length (acs A)]
theorem Sep.boxPuts {w0 W : World} {l : List As} {b : Nat} {cs ds : List Value} {t : TypeId} (h : Sep w0 W (boxA b cs t :: l)) (o : Nat) (vs : List Value) (hh : Has (W.setCells b o vs) b ds t) : Sep w0 (W.setCells b o vs) (boxA b ds t :: l) := by
  obtain ⟨F, ⟨h1, rfl⟩, _, hu⟩ := h.use
  exact hu _ [_] (Fr.ofSome (gr_sets _ _ _ _) rfl) (Loc.one (a := boxA _ _ _) _ ⟨hh, rfl⟩ (fun i hi => .inl hi))
set_option maxRecDepth 100000 in
/-- a slice of one account is built -/
theorem bs_run (w : World) : ∀ (cs : List Value), cs.length = 33 → (Instr.buildSlice 75 1 #[(0, .agg cs.toArray)]).run Tryd.prog w = .ok (.slice (some ⟨w.heap.size, 0, none⟩) 1 1) (w.alloc (.cells cs.toArray 87))
  | c0 :: c1 :: c2 :: c3 :: c4 :: c5 :: c6 :: c7 :: c8 :: c9 :: c10 :: c11 :: c12 :: c13 :: c14 :: c15 :: c16 :: c17 :: c18 :: c19 :: c20 :: c21 :: c22 :: c23 :: c24 :: c25 :: c26 :: c27 :: c28 :: c29 :: c30 :: c31 :: c32 :: [], _ => by kernel_rfl
theorem wpList_bs_run {P : Program} {w : World} {ops : Array Oper} {rest : List Oper} {o : Oper} {a : Act} {Q : Exit → Act → World → Prop} (hgd : o.guard = none) (x : Operand) (t : TypeId)
    (ho : o.op = .buildSlice t 1 #[(0, x)]) (v : Value) (hx : a.eval x = v) {v' : Value} {w' : World}
    (hr : (Instr.buildSlice t 1 #[(0, v)]).run P w = .ok v' w') (h : wpList P ops Q rest (a.put o.dst v') w') : wpList P ops Q (o :: rest) a w :=
  wpList_plain hgd fun _ hK => by
    unfold Oper.wp execOp
    simp only [ho, Sem.run_bind, Sem.run_pure, Result.andThen_ok, List.map_toArray, List.map_cons, List.map_nil, hx, hr]
    exact hK _ _ h
theorem wp_copy_run {P : Program} {o : Oper} {a : Act} {w : World} {K : Act → World → Prop} {Q : Exit → Act → World → Prop} (s x : Operand) (t t' : TypeId)
    (ho : o.op = .call { callee := .builtin .copy, args := #[s, x], argTypes := #[t, t'] }) (v u : Value) (hs : a.eval s = v) (hx : a.eval x = u) {v' : Value} {w' : World}
    (hr : (Builtin.copy_ #[t, t'] o.type #[v, u]).run P w = .ok v' w') (h : K (a.put o.dst v') w') : Oper.wp P o a w K Q := by
  unfold Oper.wp execOp
  simp only [ho, resolve, invoke, builtin, Sem.run_bind, Sem.run_pure, Result.andThen_ok, List.map_toArray, List.map_cons, List.map_nil, hs, hx, hr]
  exact h
set_option maxRecDepth 100000 in
set_option maxHeartbeats 16000000 in
theorem copy_go (w : World) (v : Value) (P : List Pr) (h : InR w v P) (hk : Na.Kc w) (hl : P.length ≤ 64) (hpos : 0 < P.length) :
    Calls Tryd.prog 34 #[v] w (CpR w (cpy [] P)) := by
  obtain ⟨du, hdu, hdr⟩ := under87
  obtain ⟨a, cap, rfl, hq⟩ := h.o
  obtain ⟨g, o, rfl, hq2⟩ := hq hpos
  obtain ⟨n, hn⟩ : ∃ n, P.length = n := ⟨_, rfl⟩
  have HA : Keep (InR w (.slice (some ⟨g, o, none⟩) n cap) P ∧ Na.Kc w ∧ P.length = n ∧ n ≤ 64 ∧ ∀ (j : Nat) (x : Pr), P[j]? = some x → w.cell? ⟨g, o + j * 2, none⟩ = some (.string x.1) ∧ w.cell? ⟨g, o + j * 2 + 1, none⟩ = some (.string x.2)) := ⟨by rw [← hn]; exact h, hk, hn, by omega, hq2⟩
  rw [hn]
  have hn4 : (n : Int) ≤ 64 := by omega
  clear h hk hq hq2 hn hl hpos
  go_enter Tryd.func34, Tryd.ntmps34
  go_wp2_with fail
  go_loopw [4, 15] (fun u4 u wr => ∃ i : Nat, i ≤ n ∧ u = .int .i64 i ∧ Keep (∃ A, cpy [] P = cpy A (P.drop i) ∧ A.length ≤ i ∧ (∀ a ∈ A, a.sc.length = 32) ∧ Sep w wr [rowV 87 33 u4 A.length (acs A)])) (fun _ u _ => (n - intOf u).toNat)
  case atStart => exact ⟨0, by omega, rfl, ⟨[], rfl, Nat.le_refl _, (fun a ha => by cases ha), (Sep.nil w).nilV 87 33⟩⟩
  case round =>
    obtain ⟨i, hi, rfl, hR⟩ := hrel
    obtain ⟨A, hA1, hA2, hA3, S⟩ := hR.out
    by_cases hlt : i < n
    · obtain ⟨x, hx⟩ : ∃ x, P[i]? = some x := ⟨_, List.getElem?_eq_getElem (by rw [HA.out.2.2.1]; exact hlt)⟩
      obtain ⟨y0, y1⟩ := HA.out.2.2.2.2 i x hx
      have y0 := S.g.cell y0 (by simp)
      have y1 := S.g.cell y1 (by simp)
      have hxs := HA.out.1.s x (List.mem_of_getElem? hx)
      have hst := cpy_step (A := A) hx
      obtain ⟨nm, sec⟩ := x
      simp only at y0 y1 hxs
      have S1 := S.newBox #[.string nm, .string sec] 27
      obtain ⟨kb, hkb⟩ : ∃ kb, wr.heap.size = kb := ⟨_, rfl⟩
      obtain ⟨W1, hW1⟩ : ∃ W1, wr.alloc (.cells #[.string nm, .string sec] 27) = W1 := ⟨_, rfl⟩
      rw [hkb, hW1] at S1
      have z0 : W1.cell? ⟨kb, 0, none⟩ = some (.string nm) := (S1.boxGet k0m).cellv 0 _ rfl
      have hF := find_c W1 u4 A nm (S1.acr k1m hA3) (HA.out.2.1.kept S1.g) hxs.1 (by have := HA.out.2.2.2.1; omega)
      have hi0 : (0 : Int) ≤ (i : Int) := by omega
      have hi1 : (i : Int) < (n : Nat) := by omega
      have hti : ((i : Nat) : Int).toNat = i := by omega
      have hwi : IntKind.i64.wrap ((i : Int) + 1) = ((i + 1 : Nat) : Int) := by rw [wi _ (by omega) (by omega)]; omega
      have HI : Keep (i < n ∧ cpy [] P = cpy A (P.drop i) ∧ A.length ≤ i ∧ (∀ a ∈ A, a.sc.length = 32) ∧ nm.size ≤ 281474976710656 ∧ sec.size ≤ 281474976710656 ∧ (cpy A (P.drop i) = match cpyS A (nm, sec) with
        | none => none
        | some B => cpy B (P.drop (i + 1)))) := ⟨hlt, hA1, hA2, hA3, hxs.1, hxs.2, hst⟩
      have HS1 := Keep.mk S1
      clear hR hA1 hA2 hA3 S hx hxs hst S1 hlt hi
      go_wp2_with fail
      refine hF.mono ?_
      rintro e w2 ⟨rfl, g2⟩
      have S2 := HS1.out.grown g2
      have z0 : w2.cell? ⟨kb, 0, none⟩ = some (.string nm) := (S2.boxGet k0m).cellv 0 _ rfl
      have z1 : w2.cell? ⟨kb, 1, none⟩ = some (.string sec) := (S2.boxGet k0m).cellv 1 _ rfl
      have hC := Na.check_c nm w2 HI.out.2.2.2.2.1 (HA.out.2.1.kept S2.g)
      have HS2 := Keep.mk S2
      clear hF HS1 g2 S2 hW1 hkb
      cases hfd : fdI A nm with
      | some q =>
        have HF : Keep (cpy [] P = none) := ⟨by rw [HI.out.2.1, HI.out.2.2.2.2.2.2]; simp [cpyS, hfd]⟩
        clear hC
        simp only [idv]
        go_wp2_with fail
        go_ret2
        rw [HF.out]
        exact ⟨rfl, HS2.out.g⟩
      | none =>
        simp only [idv]
        by_cases hok : Na.chkOK nm = true
        · rw [show Na.chk nm = 0 from if_pos hok] at hC
          go_wp2_with fail
          refine hC.mono ?_
          rintro e w3 ⟨rfl, g3⟩
          have S3 := HS2.out.grown g3
          have z0 : w3.cell? ⟨kb, 0, none⟩ = some (.string nm) := (S3.boxGet k0m).cellv 0 _ rfl
          have z1 : w3.cell? ⟨kb, 1, none⟩ = some (.string sec) := (S3.boxGet k0m).cellv 1 _ rfl
          have HS3 := Keep.mk S3
          clear hC HS2 g3 S3
          by_cases h32 : sec.size = 32
          · have HF : Keep (cpy [] P = cpy (A ++ [⟨nm, Na.sl sec⟩]) (P.drop (i + 1))) := ⟨by rw [HI.out.2.1, HI.out.2.2.2.2.2.2]; simp [cpyS, hfd, hok, h32]⟩
            have H32 := Keep.mk h32
            have hK := Na.clone_c nm w3 HI.out.2.2.2.2.1
            have hs2 : ((sec.size : Nat) : Int) = 32 := by omega
            clear hfd hok h32
            go_wp2_with fail
            refine hK.mono ?_
            rintro e w4 ⟨rfl, g4⟩
            have HS4 := Keep.mk (HS3.out.grown g4)
            clear hK g4 HS3 z0 z1
            go_wp2_with (first
              | (show wpList _ _ _ ({ dst := _, op := Op.store 87 _ _, type := _, pos := _, after := _, guard := _ } :: _) _ _
                 refine store_new _ (z33 nm) 87 rfl rfl rfl rfl rfl (by rw [z33_len]; exact info87) (z33_one nm) ?_))
            intro w6 hS6 g6
            have S6 := hS6 _ _ HS4.out
            obtain ⟨ab, hab⟩ : ∃ ab, w4.heap.size = ab := ⟨_, rfl⟩
            rw [hab] at S6 ⊢
            have HS6 := Keep.mk S6
            clear hS6 g6 S6 hab HS4
            go_wp2_with fail
            have SD := HS6.out.grown (gr_drew w6 none)
            refine wp_region_held_drew (S := fun w => w.cell? ⟨kb, 1, none⟩ = some (.string sec)) (by kernel_rfl) ((SD.boxGet k1m).cellv 1 _ rfl) (fun hHeld => ?_)
            generalize w6.drew = w7 at SD hHeld ⊢
            clear HS6
            refine wpAnyH_take (i := 0) (oi := _) (v := ?_) rfl (by kernel_rfl) (by kernel_rfl) (by kernel_rfl) (fun _ _ _ h => h) (Or.inl ⟨by rfl, ?_⟩) (by assumption) ?_
            rotate_left
            · (intro w hSw; go_simp; first | done | (with_reducible rfl))
            simp only [Act.put, List.getElem_toArray, List.getElem_cons_zero, List.setIfInBounds_toArray, List.set_cons_zero, List.set_cons_succ]
            refine wpAnyH_take (i := 1) (oi := _) (v := ?_) rfl (by kernel_rfl) (by kernel_rfl) (by kernel_rfl) (fun _ _ _ h => h) (Or.inl ⟨by rfl, ?_⟩) (by assumption) ?_
            rotate_left
            · (intro w hSw; go_simp; first | done | (with_reducible rfl))
            simp only [Act.put, List.getElem_toArray, List.getElem_cons_succ, List.getElem_cons_zero, List.setIfInBounds_toArray, List.set_cons_zero, List.set_cons_succ]
            refine wpAnyH_take (i := 2) (oi := _) (v := ?_) rfl (by kernel_rfl) (by kernel_rfl) (by kernel_rfl) (fun _ _ _ h => h) (Or.inl ⟨by rfl, ?_⟩) (by assumption) ?_
            rotate_left
            · (intro w hSw; go_simp; first | done | (with_reducible rfl))
            simp only [Act.put, List.getElem_toArray, List.getElem_cons_succ, List.getElem_cons_zero, List.setIfInBounds_toArray, List.set_cons_zero, List.set_cons_succ]
            refine wpAnyH_take (i := 3) (oi := _) (v := ?_) rfl (by kernel_rfl) (by kernel_rfl) (by kernel_rfl) (fun _ _ _ h => h) (Or.inl ⟨by rfl, ?_⟩) (by assumption) ?_
            rotate_left
            · (intro w hSw; have y1 := hSw; change w.cell? ⟨kb, 1, none⟩ = some (.string sec) at y1; clear hSw; go_simp; first | done | (with_reducible rfl))
            simp only [Act.put, List.getElem_toArray, List.getElem_cons_succ, List.getElem_cons_zero, List.setIfInBounds_toArray, List.set_cons_zero, List.set_cons_succ]
            refine wpAnyH_ready (rs := [4]) (by kernel_rfl) (by simp) ?_
            refine AllReadyH.cons rfl (fun K hK => ?_) AllReadyH.nil
            have hcp := copy_str w7 3 ab 1 32 32 32 sec (by rw [H32.out]; rfl) ((SD.boxGet k0m).there 1 32 (by rw [z33_len]; omega))
            have hbts : ((sl sec).take 32).map bv = (Na.sl sec).map b8 := by
              have : (sl sec).length = 32 := by show sec.data.toList.length = 32; rw [Array.length_toList]; exact H32.out
              rw [List.take_of_length_le (by omega)]
              rfl
            rw [hbts] at hcp
            have hl32 : (Na.sl sec).length = 32 := by show sec.data.toList.length = 32; rw [Array.length_toList]; exact H32.out
            have hov : over (z33 nm) 1 ((Na.sl sec).map b8) = acv ⟨nm, Na.sl sec⟩ := by
              rw [over_eq _ _ _ (by rw [List.length_map, hl32, z33_len]; omega), List.length_map, hl32]
              simp [z33, acv]
            have hH := (SD.boxGet k0m).setCells ((Na.sl sec).map b8) 1
            rw [hov] at hH
            have S8 := SD.boxPuts 1 _ hH
            have HCP := Keep.mk hcp
            have HL32 := Keep.mk hl32
            generalize (w7.setCells ab 1 ((Na.sl sec).map b8)) = w8 at S8 HCP
            have HS8 := Keep.mk S8
            clear SD hcp hbts hl32 hov hH S8
            rw [if_pos (by rfl)]
            refine wp_copy_run _ _ 81 9 rfl _ _ rfl rfl HCP.out ?_
            refine hK.out _ _ ((HS8.out.boxGet k1m).cellv 1 _ rfl) (fun hHeld => ?_)
            clear hK K
            refine wpAnyH_done (by kernel_rfl) ?_ _
            clear hHeld HCP
            obtain ⟨g9, c9, w9, ap, S9⟩ := (fr1 [_, _] HS8.out).acc ⟨nm, Na.sl sec⟩ (by have := HI.out; have := HA.out; omega) HL32.out
            have RNG := Keep.mk (HS8.out.boxGet k0m).range
            have AP := Keep.mk ap
            have HACL := Keep.mk (acv_len ⟨nm, Na.sl sec⟩ HL32.out)
            have S9d : Sep w w9 [rowV 87 33 (.slice (some ⟨g9, 0, none⟩) (A.length + 1) c9) (A ++ [Ac.mk nm (Na.sl sec)]).length (acs (A ++ [Ac.mk nm (Na.sl sec)]))] := Sep.dropM [_] [_, _] S9
            have HS9 : Keep (∃ B, cpy [] P = cpy B (P.drop (i + 1)) ∧ B.length ≤ i + 1 ∧ (∀ a ∈ B, a.sc.length = 32) ∧ Sep w w9 [rowV 87 33 (.slice (some ⟨g9, 0, none⟩) (A.length + 1) c9) B.length (acs B)]) := ⟨A ++ [Ac.mk nm (Na.sl sec)], HF.out, by rw [List.length_append]; have := HI.out; simp; omega, fun a ha => by
              rcases List.mem_append.1 ha with q | q
              · exact HI.out.2.2.2.1 a q
              · rw [List.mem_singleton] at q; subst q; exact HL32.out, S9d⟩
            obtain ⟨cs, hcs⟩ : ∃ cs, acv ⟨nm, Na.sl sec⟩ = cs := ⟨_, rfl⟩
            rw [hcs] at RNG AP HACL
            generalize Value.slice (some ⟨g9, 0, none⟩) (A.length + 1) c9 = v9 at *
            clear S9 S9d ap HS8 HF HL32 H32 hcs
            go_wp2_with (first
              | (show wpList _ _ _ ({ dst := _, op := Op.load 87 _, type := _, pos := _, after := _, guard := _ } :: _) _ _
                 refine wpList_load_mid rfl 87 _ rfl _ _ rfl _ _ RNG.out hdu hdr (by rw [HACL.out]; exact info87) ?_)
              | (show wpList _ _ _ ({ dst := _, op := Op.buildSlice 75 _ _, type := _, pos := _, after := _, guard := _ } :: _) _ _
                 refine wpList_bs_run rfl (.tmp 49) 75 rfl _ rfl (bs_run _ cs HACL.out) ?_)
              | (at_builtin; refine wpList_append_run _ rfl (.tmp 48) (.tmp 50) 75 rfl _ _ rfl rfl AP.out ?_))
            exact ⟨⟨i + 1, by have := HI.out.1; omega, by simp, HS9⟩, by simp only [intOf]; have := HI.out.1; omega⟩
          · have HF : Keep (cpy [] P = none) := ⟨by rw [HI.out.2.1, HI.out.2.2.2.2.2.2]; simp [cpyS, h32]⟩
            have hs2 : ¬ ((sec.size : Nat) : Int) = 32 := by omega
            go_wp2_with fail
            go_ret2
            rw [HF.out]
            exact ⟨rfl, HS3.out.g⟩
        · have HF : Keep (cpy [] P = none) := ⟨by rw [HI.out.2.1, HI.out.2.2.2.2.2.2]; simp [cpyS, hok]⟩
          rw [Na.chk_no hok] at hC
          go_wp2_with fail
          refine hC.mono ?_
          rintro e w3 ⟨rfl, g3⟩
          have HG3 := Keep.mk (HS2.out.g.trans g3)
          clear hC g3
          go_wp2_with fail
          go_ret2
          rw [HF.out]
          exact ⟨rfl, HG3.out⟩
    · obtain rfl : i = n := by omega
      have HF : Keep (cpy [] P = some A) := ⟨by rw [hA1, List.drop_of_length_le (by rw [HA.out.2.2.1]; exact Nat.le_refl _)]; rfl⟩
      have HS := Keep.mk S
      have HA3 : Keep ((∀ a ∈ A, a.sc.length = 32) ∧ A.length ≤ 64) := ⟨hA3, by have := HA.out.2.2.2.1; omega⟩
      clear hR hA1 hA2 hA3 S hlt hi
      go_wp2_with fail
      go_ret2
      rw [HF.out]
      exact ⟨HA3.out.1, HA3.out.2, _, rfl, HS.out⟩
set_option maxRecDepth 100000 in
set_option maxHeartbeats 4000000 in
theorem copy_nil (w : World) (v : Value) (h : InR w v []) : Calls Tryd.prog 34 #[v] w (CpR w (some [])) := by
  obtain ⟨a, cap, rfl, _⟩ := h.o
  have HS : Keep (Sep w w [rowV 87 33 (.slice none 0 0) 0 []]) := ⟨(Sep.nil w).nilV 87 33⟩
  clear h
  rw [show ([] : List Pr).length = 0 from rfl]
  go_enter Tryd.func34, Tryd.ntmps34
  go_wp2_with fail
  go_loopw [4, 15] (fun u4 u wr => u = .int .i64 0 ∧ u4 = .slice none 0 0 ∧ Keep (Sep w wr [rowV 87 33 (.slice none 0 0) 0 []])) (fun _ _ _ => 0)
  case atStart => exact ⟨rfl, rfl, HS⟩
  case round =>
    obtain ⟨rfl, rfl, hR⟩ := hrel
    go_wp2_with fail
    go_ret2
    exact ⟨(fun a ha => by cases ha), Nat.zero_le _, _, rfl, hR.out⟩
set_option maxHeartbeats 4000000 in
theorem copy_many (w : World) (v : Value) (P : List Pr) (h : InR w v P) (hl : 64 < P.length) : Calls Tryd.prog 34 #[v] w (CpR w none) := by
  obtain ⟨a, cap, rfl, _⟩ := h.o
  have hl2 : (64 : Int) < (P.length : Nat) := by omega
  clear h hl
  go_enter Tryd.func34, Tryd.ntmps34
  go_wp2_with fail
  go_ret2
  exact ⟨rfl, World.grownBy.refl _ _⟩
/-- what accounts come of what is handed in -/
def cpyL (P : List Pr) : Option (List Ac) := if 64 < P.length then none else cpy [] P
theorem copy_c (w : World) (v : Value) (P : List Pr) (h : InR w v P) (hk : Na.Kc w) : Calls Tryd.prog 34 #[v] w (CpR w (cpyL P)) := by
  unfold cpyL
  by_cases hl : 64 < P.length
  · rw [if_pos hl]; exact copy_many w v P h hl
  · rw [if_neg hl]
    by_cases hp : 0 < P.length
    · exact copy_go w v P h hk (by omega) hp
    · have e : P = [] := List.eq_nil_of_length_eq_zero (by omega)
      subst e
      exact copy_nil w v h
end Go.Proofs.YtplcicbpkbamnaaDoor.Lo

/- strings and their bytes -/
namespace Go.Proofs.YtplcicbpkbamnaaDoor
open Go Go.RowKit

set_option maxRecDepth 100000 in
theorem under5 : Tryd.prog.underlying 5 = some (.int .u8) := by kernel_rfl
set_option maxRecDepth 100000 in
theorem under9 : Tryd.prog.underlying 9 = some .string := by kernel_rfl
theorem beqL (a b : ByteArray) : (a.toList == b.toList) = decide (sl a = sl b) := by
  rw [ByteArray.toList_eq, ByteArray.toList_eq]
  by_cases h : sl a = sl b
  · rw [decide_eq_true h]; unfold sl at h; rw [h]; simp
  · rw [decide_eq_false h]; unfold sl at h; simpa using h
theorem addS (a b : ByteArray) (h : a.size + b.size ≤ 9223372036854775807) (W : World) : (Op.stringOp .add a b).run Tryd.prog W = .ok (.string (a ++ b)) W := by
  simp only [Op.stringOp]
  rw [if_neg (by have : IntKind.i64.max = 9223372036854775807 := by decide
                 omega)]
  rfl
/-- '[]byte(s)' -/
theorem cvt (s : ByteArray) (W : World) : (convert 9 81 (.string s)).run Tryd.prog W = .ok (.slice (some ⟨W.heap.size, 0, none⟩) s.size (grownCap W s.size 0 5)) (Lib.bytesWorld W 5 s) :=
  Lib.run_convert_string_bytes (P := Tryd.prog) W 9 81 5 s (u := .string) under9 under28 under5
theorem gr_bytes (W : World) (s : ByteArray) : W.grownBy (Lib.bytesWorld W 5 s) none :=
  ⟨rfl, rfl, rfl, by rw [Lib.bytesWorld_size]; omega, fun k hk _ => Lib.bytesWorld_at_old _ _ _ _ hk⟩
theorem bytes_cells (W : World) (s : ByteArray) (j : Nat) (x : UInt8) (hx : (sl s)[j]? = some x) : (Lib.bytesWorld W 5 s).cell? ⟨W.heap.size, j, none⟩ = some (bv x) := by
  have hj : j < s.size := by rw [← sl_len]; exact (List.getElem?_eq_some_iff.1 hx).1
  rw [Lib.bytesWorld_cell _ _ _ j hj]
  unfold sl at hx
  simp [List.getD, hx]
theorem bytes_of (W : World) (s : ByteArray) (c : Nat) (hc : s.size ≤ c) : BytesOf (Lib.bytesWorld W 5 s) (some ⟨W.heap.size, 0, none⟩) s.size c (sl s) :=
  ⟨sl_len s, hc, fun _ => ⟨_, 0, rfl, fun j x hx => by rw [Nat.zero_add]; exact bytes_cells W s j x hx⟩⟩
/-- 'string(b)' -/
theorem cvt_back (w : World) (a : Option Addr) (n c : Nat) (q : List UInt8) (h : BytesOf w a n c q) (ha : a ≠ none) : (convert 81 9 (.slice a n c)).run Tryd.prog w = .ok (.string ⟨q.toArray⟩) w := by
  have key : ∀ ad : Addr, (∀ j x, q[j]? = some x → w.cell? (ad.add j) = some (bv x)) → (convert 81 9 (.slice (some ad) n c)).run Tryd.prog w = .ok (.string ⟨q.toArray⟩) w := fun ad hc => by
    have := run_convert_bytes_back (P := Tryd.prog) w 81 9 5 ad c q under28 under5 under9 (fun j hj => hc j _ (List.getElem?_eq_getElem hj))
    rw [h.len] at this
    exact this
  cases a with
  | none => exact absurd rfl ha
  | some ad =>
    refine key ad fun j x hx => ?_
    have hn : 0 < n := by rw [← h.len]; have := (List.getElem?_eq_some_iff.1 hx).1; omega
    obtain ⟨B, o, e, h3⟩ := h.at_ hn
    obtain rfl := Option.some.inj e
    rw [Addr.add_mid]; exact h3 j x hx
theorem sl_back (s : ByteArray) : (⟨(sl s).toArray⟩ : ByteArray) = s := by
  apply ByteArray.ext; simp [sl]
theorem cvt_cvt (s : ByteArray) (W : World) (c : Nat) (hc : s.size ≤ c) : (convert 81 9 (.slice (some ⟨W.heap.size, 0, none⟩) s.size c)).run Tryd.prog (Lib.bytesWorld W 5 s) = .ok (.string s) (Lib.bytesWorld W 5 s) := by
  have := cvt_back _ _ _ _ _ (bytes_of W s c hc) (by simp)
  rwa [sl_back] at this
end Go.Proofs.YtplcicbpkbamnaaDoor

/- bucket: full, check, Take, Left, Ticks, Tick, New. -/
namespace Go.Proofs.YtplcicbpkbamnaaDoor.Lo.Bu
open Go Go.RowKit

abbrev bks (r u h : Int) : List Value := [.int .i64 r, .int .i64 u, .int .i64 h]
/-- the bucket at place o of block kb -/
structure BK (w : World) (kb o : Nat) (cs : List Value) (r u h : Int) : Prop where
  has : Has w kb cs 97
  c0 : cs[o]? = some (.int .i64 r)
  c1 : cs[o + 1]? = some (.int .i64 u)
  c2 : cs[o + 2]? = some (.int .i64 h)
  r0 : 0 ≤ r
  r1 : r ≤ 1000
  u0 : 1 ≤ u
  u1 : u ≤ 1000
  h0 : 0 ≤ h
  h1 : h ≤ 16 * u
set_option maxRecDepth 100000 in
theorem wi (x : Int) (h : -9223372036854775808 ≤ x) (h2 : x ≤ 9223372036854775807) : IntKind.i64.wrap x = x := by
  rw [IntKind.wrap_i64]; omega
set_option maxRecDepth 100000 in
theorem set_same {cs : List Value} {i : Nat} {v : Value} (h : cs[i]? = some v) : cs.set i v = cs := by
  obtain ⟨hi, e⟩ := List.getElem?_eq_some_iff.1 h
  rw [← e]; exact List.set_getElem_self hi
/-- what is there behind n ticks -/
def tk (r u h : Int) (n : Int) : Int := min (h + r * min n 16000) (16 * u)
def took (h : Int) : Int := if h < 16 then h else h - 16
def tcode (h : Int) : Int := if h < 16 then 80 else 0
set_option maxRecDepth 100000 in
theorem tk_lo {r u h n : Int} (hr : 0 ≤ r) (hu : 1 ≤ u) (hh : 0 ≤ h) (hn : 0 ≤ n) : 0 ≤ tk r u h n := by
  have : 0 ≤ r * min n 16000 := Int.mul_nonneg hr (by omega)
  unfold tk; omega
set_option maxRecDepth 100000 in
theorem tk_hi {r u h n : Int} : tk r u h n ≤ 16 * u := by unfold tk; omega

set_option maxRecDepth 100000 in
theorem full_c (r u h : Int) (w : World) (hu : 1 ≤ u) (hu1 : u ≤ 1000) :
    Calls Tryd.prog 58 #[.agg #[.int .i64 r, .int .i64 u, .int .i64 h]] w fun e w' => e = .returned (.int .i64 (16 * u)) ∧ w.grownBy w' none := by
  have hw : IntKind.i64.wrap (16 * u) = 16 * u := wi _ (by omega) (by omega)
  go_enter Tryd.func58, Tryd.ntmps58
  go_wp2_with fail
  go_ret
  exact ⟨rfl, World.grownBy_alloc _ _ _⟩
set_option maxRecDepth 100000 in
theorem check_yes (r u : Int) (w : World) (h0 : 0 ≤ r) (h1 : r ≤ 1000) (h2 : 1 ≤ u) (h3 : u ≤ 1000) :
    Calls Tryd.prog 57 #[.int .i64 r, .int .i64 u] w fun e w' => e = .returned (.int .i64 0) ∧ w' = w := by
  have g0 : ¬ (r < 0) := by omega
  have g1 : ¬ (1000 < r) := by omega
  have g2 : ¬ (u < 1) := by omega
  have g3 : ¬ (1000 < u) := by omega
  go_enter Tryd.func57, Tryd.ntmps57
  go_wp2_with fail
  go_ret
  exact ⟨rfl, rfl⟩
set_option maxRecDepth 100000 in
theorem check_no (r u : Int) (w : World) (h : ¬ (0 ≤ r ∧ r ≤ 1000 ∧ 1 ≤ u ∧ u ≤ 1000)) :
    Calls Tryd.prog 57 #[.int .i64 r, .int .i64 u] w fun e w' => e = .returned (.int .i64 110) ∧ w' = w := by
  go_enter Tryd.func57, Tryd.ntmps57
  by_cases h0 : r < 0
  · go_wp2_with fail
    go_ret
    exact ⟨rfl, rfl⟩
  by_cases h1 : 1000 < r
  · go_wp2_with fail
    go_ret
    exact ⟨rfl, rfl⟩
  by_cases h2 : u < 1
  · go_wp2_with fail
    go_ret
    exact ⟨rfl, rfl⟩
  have h3 : 1000 < u := by omega
  go_wp2_with fail
  go_ret
  exact ⟨rfl, rfl⟩
set_option maxRecDepth 100000 in
theorem left_c (kb o : Nat) (cs : List Value) (r u h : Int) (w : World) (b : BK w kb o cs r u h) :
    Calls Tryd.prog 49 #[.pointer (some ⟨kb, o, none⟩)] w fun e w' => e = .returned (.int .i64 (h / 16)) ∧ w' = w := by
  have h2 : w.cell? ⟨kb, o + 2, none⟩ = some (.int .i64 h) := b.has.cellv (o + 2) _ b.c2
  have hr : h.tdiv 16 = h / 16 := Int.tdiv_eq_ediv_of_nonneg b.h0
  have hw : IntKind.i64.wrap (h / 16) = h / 16 := by have := b.h0; have := b.h1; have := b.u1; exact wi _ (by omega) (by omega)
  clear b
  go_enter Tryd.func49, Tryd.ntmps49
  go_wp2_with fail
  go_ret
  exact ⟨rfl, rfl⟩
set_option maxRecDepth 100000 in
theorem take_c (kb o : Nat) (cs : List Value) (r u h : Int) (w : World) (b : BK w kb o cs r u h) :
    Calls Tryd.prog 68 #[.pointer (some ⟨kb, o, none⟩)] w fun e w' => e = .returned (.int .i64 (tcode h)) ∧ Has w' kb (cs.set (o + 2) (.int .i64 (took h))) 97 ∧ w.grownBy w' (some kb) := by
  have h2 : w.cell? ⟨kb, o + 2, none⟩ = some (.int .i64 h) := b.has.cellv (o + 2) _ b.c2
  have hz : w.frozen? ⟨kb, o + 2, none⟩ = false := b.has.frozen (o + 2)
  have hw : IntKind.i64.wrap (h - 16) = h - 16 := by have := b.h0; have := b.h1; have := b.u1; exact wi _ (by omega) (by omega)
  have b1 := b.has.setCell (o + 2) (.int .i64 (h - 16))
  have HB : Keep (BK w kb o cs r u h) := ⟨b⟩
  clear b
  by_cases h16 : h < 16
  · go_enter Tryd.func68, Tryd.ntmps68
    go_wp2_with fail
    go_ret
    refine ⟨by simp [tcode, h16], ?_, World.grownBy.refl _ _⟩
    have e : took h = h := by simp [took, h16]
    rw [e, set_same HB.out.c2]
    exact HB.out.has
  · go_enter Tryd.func68, Tryd.ntmps68
    go_wp2_with fail
    go_ret
    clear HB
    refine ⟨by simp [tcode]; omega, ?_, gr_set _ _ _ _⟩
    have e : took h = h - 16 := by unfold took; rw [if_neg (by omega)]
    rw [e]
    exact b1
end Go.Proofs.YtplcicbpkbamnaaDoor.Lo.Bu

