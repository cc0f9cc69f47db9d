/- lent, kept -/
import Derived.Test.YtmacmoikjgmaoaaDoorHA
namespace Go.Proofs.YtmacmoikjgmaoaaDoor.Bo
open Go Go.RowKit

def m77 : Cr := zC (-77) ⟨#[]⟩
def m78 : Cr := zC (-78) ⟨#[]⟩
theorem m77_ok : CrOk m77 := by constructor <;> first | decide | exact ⟨by decide, by decide⟩
theorem m78_ok : CrOk m78 := by constructor <;> first | decide | exact ⟨by decide, by decide⟩
/-- things that lie elsewhere are laid behind a row of the call's own -/
theorem Sep.appA {w0 W : World} {l : List As} {v : Value} {M : List Cr} (h : Sep w0 W (crow v M :: l)) (a : Addr) (m k : Nat) (B : List Cr) (hB : B.length = m) (hnews : ∀ (j : Nat) u, (crs B)[j]? = some u → W.cell? (a.add j) = some u) (hn : M.length + m ≤ 10000000) :
    ∃ v' W', (Builtin.append_ #[22, 22] 22 #[v, .slice (some a) m k]).run Tryd.prog W = .ok v' W' ∧ Sep w0 W' (crow v' (M ++ B) :: l) := by
  obtain ⟨i, i1, i2, i3, i4⟩ := info38b
  obtain ⟨F, ⟨ho, rfl⟩, _, hu⟩ := h.use
  obtain ⟨v', w', r1, r2, r3, _, r5⟩ := run_append_own_at (P := Tryd.prog) W 0 22 22 38 i (.agg zC14.toArray) 14 120 under22 i1 i4 i2 i3 rfl (by decide) v M.length (crs M) ho a m k (crs B) (by rw [crs_len, hB]) hnews (crs_one B) (by unfold maxLen; omega) (by omega) (Nat.zero_le _)
  refine ⟨v', w', r1, hu w' [_] ((Fr.of r3).mono (fun i hi => .inl hi)) (Loc.one (a := crow _ _) _ ⟨?_, rfl⟩ (fun i hi => ?_))⟩
  · rw [crs_app, List.length_append, hB]; exact r2
  · rcases r5 with q | q
    · exact .inl (by rw [← q]; exact hi)
    · rw [q] at hi
      injection hi with e
      exact .inr (by omega)
set_option maxRecDepth 100000 in
theorem bs_car2 (w : World) : ∀ (cs ds : List Value), cs.length = 14 → ds.length = 14 → (Instr.buildSlice 22 2 #[(0, .agg cs.toArray), (1, .agg ds.toArray)]).run Tryd.prog w = .ok (.slice (some ⟨w.heap.size, 0, none⟩) 2 2) (w.alloc (.cells (cs ++ ds).toArray 38))
  | c0 :: c1 :: c2 :: c3 :: c4 :: c5 :: c6 :: c7 :: c8 :: c9 :: c10 :: c11 :: c12 :: c13 :: [], d0 :: d1 :: d2 :: d3 :: d4 :: d5 :: d6 :: d7 :: d8 :: d9 :: d10 :: d11 :: d12 :: d13 :: [], _, _ => by kernel_rfl
theorem wpList_bs2 {P : Program} {w : World} {ops : Array Oper} {rest : List Oper} {o : Oper} {a : Act} {Q : Exit → Act → World → Prop} (hgd : o.guard = none) (x y : Operand) (t : TypeId)
    (ho : o.op = .buildSlice t 2 #[(0, x), (1, y)]) (v u : Value) (hx : a.eval x = v) (hy : a.eval y = u) {v' : Value} {w' : World}
    (hr : (Instr.buildSlice t 2 #[(0, v), (1, u)]).run P w = .ok v' w') (h : wpList P ops Q rest (a.put o.dst v') w') : wpList P ops Q (o :: rest) a w :=
  wpList_plain hgd fun _ hK => by
    unfold Oper.wp execOp
    simp only [ho, Sem.run_bind, Sem.run_pure, Result.andThen_ok, List.map_toArray, List.map_cons, List.map_nil, hx, hy, hr]
    exact hK _ _ h
set_option maxRecDepth 100000 in
theorem built38m : Tryd.prog.built 38 [(0, iv (-77))] = some (crv m77).toArray := by kernel_rfl
set_option maxRecDepth 100000 in
theorem built38n : Tryd.prog.built 38 [(0, iv (-78))] = some (crv m78).toArray := by kernel_rfl
theorem crs_nil2 : crs [] = [] := rfl
set_option maxRecDepth 100000 in
set_option maxHeartbeats 8000000 in
theorem lent_c (w : World) (cv : Value) (cs : List Cr) (hC : Crs w cv cs) (hz : cv = .slice none 0 0 ∨ ∃ a n c, cv = .slice (some a) n c) (hn : cs.length ≤ 1048576) :
    Calls Tryd.prog 22 #[cv] w fun e w' => ∃ g q, e = .returned (.slice (some ⟨g, 0, none⟩) (cs.length + 2) q) ∧ w.grownBy w' none ∧ cs.length + 2 ≤ q ∧ ∀ (j : Nat) x, (cs ++ [m77, m78])[j]? = some x → w'.rangeAt g (j * 14) (crv x) := by
  have S0 : Sep w w [crow (.slice none 0 0) []] := (Sep.nil w).nilV 38 14
  obtain ⟨v1, W1, r1, s1⟩ : ∃ v1 W1, (Builtin.append_ #[22, 22] 22 #[.slice none 0 0, cv]).run Tryd.prog w = .ok v1 W1 ∧ Sep w W1 [crow v1 cs] := by
    obtain ⟨a0, cap, e, hq⟩ := hC.o
    rcases hz with e2 | ⟨a, n, c, e2⟩
    · rw [e2] at e
      injection e with _ e3
      have hnil : cs = [] := List.eq_nil_of_length_eq_zero e3.symm
      obtain ⟨i, i1, _⟩ := info38b
      have := run_append_owned_none (P := Tryd.prog) (w := w) 0 22 22 38 i 14 under22 i1 _ _ _ (S0.rowGet k0m)
      rw [e2, hnil]
      exact ⟨_, _, this, S0⟩
    · rw [e2] at e
      injection e with e3 e4 e5
      obtain ⟨v', W', q1, q2⟩ := S0.appA a n c cs e4.symm (fun j u hu => by
        have hl : 0 < cs.length := by
          have := (List.getElem?_eq_some_iff.1 hu).1
          rw [crs_len] at this
          omega
        obtain ⟨g, o, eg, hcl⟩ := hq hl
        rw [← e3] at eg
        injection eg with eg
        subst eg
        have hj : j < cs.length * 14 := by have := (List.getElem?_eq_some_iff.1 hu).1; rwa [crs_len] at this
        have hx : j / 14 < cs.length := by omega
        have hr : j % 14 < (crv cs[j / 14]).length := by rw [crv_len]; omega
        have h1 := hcl (j / 14) _ (List.getElem?_eq_getElem hx) (j % 14) _ (List.getElem?_eq_getElem hr)
        have h2 := crs_get cs (j / 14) _ (j % 14) _ (List.getElem?_eq_getElem hx) (List.getElem?_eq_getElem hr)
        rw [show j / 14 * 14 + j % 14 = j by omega] at h2
        rw [h2] at hu
        cases hu
        rw [Addr.add_mid, ← h1]
        congr 2
        omega) (by simp; omega)
      rw [e2]
      exact ⟨v', W', q1, by simpa using q2⟩
  have hh := Has.newA W1 (crv m77 ++ crv m78).toArray 38
  have s1' := s1.grown (World.grownBy_alloc W1 (.cells (crv m77 ++ crv m78).toArray 38) none)
  obtain ⟨v2, W2, r2, s2⟩ := s1'.appA ⟨W1.heap.size, 0, none⟩ 2 2 [m77, m78] rfl (fun j u hu => by
    rw [Addr.add_mid, Nat.zero_add]
    exact hh.cellv j u (by simpa [crs] using hu)) (by omega)
  obtain ⟨g, q, ev2, hcells⟩ := own_any (s2.rowGet (show rowV 38 14 _ _ _ ∈ _ from k0m)) (by simp)
  have hq : cs.length + 2 ≤ q := by
    obtain ⟨_, h2⟩ := s2.rowGet (show rowV 38 14 _ _ _ ∈ _ from k0m)
    rcases h2 with ⟨e, _⟩ | ⟨g', cap', cur, e, _, _, hc, _⟩
    · rw [e] at ev2; cases ev2
    · rw [e] at ev2
      injection ev2 with _ _ e3
      rw [← e3]
      simpa using hc
  have hlen : (cs ++ [m77, m78]).length = cs.length + 2 := by simp
  rw [hlen] at ev2
  subst ev2
  have HR1 := Keep.mk r1
  have HR2 := Keep.mk r2
  have HB1 := Keep.mk built38m
  have HB2 := Keep.mk built38n
  have HF : Keep (w.grownBy W2 none ∧ cs.length + 2 ≤ q ∧ ∀ (j : Nat) x, (cs ++ [m77, m78])[j]? = some x → W2.rangeAt g (j * 14) (crv x)) := ⟨s2.g, hq, fun j x hx r u hu => (hcells _ _ (crs_get _ j x r u hx hu)).1⟩
  clear r1 r2 s1 s1' s2 S0 hcells hq hh hC hz hn hlen
  go_enter Tryd.func22, Tryd.ntmps22
  go_wp2_with (first
    | (show wpList _ _ _ ({ dst := _, op := Op.build 38 #[(0, Operand.const (Value.int IntKind.i64 (-77)))], type := _, pos := _, after := _, guard := _ } :: _) _ _
       refine build_g (by rfl) 38 _ rfl _ ((congrArg (Tryd.prog.built 38) (by simp only [List.map_toArray, List.map_cons, List.map_nil]; rfl)).trans HB1.out) ?_)
    | (show wpList _ _ _ ({ dst := _, op := Op.build 38 #[(0, Operand.const (Value.int IntKind.i64 (-78)))], type := _, pos := _, after := _, guard := _ } :: _) _ _
       refine build_g (by rfl) 38 _ rfl _ ((congrArg (Tryd.prog.built 38) (by simp only [List.map_toArray, List.map_cons, List.map_nil]; rfl)).trans HB2.out) ?_)
    | (show wpList _ _ _ ({ dst := _, op := Op.buildSlice 22 _ _, type := _, pos := _, after := _, guard := _ } :: _) _ _
       refine wpList_bs2 rfl (.tmp 8) (.tmp 9) 22 rfl _ _ rfl rfl (bs_car2 _ (crv m77) (crv m78) rfl rfl) ?_)
    | (at_builtin; refine wpList_append_run _ rfl (.tmp 4) (.tmp 5) 22 rfl _ _ rfl rfl HR1.out ?_)
    | (at_builtin; refine wpList_append_run _ rfl (.tmp 7) (.tmp 10) 22 rfl _ _ rfl rfl HR2.out ?_))
  go_ret
  exact ⟨g, q, rfl, HF.out⟩
set_option maxRecDepth 100000 in
set_option maxHeartbeats 16000000 in
theorem kept_c (w : World) (cv : Value) (cs : List Cr) (g q : Nat) (hC : Crs w cv cs) (hl : ∀ (j : Nat) x, (cs ++ [m77, m78])[j]? = some x → w.rangeAt g (j * 14) (crv x)) (hn : cs.length ≤ 1048576) :
    Calls Tryd.prog 24 #[.slice (some ⟨g, 0, none⟩) (cs.length + 2) q, cv] w fun e w' => e = .returned (.bool true) ∧ w.grownBy w' none := by
  obtain ⟨du, hdu, hdr⟩ := underC
  have HC := Keep.mk hC
  have HL := Keep.mk hl
  obtain ⟨a0, cap, rfl, _⟩ := hC.o
  clear hC hl
  obtain ⟨n, hnn⟩ : ∃ n, cs.length = n := ⟨_, rfl⟩
  rw [hnn] at hn HC
  rw [hnn]
  have HNN := Keep.mk hnn
  clear hnn
  obtain ⟨n2, hn2⟩ : ∃ n2, n + 2 = n2 := ⟨_, rfl⟩
  rw [hn2]
  have HN2 := Keep.mk hn2
  clear hn2
  have HG : Keep (w.grownBy w none) := ⟨World.grownBy.refl w _⟩
  go_enter Tryd.func24, Tryd.ntmps24
  go_wp2_with fail
  go_loopw [5] (fun u wr => ∃ i : Nat, i ≤ n ∧ u = iv i ∧ Keep (w.grownBy wr none)) (fun u _ => (n - intOf u).toNat)
  case atStart => exact ⟨0, by omega, rfl, HG⟩
  case round =>
    obtain ⟨i, hin0, rfl, HB⟩ := hrel
    clear HG
    by_cases hin : i < n
    · have hii : (i : Int) < (n : Int) := by omega
      have hi2 : (i : Int) < (n2 : Int) := by have := HN2.out; omega
      have hdi : decide ((i : Int) < (n : Int)) = true := decide_eq_true hii
      have hdi' : decide (i < n) = true := decide_eq_true hin
      have hti : ((i : Nat) : Int).toNat = i := by omega
      have hi1 : IntKind.i64.wrap ((i : Int) + 1) = ((i + 1 : Nat) : Int) := by rw [wi _ (by omega) (by omega)]; omega
      obtain ⟨ci, hci⟩ : ∃ ci, cs[i]? = some ci := ⟨_, List.getElem?_eq_getElem (by rw [HNN.out]; exact hin)⟩
      obtain ⟨a1, cap1, ea, hcells⟩ := HC.out.o
      obtain ⟨gc, oc, eg, hcl⟩ := hcells (by rw [HNN.out]; omega)
      injection ea with ea1 ea2 ea3
      subst ea1
      subst eg
      have HIR : Keep (∀ W, w.grownBy W none → W.rangeAt gc (oc + i * 14) (crv ci)) := ⟨fun W gW j v hv => gW.cell (hcl i ci hci j v hv) (by simp)⟩
      have HLR : Keep (∀ W, w.grownBy W none → W.rangeAt g (i * 14) (crv ci)) := ⟨fun W gW j v hv => gW.cell (by exact HL.out i ci (by rw [List.getElem?_append_left (List.getElem?_eq_some_iff.1 hci).1]; exact hci) j v hv) (by simp)⟩
      have hEC := fun w => eq32 ci w
      clear ea2 ea3 hcells hcl hci
      go_wp2_with fail
      refine region_X (S := fun w' => w.grownBy w' none) [] (by kernel_rfl) (HB.out.trans (gr_drew _ _)) (fun hHeld => ?_)
      replace HB := Keep.mk hHeld
      obtain ⟨W0, hW0⟩ : ∃ W_, wr.drew = W_ := ⟨_, rfl⟩
      rw [hW0] at HB hHeld ⊢
      clear hW0
      refine wpAnyX_take (i := 0) (oi := _) (v := ?_) rfl (by kernel_rfl) (by kernel_rfl) (by kernel_rfl) (by kernel_rfl) (by kernel_rfl) (fun _ _ _ h => h) (Or.inl ⟨by rfl, ?_⟩) (by assumption) ?_
      rotate_left
      · (intro w hSw; go_simp; first | done | (with_reducible rfl))
      simp only [Act.put, List.getElem_toArray, List.getElem_cons_zero, List.setIfInBounds_toArray, List.set_cons_zero, List.set_cons_succ]
      refine wpAnyX_take (i := 1) (oi := _) (v := ?_) rfl (by kernel_rfl) (by kernel_rfl) (by kernel_rfl) (by kernel_rfl) (by kernel_rfl) (fun _ _ _ h => h) (Or.inl ⟨by rfl, ?_⟩) (by assumption) ?_
      rotate_left
      · (intro w hSw; go_simp; first | done | (with_reducible rfl))
      simp only [Act.put, List.getElem_toArray, List.getElem_cons_succ, List.getElem_cons_zero, List.setIfInBounds_toArray, List.set_cons_zero, List.set_cons_succ]
      refine wpAnyX_take (i := 2) (oi := _) (v := ?_) rfl (by kernel_rfl) (by kernel_rfl) (by kernel_rfl) (by kernel_rfl) (by kernel_rfl) (fun _ _ _ h => h) (Or.inl ⟨by rfl, ?_⟩) (by assumption) ?_
      rotate_left
      · (intro w hSw; go_simp; first | done | (with_reducible rfl))
      simp only [Act.put, List.getElem_toArray, List.getElem_cons_succ, List.getElem_cons_zero, List.setIfInBounds_toArray, List.set_cons_zero, List.set_cons_succ]
      refine wpAnyX_take (i := 3) (oi := _) (v := _) rfl (by kernel_rfl) (by kernel_rfl) (by kernel_rfl) (by kernel_rfl) (by kernel_rfl) (fun _ _ _ h => h) (yieldsIf_load_mid (by rfl) 38 _ rfl _ _ rfl _ _ (fun w_ hS_ => HLR.out w_ hS_) hdu hdr (infoC' ci)) (by assumption) ?_
      simp only [Act.put, List.getElem_toArray, List.getElem_cons_succ, List.getElem_cons_zero, List.setIfInBounds_toArray, List.set_cons_zero, List.set_cons_succ]
      refine wpAnyX_take (i := 4) (oi := _) (v := ?_) rfl (by kernel_rfl) (by kernel_rfl) (by kernel_rfl) (by kernel_rfl) (by kernel_rfl) (fun _ _ _ h => h) (Or.inl ⟨by rfl, ?_⟩) (by assumption) ?_
      rotate_left
      · (intro w hSw; go_simp; first | done | (with_reducible rfl))
      simp only [Act.put, List.getElem_toArray, List.getElem_cons_succ, List.getElem_cons_zero, List.setIfInBounds_toArray, List.set_cons_zero, List.set_cons_succ]
      refine wpAnyX_take (i := 5) (oi := _) (v := ?_) rfl (by kernel_rfl) (by kernel_rfl) (by kernel_rfl) (by kernel_rfl) (by kernel_rfl) (fun _ _ _ h => h) (Or.inl ⟨by rfl, ?_⟩) (by assumption) ?_
      rotate_left
      · (intro w hSw; go_simp; first | done | (with_reducible rfl))
      simp only [Act.put, List.getElem_toArray, List.getElem_cons_succ, List.getElem_cons_zero, List.setIfInBounds_toArray, List.set_cons_zero, List.set_cons_succ]
      refine wpAnyX_take (i := 6) (oi := _) (v := ?_) rfl (by kernel_rfl) (by kernel_rfl) (by kernel_rfl) (by kernel_rfl) (by kernel_rfl) (fun _ _ _ h => h) (Or.inl ⟨by rfl, ?_⟩) (by assumption) ?_
      rotate_left
      · (intro w hSw; go_simp; first | done | (with_reducible rfl))
      simp only [Act.put, List.getElem_toArray, List.getElem_cons_succ, List.getElem_cons_zero, List.setIfInBounds_toArray, List.set_cons_zero, List.set_cons_succ]
      refine wpAnyX_take (i := 7) (oi := _) (v := _) rfl (by kernel_rfl) (by kernel_rfl) (by kernel_rfl) (by kernel_rfl) (by kernel_rfl) (fun _ _ _ h => h) (yieldsIf_load_mid (by rfl) 38 _ rfl _ _ rfl _ _ (fun w_ hS_ => HIR.out w_ hS_) hdu hdr (infoC' ci)) (by assumption) ?_
      simp only [Act.put, List.getElem_toArray, List.getElem_cons_succ, List.getElem_cons_zero, List.setIfInBounds_toArray, List.set_cons_zero, List.set_cons_succ]
      refine wpAnyX_take (i := 8) (oi := _) (v := ?_) rfl (by kernel_rfl) (by kernel_rfl) (by kernel_rfl) (by kernel_rfl) (by kernel_rfl) (fun _ _ _ h => h) (Or.inl ⟨by rfl, ?_⟩) (by assumption) ?_
      rotate_left
      · (intro w hSw; have q0 := hEC; go_simp; first | done | (with_reducible rfl))
      simp only [Act.put, List.getElem_toArray, List.getElem_cons_succ, List.getElem_cons_zero, List.setIfInBounds_toArray, List.set_cons_zero, List.set_cons_succ]
      refine wpAnyX_done (by kernel_rfl) ?_ _
      clear hHeld
      go_wp2_with fail
      go_roundw
      case rel => exact ⟨i + 1, by omega, rfl, HB⟩
      case measure => simp [intOf]; omega
    · obtain rfl : i = n := by omega
      have hdi : decide ((i : Int) < (i : Int)) = false := decide_eq_false (by omega)
      have hi0 : (i : Int) < (n2 : Int) := by have := HN2.out; omega
      have hi3 : ((i : Int) + 1) < (n2 : Int) := by have := HN2.out; omega
      have hw2 : IntKind.i64.wrap ((i : Int) + 2) = (n2 : Int) := by rw [wi _ (by omega) (by omega)]; have := HN2.out; omega
      have hw1 : IntKind.i64.wrap ((i : Int) + 1) = (i : Int) + 1 := wi _ (by omega) (by omega)
      have ht0 : ((i : Nat) : Int).toNat = i := by omega
      have ht1 : ((i : Int) + 1).toNat = i + 1 := by omega
      have RA : Keep (wr.rangeAt g (i * 14) (crv m77)) := ⟨fun j v hv => HB.out.cell (by exact HL.out i m77 (by rw [List.getElem?_append_right (by rw [HNN.out]; exact Nat.le_refl _), HNN.out, Nat.sub_self]; rfl) j v hv) (by simp)⟩
      have RB2 : Keep (wr.rangeAt g ((i + 1) * 14) (crv m78)) := ⟨fun j v hv => HB.out.cell (by exact HL.out (i + 1) m78 (by rw [List.getElem?_append_right (by rw [HNN.out]; omega), HNN.out, show i + 1 - i = 1 by omega]; rfl) j v hv) (by simp)⟩
      have HB1 := Keep.mk built38m
      have HB2 := Keep.mk built38n
      have hE1 := fun w => eq32 m77 w
      have hE2 := fun w => eq32 m78 w
      have HL7 : Keep ((crv m77).length = 14 ∧ (crv m78).length = 14) := ⟨rfl, rfl⟩
      generalize crv m77 = v77 at *
      generalize crv m78 = v78 at *
      go_wp2_with (first
        | (show wpList _ _ _ ({ dst := _, op := Op.build 38 #[(0, Operand.const (Value.int IntKind.i64 (-77)))], type := _, pos := _, after := _, guard := _ } :: _) _ _
           refine build_g (by rfl) 38 _ rfl _ ((congrArg (Tryd.prog.built 38) (by simp only [List.map_toArray, List.map_cons, List.map_nil]; rfl)).trans HB1.out) ?_)
        | (show wpList _ _ _ ({ dst := _, op := Op.build 38 #[(0, Operand.const (Value.int IntKind.i64 (-78)))], type := _, pos := _, after := _, guard := _ } :: _) _ _
           refine build_g (by rfl) 38 _ rfl _ ((congrArg (Tryd.prog.built 38) (by simp only [List.map_toArray, List.map_cons, List.map_nil]; rfl)).trans HB2.out) ?_)
        | (show wpList _ _ _ ({ dst := _, op := Op.load 38 (Operand.tmp 31), type := _, pos := _, after := _, guard := _ } :: _) _ _
           refine load_g (by rfl) 38 _ rfl _ _ rfl _ _ RA.out hdu hdr (by rw [HL7.out.1]; exact infoC) ?_)
        | (show wpList _ _ _ ({ dst := _, op := Op.load 38 (Operand.tmp 41), type := _, pos := _, after := _, guard := _ } :: _) _ _
           refine load_g (by rfl) 38 _ rfl _ _ rfl _ _ RB2.out hdu hdr (by rw [HL7.out.2]; exact infoC) ?_))
      go_ret
      exact ⟨by simp, HB.out⟩
end Go.Proofs.YtmacmoikjgmaoaaDoor.Bo
