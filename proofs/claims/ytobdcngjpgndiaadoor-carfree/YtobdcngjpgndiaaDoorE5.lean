/- CarFree: the walk -/
import Derived.Test.YtobdcngjpgndiaaDoorE1
import Derived.Test.YtobdcngjpgndiaaDoorE4
import Derived.Test.YtobdcngjpgndiaaDoorK1
namespace Go.Proofs.YtobdcngjpgndiaaDoor.Bo
open Go Go.RowKit

section
variable {P : Program} {ops : Array Oper} {Q : Exit → Act → World → Prop} {md : Region.Mode} {S : World → Prop} {Z : List Nat}
/-- two may come -/
theorem wpAnyX_two {i j : Nat} {o p : Oper} {n : Nat} {L : Array Bool} {a : Act} {w : World} (hr : Region.ready md ops L = [i, j]) (ho : ops[i]? = some o) (hp : ops[j]? = some p)
    (h : ∀ K' : Act → World → Prop, Shut (∀ a w, S w → (S w → wpAnyX P md ops Q S Z n (L.setIfInBounds i true) a w) → K' a w) → if Region.wanted o (yielded ops a.tmps) = true then Oper.wp P o a w K' Q else K' (a.put o.dst undef) w)
    (k : ∀ K' : Act → World → Prop, Shut (∀ a w, S w → (S w → wpAnyX P md ops Q S Z n (L.setIfInBounds j true) a w) → K' a w) → if Region.wanted p (yielded ops a.tmps) = true then Oper.wp P p a w K' Q else K' (a.put p.dst undef) w) : wpAnyX P md ops Q S Z (n + 1) L a w :=
  ⟨fun h0 => (by rw [hr] at h0; cases h0), fun l hl => by
    rw [hr] at hl
    rcases List.mem_cons.1 hl with rfl | hl
    · exact wpOp_step ho (fun K' hK => h K' (fun a w hS hW => hK a w ⟨fun _ => hS, hW hS⟩))
    · rw [List.mem_singleton] at hl
      subst hl
      exact wpOp_step hp (fun K' hK => k K' (fun a w hS hW => hK a w ⟨fun _ => hS, hW hS⟩))⟩
end
def z28 : List Value := zC14 ++ zC14
theorem zC14_lit : zC14 = [iv 0, .string ⟨#[]⟩, iv 0, iv 0, iv 0, iv 0, iv 0, iv 0, iv 0, iv 0, iv 0, iv 0, iv 0, iv 0] := rfl
theorem z28_lit : z28 = [iv 0, .string ⟨#[]⟩, iv 0, iv 0, iv 0, iv 0, iv 0, iv 0, iv 0, iv 0, iv 0, iv 0, iv 0, iv 0, iv 0, .string ⟨#[]⟩, iv 0, iv 0, iv 0, iv 0, iv 0, iv 0, iv 0, iv 0, iv 0, iv 0, iv 0, iv 0] := rfl
theorem arr_one (a b : Cr) : ∀ v ∈ crv a ++ crv b, v.oneCell' = true := by
  intro v hv
  rcases List.mem_append.1 hv with h | h
  · exact crv_one a v h
  · exact crv_one b v h
set_option maxRecDepth 100000 in
theorem info37 : (Tryd.prog.info? 37).map (·.size) = some 28 := by kernel_rfl
set_option maxRecDepth 100000 in
theorem built37 (a b : Cr) : Tryd.prog.built 37 [(0, .agg (crv a).toArray), (1, .agg (crv b).toArray)] = some (crv a ++ crv b).toArray := by kernel_rfl
set_option maxRecDepth 100000 in
theorem short_t (w : World) (x : Int) (h : -65536 ≤ x ∧ x ≤ 65536) : Calls Tryd.prog 17 #[iv x] w fun e w' => e = .returned (.bool true) ∧ w' = w := by
  obtain ⟨h1, h2⟩ := h
  have d1 : decide (-65536 ≤ x) = true := decide_eq_true h1
  have d2 : decide (x ≤ 65536) = true := decide_eq_true h2
  go_enter Tryd.func17, Tryd.ntmps17
  go_wp2_with fail
  go_ret
  exact ⟨rfl, rfl⟩
theorem new_ok (L : Bo) (he : ev L) (hs : spn L ≠ []) {c : Cr} (ok : CrOk c) : CrOk (newC L c.pl c.nm) := by
  have h := spw_get L hs (w64 (c.pl + 0))
  have hp := sp_of he (List.mem_of_getElem? h)
  have i0 : In 0 := ⟨by omega, by omega⟩
  have i100 : In 100 := ⟨by omega, by omega⟩
  have i20 : In 20 := ⟨by omega, by omega⟩
  have hx := hp.x
  have hy := hp.y
  exact ⟨ok.nm, ok.pl, ⟨by show _ ≤ (spw L (w64 (c.pl + 0))).1; omega, by show (spw L (w64 (c.pl + 0))).1 ≤ _; omega⟩, ⟨by show _ ≤ (spw L (w64 (c.pl + 0))).2; omega, by show (spw L (w64 (c.pl + 0))).2 ≤ _; omega⟩, i0, i0, i0, i100, i100, i20, i0, i0, i0, i0⟩
set_option maxRecDepth 100000 in
set_option maxHeartbeats 64000000 in
theorem free_c (w : World) (s : ByteArray) (c0 : Cr) (v : Value) (Ls : List It) (ok0 : CrOk c0) (hI : Its w v Ls) (hk : Kc w) :
    Calls Tryd.prog 4 #[.string s, .agg (crv c0).toArray, v] w fun e w' => e = .returned (.bool true) ∧ w.grownBy w' none := by
  obtain ⟨du, hdu, hdr⟩ := underC
  obtain ⟨dI, hdI, hdIr⟩ := underI
  have hh := Has.newA w (crv c0).toArray 32
  have hg0 : w.grownBy (w.alloc (.cells (crv c0).toArray 32)) none := World.grownBy_alloc _ _ _
  obtain ⟨W1, hW1⟩ : ∃ W1, w.alloc (.cells (crv c0).toArray 32) = W1 := ⟨_, rfl⟩
  obtain ⟨xb, hxb⟩ : ∃ xb, w.heap.size = xb := ⟨_, rfl⟩
  rw [hW1, hxb] at hh
  rw [hW1] at hg0
  have hsx : (crv c0).toArray.size = 14 := rfl
  have hA := alive_c W1 (hk.kept hg0)
  have HP := Keep.mk (fun W => parse_c W s)
  have HKW := Keep.mk hk
  have HX1 : Keep (Has W1 xb (crv c0) 32) := ⟨hh⟩
  have HG0 := Keep.mk hg0
  obtain ⟨a0, cap, rfl, _⟩ := hI.o
  have hn := hI.n
  have HI := Keep.mk hI
  have HO0 := Keep.mk ok0
  clear hh hg0 hk hI ok0
  obtain ⟨n, hnn⟩ : ∃ n, Ls.length = n := ⟨_, rfl⟩
  rw [hnn] at hn HI
  rw [hnn]
  have HNN := Keep.mk hnn
  clear hnn
  go_enter Tryd.func4, Tryd.ntmps4
  go_wp2_with fail
  refine hA.mono ?_
  rintro e w0 ⟨rfl, g0⟩
  have hP := HP.out w0
  have HG1 := Keep.mk (HG0.out.trans g0)
  have HX2 : Keep (Has w0 xb (crv c0) 32) := ⟨HX1.out.kept g0 (by simp)⟩
  clear hA g0 HP HX1 HG0 hW1 hxb
  go_wp2_with fail
  refine hP.mono ?_
  rintro e w1 ⟨g1, h1⟩
  have HG := Keep.mk (HG1.out.trans g1)
  have HX : Keep (Has w1 xb (crv c0) 32) := ⟨HX2.out.kept g1 (by simp)⟩
  clear hP g1 HG1 HX2
  rcases h1 with ⟨_, rfl⟩ | ⟨_, _, rfl⟩ | ⟨_, hne, bv, rfl, hB⟩
  · go_wp2_with fail
    go_ret
    exact ⟨rfl, HG.out⟩
  · go_wp2_with fail
    go_ret
    exact ⟨rfl, HG.out⟩
  generalize lns s = L at *
  obtain ⟨kb, _, _, hv, _⟩ := hB.o
  subst hv
  have HBD := Keep.mk (And.intro hB hne)
  have HK1 : Keep (Kc w1) := ⟨HKW.out.kept HG.out⟩
  have HI1 := Keep.mk (HI.out.kept HG.out)
  have HNW := Keep.mk (fun W (g : w1.grownBy W none) => new_c W (pt kb) L c0.pl c0.nm (hB.kept g) hne HO0.out.nm)
  have HON : Keep (CrOk (newC L c0.pl c0.nm)) := ⟨new_ok L hB.sh hne HO0.out⟩
  have HBU0 := Keep.mk (built37 c0 (newC L c0.pl c0.nm))
  generalize newC L c0.pl c0.nm = cN at *
  have HBU : Keep (Tryd.prog.built 37 [(0, .agg (crv c0).toArray), (1, .agg (crv cN).toArray)] = some (crv c0 ++ crv cN).toArray) := HBU0
  have HB : Keep (Sep w1 w1 []) := ⟨Sep.nil w1⟩
  clear hB hne HKW HI HBU0
  go_upto_region 6 with fail
  obtain ⟨wq, hwq⟩ : ∃ wq, w1 = wq := ⟨_, rfl⟩
  have HB : Keep (Sep w1 wq []) := ⟨hwq ▸ HB.out⟩
  rw [show Code.wp Tryd.prog _ _ _ w1 = Code.wp Tryd.prog _ _ _ wq from by rw [hwq]]
  clear hwq
  go_cut [9] (fun sv wx => ∃ ab, sv = pt ab ∧ Keep (Sep w1 wx [boxA ab (crv c0 ++ crv cN) 37]))
  case first =>
    refine region_X (S := fun w' => Sep w1 w' []) [] (by kernel_rfl) (HB.out.grown (gr_drew _ _)) (fun hHeld => ?_)
    replace HB := Keep.mk hHeld
    refine wpAnyX_take (i := 0) (oi := _) (v := _) rfl (by kernel_rfl) (by kernel_rfl) (by kernel_rfl) (by kernel_rfl) (by kernel_rfl) (fun _ _ _ h => h) (yieldsIf_load_mid (by rfl) 32 _ rfl _ _ rfl _ _ (fun w_ hS_ => (HX.out.kept hS_.g (by simp)).range) hdu hdr (infoC' c0)) (by assumption) ?_
    simp only [Act.put, List.getElem_toArray, List.getElem_cons_zero, List.setIfInBounds_toArray, List.set_cons_zero, List.set_cons_succ]
    refine wpAnyX_take (i := 1) (oi := _) (v := ?_) rfl (by kernel_rfl) (by kernel_rfl) (by kernel_rfl) (by kernel_rfl) (by kernel_rfl) (fun _ _ _ h => h) (Or.inl ⟨by rfl, ?_⟩) (by assumption) ?_
    rotate_left
    · (intro w hSw; go_simp; first | done | (with_reducible rfl))
    simp only [Act.put, List.getElem_toArray, List.getElem_cons_succ, List.getElem_cons_zero, List.setIfInBounds_toArray, List.set_cons_zero, List.set_cons_succ]
    refine wpAnyX_take (i := 2) (oi := _) (v := ?_) rfl (by kernel_rfl) (by kernel_rfl) (by kernel_rfl) (by kernel_rfl) (by kernel_rfl) (fun _ _ _ h => h) (Or.inl ⟨by rfl, ?_⟩) (by assumption) ?_
    rotate_left
    · (intro w hSw; go_simp; first | done | (with_reducible rfl))
    simp only [Act.put, List.getElem_toArray, List.getElem_cons_succ, List.getElem_cons_zero, List.setIfInBounds_toArray, List.set_cons_zero, List.set_cons_succ]
    refine wpAnyX_take (i := 3) (oi := _) (v := ?_) rfl (by kernel_rfl) (by kernel_rfl) (by kernel_rfl) (by kernel_rfl) (by kernel_rfl) (fun _ _ _ h => h) (Or.inl ⟨by rfl, ?_⟩) (by assumption) ?_
    rotate_left
    · (intro w hSw; have q0 := (HX.out.kept hSw.g (by simp)).cellv 0 _ rfl; go_simp; first | done | (with_reducible rfl))
    simp only [Act.put, List.getElem_toArray, List.getElem_cons_succ, List.getElem_cons_zero, List.setIfInBounds_toArray, List.set_cons_zero, List.set_cons_succ]
    refine wpAnyX_take (i := 4) (oi := _) (v := ?_) rfl (by kernel_rfl) (by kernel_rfl) (by kernel_rfl) (by kernel_rfl) (by kernel_rfl) (fun _ _ _ h => h) (Or.inl ⟨by rfl, ?_⟩) (by assumption) ?_
    rotate_left
    · (intro w hSw; go_simp; first | done | (with_reducible rfl))
    simp only [Act.put, List.getElem_toArray, List.getElem_cons_succ, List.getElem_cons_zero, List.setIfInBounds_toArray, List.set_cons_zero, List.set_cons_succ]
    refine wpAnyX_take (i := 5) (oi := _) (v := ?_) rfl (by kernel_rfl) (by kernel_rfl) (by kernel_rfl) (by kernel_rfl) (by kernel_rfl) (fun _ _ _ h => h) (Or.inl ⟨by rfl, ?_⟩) (by assumption) ?_
    rotate_left
    · (intro w hSw; have q1 := (HX.out.kept hSw.g (by simp)).cellv 1 _ rfl; go_simp; first | done | (with_reducible rfl))
    simp only [Act.put, List.getElem_toArray, List.getElem_cons_succ, List.getElem_cons_zero, List.setIfInBounds_toArray, List.set_cons_zero, List.set_cons_succ]
    obtain ⟨W0, hW0⟩ : ∃ W_, wq.drew = W_ := ⟨_, rfl⟩
    rw [hW0] at HB hHeld ⊢
    clear hW0
    refine wpAnyX_two (i := 6) (j := 8) (by kernel_rfl) rfl rfl (fun K hK => ?_) (fun K hK => ?_)
    · go_simp
      refine (HNW.out _ HB.out.g).mono ?_
      rintro e wg ⟨rfl, hg⟩
      replace HB := Keep.mk (HB.out.grown hg)
      refine hK.out _ _ HB.out (fun hHeld => ?_)
      clear hK K hg
      refine wpAnyX_take (i := 7) (oi := _) (v := .agg (crv c0 ++ crv cN).toArray) rfl (by kernel_rfl) (by kernel_rfl) (by kernel_rfl) (by kernel_rfl) (by kernel_rfl) (fun _ _ _ h => h) (yieldsIf_build (by rfl) 37 _ rfl _ ?_) (by assumption) ?_
      · refine (congrArg (Tryd.prog.built 37) ?_).trans HBU.out
        simp only [List.map_toArray, List.map_cons, List.map_nil]
        rfl
      simp only [Act.put, List.getElem_toArray, List.getElem_cons_succ, List.getElem_cons_zero, List.setIfInBounds_toArray, List.set_cons_zero, List.set_cons_succ]
      refine wpAnyX_one (i := 8) (by kernel_rfl) rfl (fun K hK => ?_)
      have S_ := HB.out.newBox z28.toArray 37
      obtain ⟨wa, hwa⟩ : ∃ W_, wg.alloc (.cells z28.toArray 37) = W_ := ⟨_, rfl⟩
      obtain ⟨ab, hab⟩ : ∃ b_, wg.heap.size = b_ := ⟨_, rfl⟩
      rw [hwa, hab] at S_
      rw [z28_lit] at hwa
      replace HB := Keep.mk S_
      clear S_
      go_simp
      refine hK.out _ _ HB.out.tail (fun hHeld => ?_)
      clear hK K
      refine wpAnyX_one (i := 9) (by kernel_rfl) rfl (fun K hK => ?_)
      rw [if_pos (show Region.wanted _ _ = true from rfl)]
      refine wp_store_mid 37 _ _ rfl ab 0 (crv c0 ++ crv cN).toArray rfl rfl ((HB.out.boxGet k0m).there 0 28 (Nat.le_refl _)) info37 (all_oneCell_toArray (arr_one c0 cN)) ?_
      have S_ := HB.out.boxTurn ((HB.out.boxGet k0m).setCells (crv c0 ++ crv cN) 0) (gr_sets _ _ _ _)
      rw [over_all z28 (crv c0 ++ crv cN) rfl] at S_
      refine hK.out _ _ S_.tail (fun hHeld => ?_)
      replace HB := Keep.mk S_
      clear hK K S_
      change Keep (Sep w1 (World.setCells wa ab 0 (crv c0 ++ crv cN).toArray.toList) _) at HB
      generalize World.setCells wa ab 0 (crv c0 ++ crv cN).toArray.toList = w9 at HB hHeld ⊢
      simp only [Act.put, List.getElem_toArray, List.getElem_cons_succ, List.getElem_cons_zero]
      refine wpAnyX_done (by kernel_rfl) ?_ _
      clear hHeld
      go_wp2_with fail
      go_meet
      exact ⟨ab, rfl, HB⟩
    · skip
      have S_ := HB.out.newBox z28.toArray 37
      obtain ⟨wa, hwa⟩ : ∃ W_, W0.alloc (.cells z28.toArray 37) = W_ := ⟨_, rfl⟩
      obtain ⟨ab, hab⟩ : ∃ b_, W0.heap.size = b_ := ⟨_, rfl⟩
      rw [hwa, hab] at S_
      rw [z28_lit] at hwa
      replace HB := Keep.mk S_
      clear S_
      go_simp
      refine hK.out _ _ HB.out.tail (fun hHeld => ?_)
      clear hK K
      refine wpAnyX_one (i := 6) (by kernel_rfl) rfl (fun K hK => ?_)
      go_simp
      refine (HNW.out _ HB.out.g).mono ?_
      rintro e wg ⟨rfl, hg⟩
      replace HB := Keep.mk (HB.out.grown hg)
      refine hK.out _ _ HB.out.tail (fun hHeld => ?_)
      clear hK K hg
      refine wpAnyX_take (i := 7) (oi := _) (v := .agg (crv c0 ++ crv cN).toArray) rfl (by kernel_rfl) (by kernel_rfl) (by kernel_rfl) (by kernel_rfl) (by kernel_rfl) (fun _ _ _ h => h) (yieldsIf_build (by rfl) 37 _ rfl _ ?_) (by assumption) ?_
      · refine (congrArg (Tryd.prog.built 37) ?_).trans HBU.out
        simp only [List.map_toArray, List.map_cons, List.map_nil]
        rfl
      simp only [Act.put, List.getElem_toArray, List.getElem_cons_succ, List.getElem_cons_zero, List.setIfInBounds_toArray, List.set_cons_zero, List.set_cons_succ]
      refine wpAnyX_one (i := 9) (by kernel_rfl) rfl (fun K hK => ?_)
      rw [if_pos (show Region.wanted _ _ = true from rfl)]
      refine wp_store_mid 37 _ _ rfl ab 0 (crv c0 ++ crv cN).toArray rfl rfl ((HB.out.boxGet k0m).there 0 28 (Nat.le_refl _)) info37 (all_oneCell_toArray (arr_one c0 cN)) ?_
      have S_ := HB.out.boxTurn ((HB.out.boxGet k0m).setCells (crv c0 ++ crv cN) 0) (gr_sets _ _ _ _)
      rw [over_all z28 (crv c0 ++ crv cN) rfl] at S_
      refine hK.out _ _ S_.tail (fun hHeld => ?_)
      replace HB := Keep.mk S_
      clear hK K S_
      change Keep (Sep w1 (World.setCells wg ab 0 (crv c0 ++ crv cN).toArray.toList) _) at HB
      generalize World.setCells wg ab 0 (crv c0 ++ crv cN).toArray.toList = w9 at HB hHeld ⊢
      simp only [Act.put, List.getElem_toArray, List.getElem_cons_succ, List.getElem_cons_zero]
      refine wpAnyX_done (by kernel_rfl) ?_ _
      clear hHeld
      go_wp2_with fail
      go_meet
      exact ⟨ab, rfl, HB⟩
  case rest =>
  obtain ⟨ab, rfl, HS⟩ := hcut
  rename World => w2
  go_wp2_with fail
  go_loopw [10] (fun u wr => ∃ k : Nat, k ≤ 2 ∧ u = iv k ∧ Keep (Sep w1 wr [boxA ab (crv c0 ++ crv cN) 37])) (fun u _ => (2 - intOf u).toNat)
  case atStart => exact ⟨0, by omega, rfl, HS⟩
  case round =>
    obtain ⟨k, hk2, rfl, hR⟩ := hrel
    replace HS := hR
    clear hR HB
    by_cases hlt : (k : Int) < 2
    · have hdk : decide ((k : Int) < 2) = true := decide_eq_true hlt
      have hk1 : IntKind.i64.wrap ((k : Int) + 1) = ((k + 1 : Nat) : Int) := by rw [wi _ (by omega) (by omega)]; omega
      have hkt : ((k : Nat) : Int).toNat = k := by omega
      obtain ⟨ck, HCK, hRN⟩ : ∃ ck : Cr, Keep (CrOk ck) ∧ wr.rangeAt ab (k * 14) (crv ck) := by
        have hk01 : k = 0 ∨ k = 1 := by omega
        rcases hk01 with rfl | rfl
        · exact ⟨c0, HO0, (HS.out.boxGet k0m).rangeMid 0 [] (crv c0) (crv cN) rfl rfl⟩
        · exact ⟨cN, HON, (HS.out.boxGet k0m).rangeMid 14 (crv c0) (crv cN) [] (by simp) rfl⟩
      have RNA := Keep.mk hRN
      clear hRN
      have S_ := HS.out.newBox zC14.toArray 32
      obtain ⟨W4, hW4⟩ : ∃ W_, wr.alloc (.cells zC14.toArray 32) = W_ := ⟨_, rfl⟩
      obtain ⟨cb, hcb⟩ : ∃ b_, wr.heap.size = b_ := ⟨_, rfl⟩
      rw [hW4, hcb] at S_
      unfold zC14 crv zC at hW4
      change wr.alloc _ = W4 at hW4
      change Sep w1 W4 [boxA cb zC14 32, boxA ab (crv c0 ++ crv cN) 37] at S_
      replace HS := Keep.mk S_
      have HX_ := Keep.mk (S_.boxGet k0m)
      have HO_ := Keep.mk (crv_one ck)
      clear S_
      go_wp2_with (first
        | (show wpList _ _ _ ({ dst := _, op := Op.load 32 _, type := _, pos := _, after := _, guard := _ } :: _) _ _
           refine load_g (by rfl) 32 _ rfl _ _ rfl _ _ RNA.out hdu hdr (infoC' ck) ?_)
        | (show wpList _ _ _ ({ dst := _, op := Op.store 32 _ _, type := _, pos := _, after := _, guard := _ } :: _) _ _
           refine store_at _ cb 0 zC14 (crv ck) 32 32 rfl rfl rfl rfl HX_.out (Nat.le_refl _) (infoC' ck) HO_.out ?_))
      intro w3 hS_ g_
      have S_ := hS_ _ _ HS.out
      rw [over_all zC14 (crv ck) rfl] at S_
      change Sep w1 w3 [boxA cb (crv ck) 32, boxA ab (crv c0 ++ crv cN) 37] at S_
      replace HS := Keep.mk S_
      clear S_ hS_ g_ HX_ HO_ hW4 hcb RNA
      go_wp2_with fail
      rename World => wo
      go_loopw [12] (fun u ws => ∃ (i : Nat) (c : Cr), i ≤ 200 ∧ u = iv i ∧ Keep (CrOk c) ∧ Keep (Sep w1 ws [boxA cb (crv c) 32, boxA ab (crv c0 ++ crv cN) 37])) (fun u _ => (200 - intOf u).toNat)
      case atStart => exact ⟨0, ck, by omega, rfl, HCK, HS⟩
      case round =>
        obtain ⟨i, c, hi2, rfl, HOC, hR⟩ := hrel
        replace HS := hR
        clear hR
        have hcond : (i < n ∧ i < 200) ∨ ¬ i < n ∨ (i < n ∧ ¬ i < 200) := by omega
        rcases hcond with ⟨hin, h200⟩ | hout
        · have hi1 : (i : Int) < (n : Nat) := by omega
          have hi3 : (i : Int) < 200 := by omega
          have hdi : decide ((i : Int) < (n : Int)) = true := decide_eq_true hi1
          have hd200 : decide ((i : Int) < 200) = true := decide_eq_true hi3
          have hti : ((i : Nat) : Int).toNat = i := by omega
          have hii : IntKind.i64.wrap ((i : Int) + 1) = ((i + 1 : Nat) : Int) := by rw [wi _ (by omega) (by omega)]; omega
          obtain ⟨it, hit⟩ : ∃ it, Ls[i]? = some it := ⟨_, List.getElem?_eq_getElem (by rw [HNN.out]; exact hin)⟩
          obtain ⟨a1, cap1, ea, hcells⟩ := HI1.out.o
          obtain ⟨g, o, eg, hcl⟩ := hcells (by rw [HNN.out]; omega)
          injection ea with ea1 ea2 ea3
          subst ea1
          subst eg
          have HIR : Keep (∀ W, w1.grownBy W none → W.rangeAt g (o + i * 5) (itv it)) := ⟨fun W gW j v hv => gW.cell (hcl i it hit j v hv) (by simp)⟩
          clear ea2 ea3 hcells hcl hit
          have hq2 : wr.cell? ⟨cb, 2, none⟩ = some (iv c.x) := (HS.out.boxGet k0m).cellv 2 _ rfl
          have hq3 : wr.cell? ⟨cb, 3, none⟩ = some (iv c.y) := (HS.out.boxGet k0m).cellv 3 _ rfl
          have hBl := blocked_c wr (pt kb) L (HBD.out.1.kept HS.out.g) c.x c.y 98304 HOC.out.x HOC.out.y (by decide)
          have HDR := Keep.mk (fun W (g : w1.grownBy W none) => drive_c W (pt kb) L c it HOC.out (HBD.out.1.kept g) (HK1.out.kept g))
          have HKP := Keep.mk (drv_kpt L c it)
          have HOD : Keep (CrOk (drvC L c it)) := ⟨drv_ok L HOC.out it⟩
          have HFR : Keep (c.wa ≤ 0 → Far c (drvC L c it)) := ⟨fun q => drv_far HBD.out.1.sh (Int.not_lt.2 q) it⟩
          have HWK : Keep (0 < c.wa → drvC L c it = c) := ⟨fun q => drv_wreck q it⟩
          have HB2 : Keep (decide (blk L (c.x, c.y) 98304) = false → ∀ W, w1.grownBy W none → Calls Tryd.prog 14 #[pt kb, vv (drvC L c it).x (drvC L c it).y, iv 98304] W fun e w' => e = .returned (.bool false) ∧ W.grownBy w' none) := ⟨fun q W gW => by
            have h := blocked_c W (pt kb) L (HBD.out.1.kept gW) (drvC L c it).x (drvC L c it).y 98304 HOD.out.x HOD.out.y (by decide)
            rw [decide_eq_false (drv_free it (of_decide_eq_false q))] at h
            exact h⟩
          have HSM := Keep.mk (fun W => same_t W c (drvC L c it) HKP.out.pl.symm HKP.out.nm.symm HKP.out.sc.symm)
          generalize drvC L c it = d at *
          generalize decide (blk L (c.x, c.y) 98304) = bk at *
          go_wp2_with fail
          refine hBl.mono ?_
          rintro e wq ⟨rfl, g_⟩
          replace HS := Keep.mk (HS.out.grown g_)
          have HB : Keep (Sep w1 wq [boxA cb (crv c) 32, boxA ab (crv c0 ++ crv cN) 37]) := HS
          clear hBl g_ hq2 hq3 HS
          go_upto_region 15 with fail
          go_cut [14] (fun sv wx => ∃ nb, sv = pt nb ∧ Keep (Sep w1 wx [boxA nb (crv d) 32, boxA cb (crv c) 32, boxA ab (crv c0 ++ crv cN) 37]))
          case first =>
            refine region_X (S := fun w' => Sep w1 w' [boxA cb (crv c) 32, boxA ab (crv c0 ++ crv cN) 37]) [] (by kernel_rfl) (HB.out.grown (gr_drew _ _)) (fun hHeld => ?_)
            replace HB := Keep.mk hHeld
            refine wpAnyX_take (i := 0) (oi := _) (v := ?_) rfl (by kernel_rfl) (by kernel_rfl) (by kernel_rfl) (by kernel_rfl) (by kernel_rfl) (fun _ _ _ h => h) (Or.inl ⟨by rfl, ?_⟩) (by assumption) ?_
            rotate_left
            · (intro w hSw; go_simp; first | done | (with_reducible rfl))
            simp only [Act.put, List.getElem_toArray, List.getElem_cons_zero, List.setIfInBounds_toArray, List.set_cons_zero, List.set_cons_succ]
            refine wpAnyX_take (i := 1) (oi := _) (v := _) rfl (by kernel_rfl) (by kernel_rfl) (by kernel_rfl) (by kernel_rfl) (by kernel_rfl) (fun _ _ _ h => h) (yieldsIf_load_mid (by rfl) 32 _ rfl _ _ rfl _ _ (fun w_ hS_ => (hS_.boxGet k0m).range) hdu hdr (infoC' c)) (by assumption) ?_
            simp only [Act.put, List.getElem_toArray, List.getElem_cons_succ, List.getElem_cons_zero, List.setIfInBounds_toArray, List.set_cons_zero, List.set_cons_succ]
            refine wpAnyX_take (i := 2) (oi := _) (v := ?_) rfl (by kernel_rfl) (by kernel_rfl) (by kernel_rfl) (by kernel_rfl) (by kernel_rfl) (fun _ _ _ h => h) (Or.inl ⟨by rfl, ?_⟩) (by assumption) ?_
            rotate_left
            · (intro w hSw; go_simp; first | done | (with_reducible rfl))
            simp only [Act.put, List.getElem_toArray, List.getElem_cons_succ, List.getElem_cons_zero, List.setIfInBounds_toArray, List.set_cons_zero, List.set_cons_succ]
            refine wpAnyX_take (i := 3) (oi := _) (v := ?_) rfl (by kernel_rfl) (by kernel_rfl) (by kernel_rfl) (by kernel_rfl) (by kernel_rfl) (fun _ _ _ h => h) (Or.inl ⟨by rfl, ?_⟩) (by assumption) ?_
            rotate_left
            · (intro w hSw; go_simp; first | done | (with_reducible rfl))
            simp only [Act.put, List.getElem_toArray, List.getElem_cons_succ, List.getElem_cons_zero, List.setIfInBounds_toArray, List.set_cons_zero, List.set_cons_succ]
            refine wpAnyX_take (i := 4) (oi := _) (v := ?_) rfl (by kernel_rfl) (by kernel_rfl) (by kernel_rfl) (by kernel_rfl) (by kernel_rfl) (fun _ _ _ h => h) (Or.inl ⟨by rfl, ?_⟩) (by assumption) ?_
            rotate_left
            · (intro w hSw; go_simp; first | done | (with_reducible rfl))
            simp only [Act.put, List.getElem_toArray, List.getElem_cons_succ, List.getElem_cons_zero, List.setIfInBounds_toArray, List.set_cons_zero, List.set_cons_succ]
            refine wpAnyX_take (i := 5) (oi := _) (v := _) rfl (by kernel_rfl) (by kernel_rfl) (by kernel_rfl) (by kernel_rfl) (by kernel_rfl) (fun _ _ _ h => h) (yieldsIf_load_mid (by rfl) 41 _ rfl _ _ rfl _ _ (fun w_ hS_ => HIR.out w_ hS_.g) hdI hdIr infoI) (by assumption) ?_
            simp only [Act.put, List.getElem_toArray, List.getElem_cons_succ, List.getElem_cons_zero, List.setIfInBounds_toArray, List.set_cons_zero, List.set_cons_succ]
            obtain ⟨W0, hW0⟩ : ∃ W_, wq.drew = W_ := ⟨_, rfl⟩
            rw [hW0] at HB hHeld ⊢
            clear hW0
            refine wpAnyX_two (i := 6) (j := 7) (by kernel_rfl) rfl rfl (fun K hK => ?_) (fun K hK => ?_)
            · go_simp
              refine (HDR.out _ HB.out.g).mono ?_
              rintro e wg ⟨rfl, hg⟩
              replace HB := Keep.mk (HB.out.grown hg)
              refine hK.out _ _ HB.out (fun hHeld => ?_)
              clear hK K hg
              refine wpAnyX_one (i := 7) (by kernel_rfl) rfl (fun K hK => ?_)
              have S_ := HB.out.newBox zC14.toArray 32
              obtain ⟨wa, hwa⟩ : ∃ W_, wg.alloc (.cells zC14.toArray 32) = W_ := ⟨_, rfl⟩
              obtain ⟨nb, hnb⟩ : ∃ b_, wg.heap.size = b_ := ⟨_, rfl⟩
              rw [hwa, hnb] at S_
              rw [zC14_lit] at hwa
              replace HB := Keep.mk S_
              clear S_
              go_simp
              refine hK.out _ _ HB.out.tail (fun hHeld => ?_)
              clear hK K
              refine wpAnyX_one (i := 8) (by kernel_rfl) rfl (fun K hK => ?_)
              rw [if_pos (show Region.wanted _ _ = true from rfl)]
              refine wp_store_mid 32 _ _ rfl nb 0 (crv d).toArray rfl rfl ((HB.out.boxGet k0m).there 0 14 (Nat.le_refl _)) infoC (all_oneCell_toArray (crv_one d)) ?_
              have S_ := HB.out.boxTurn ((HB.out.boxGet k0m).setCells (crv d) 0) (gr_sets _ _ _ _)
              rw [over_all zC14 (crv d) rfl] at S_
              refine hK.out _ _ S_.tail (fun hHeld => ?_)
              replace HB := Keep.mk S_
              clear hK K S_
              change Keep (Sep w1 (World.setCells wa nb 0 (crv d).toArray.toList) _) at HB
              generalize World.setCells wa nb 0 (crv d).toArray.toList = w9 at HB hHeld ⊢
              simp only [Act.put, List.getElem_toArray, List.getElem_cons_succ, List.getElem_cons_zero]
              refine wpAnyX_done (by kernel_rfl) ?_ _
              clear hHeld
              go_wp2_with fail
              go_meet
              exact ⟨nb, rfl, HB⟩
            · skip
              have S_ := HB.out.newBox zC14.toArray 32
              obtain ⟨wa, hwa⟩ : ∃ W_, W0.alloc (.cells zC14.toArray 32) = W_ := ⟨_, rfl⟩
              obtain ⟨nb, hnb⟩ : ∃ b_, W0.heap.size = b_ := ⟨_, rfl⟩
              rw [hwa, hnb] at S_
              rw [zC14_lit] at hwa
              replace HB := Keep.mk S_
              clear S_
              go_simp
              refine hK.out _ _ HB.out.tail (fun hHeld => ?_)
              clear hK K
              refine wpAnyX_one (i := 6) (by kernel_rfl) rfl (fun K hK => ?_)
              go_simp
              refine (HDR.out _ HB.out.g).mono ?_
              rintro e wg ⟨rfl, hg⟩
              replace HB := Keep.mk (HB.out.grown hg)
              refine hK.out _ _ HB.out.tail (fun hHeld => ?_)
              clear hK K hg
              refine wpAnyX_one (i := 8) (by kernel_rfl) rfl (fun K hK => ?_)
              rw [if_pos (show Region.wanted _ _ = true from rfl)]
              refine wp_store_mid 32 _ _ rfl nb 0 (crv d).toArray rfl rfl ((HB.out.boxGet k0m).there 0 14 (Nat.le_refl _)) infoC (all_oneCell_toArray (crv_one d)) ?_
              have S_ := HB.out.boxTurn ((HB.out.boxGet k0m).setCells (crv d) 0) (gr_sets _ _ _ _)
              rw [over_all zC14 (crv d) rfl] at S_
              refine hK.out _ _ S_.tail (fun hHeld => ?_)
              replace HB := Keep.mk S_
              clear hK K S_
              change Keep (Sep w1 (World.setCells wg nb 0 (crv d).toArray.toList) _) at HB
              generalize World.setCells wg nb 0 (crv d).toArray.toList = w9 at HB hHeld ⊢
              simp only [Act.put, List.getElem_toArray, List.getElem_cons_succ, List.getElem_cons_zero]
              refine wpAnyX_done (by kernel_rfl) ?_ _
              clear hHeld
              go_wp2_with fail
              go_meet
              exact ⟨nb, rfl, HB⟩
          case rest =>
          obtain ⟨nb, rfl, HS⟩ := hcut
          clear HB
          rename World => wc
          have RN14 := Keep.mk (HS.out.boxGet k0m).range
          have RN11 := Keep.mk (HS.out.boxGet k1m).range
          go_upto_region 16 with fail
          go_cut [112] (fun sv wx => sv = .bool false ∧ Keep (Sep w1 wx [boxA nb (crv d) 32, boxA cb (crv c) 32, boxA ab (crv c0 ++ crv cN) 37]))
          case first =>
            go_wp2_with (first
              | (show wpList _ _ _ ({ dst := _, op := Op.load 32 (Operand.tmp 14), type := _, pos := _, after := _, guard := _ } :: _) _ _
                 refine load_g (by rfl) 32 _ rfl _ _ rfl _ _ RN14.out hdu hdr (infoC' d) ?_)
              | (show wpList _ _ _ ({ dst := _, op := Op.load 32 (Operand.tmp 11), type := _, pos := _, after := _, guard := _ } :: _) _ _
                 refine load_g (by rfl) 32 _ rfl _ _ rfl _ _ RN11.out hdu hdr (infoC' c) ?_))
            refine (HSM.out _).mono ?_
            rintro e w1_ ⟨rfl, g_⟩
            clear RN14 RN11
            replace HS := Keep.mk (HS.out.grown g_)
            clear g_
            have RN14 := Keep.mk (HS.out.boxGet k0m).range
            have RN11 := Keep.mk (HS.out.boxGet k1m).range
            clear RN14 RN11
            cases bk
            · have n2 : w1_.cell? ⟨nb, 2, none⟩ = some (iv d.x) := (HS.out.boxGet k0m).cellv 2 _ rfl
              have n3 : w1_.cell? ⟨nb, 3, none⟩ = some (iv d.y) := (HS.out.boxGet k0m).cellv 3 _ rfl
              have hB2 := HB2.out rfl w1_ HS.out.g
              go_wp2_with fail
              refine hB2.mono ?_
              rintro e wb ⟨rfl, g_⟩
              replace HS := Keep.mk (HS.out.grown g_)
              clear g_ hB2
              have a7 : wb.cell? ⟨nb, 7, none⟩ = some (iv c.he) := HKP.out.he ▸ (HS.out.boxGet k0m).cellv 7 _ rfl
              have b7 : wb.cell? ⟨cb, 7, none⟩ = some (iv c.he) := (HS.out.boxGet k1m).cellv 7 _ rfl
              have a9 : wb.cell? ⟨nb, 9, none⟩ = some (iv c.am) := HKP.out.am ▸ (HS.out.boxGet k0m).cellv 9 _ rfl
              have b9 : wb.cell? ⟨cb, 9, none⟩ = some (iv c.am) := (HS.out.boxGet k1m).cellv 9 _ rfl
              have a10 : wb.cell? ⟨nb, 10, none⟩ = some (iv c.co) := HKP.out.co ▸ (HS.out.boxGet k0m).cellv 10 _ rfl
              have b10 : wb.cell? ⟨cb, 10, none⟩ = some (iv c.co) := (HS.out.boxGet k1m).cellv 10 _ rfl
              have a11 : wb.cell? ⟨nb, 11, none⟩ = some (iv c.wa) := HKP.out.wa ▸ (HS.out.boxGet k0m).cellv 11 _ rfl
              have b11 : wb.cell? ⟨cb, 11, none⟩ = some (iv c.wa) := (HS.out.boxGet k1m).cellv 11 _ rfl
              have a12 : wb.cell? ⟨nb, 12, none⟩ = some (iv c.sp) := HKP.out.sp ▸ (HS.out.boxGet k0m).cellv 12 _ rfl
              have b12 : wb.cell? ⟨cb, 12, none⟩ = some (iv c.sp) := (HS.out.boxGet k1m).cellv 12 _ rfl
              go_wp2_with fail
              go_meet
              exact ⟨rfl, HS⟩
            · have a7 : w1_.cell? ⟨nb, 7, none⟩ = some (iv c.he) := HKP.out.he ▸ (HS.out.boxGet k0m).cellv 7 _ rfl
              have b7 : w1_.cell? ⟨cb, 7, none⟩ = some (iv c.he) := (HS.out.boxGet k1m).cellv 7 _ rfl
              have a9 : w1_.cell? ⟨nb, 9, none⟩ = some (iv c.am) := HKP.out.am ▸ (HS.out.boxGet k0m).cellv 9 _ rfl
              have b9 : w1_.cell? ⟨cb, 9, none⟩ = some (iv c.am) := (HS.out.boxGet k1m).cellv 9 _ rfl
              have a10 : w1_.cell? ⟨nb, 10, none⟩ = some (iv c.co) := HKP.out.co ▸ (HS.out.boxGet k0m).cellv 10 _ rfl
              have b10 : w1_.cell? ⟨cb, 10, none⟩ = some (iv c.co) := (HS.out.boxGet k1m).cellv 10 _ rfl
              have a11 : w1_.cell? ⟨nb, 11, none⟩ = some (iv c.wa) := HKP.out.wa ▸ (HS.out.boxGet k0m).cellv 11 _ rfl
              have b11 : w1_.cell? ⟨cb, 11, none⟩ = some (iv c.wa) := (HS.out.boxGet k1m).cellv 11 _ rfl
              have a12 : w1_.cell? ⟨nb, 12, none⟩ = some (iv c.sp) := HKP.out.sp ▸ (HS.out.boxGet k0m).cellv 12 _ rfl
              have b12 : w1_.cell? ⟨cb, 12, none⟩ = some (iv c.sp) := (HS.out.boxGet k1m).cellv 12 _ rfl
              go_wp2_with fail
              go_meet
              exact ⟨rfl, HS⟩
          case rest =>
          clear RN14 RN11
          replace HS := hcut.2
          replace hcut := hcut.1
          subst hcut
          rename World => w5
          have b11 : w5.cell? ⟨cb, 11, none⟩ = some (iv c.wa) := (HS.out.boxGet k1m).cellv 11 _ rfl
          have RN14w : Keep (0 < c.wa → w5.rangeAt nb 0 (crv c)) := ⟨fun q => HWK.out q ▸ (HS.out.boxGet k0m).range⟩
          have RN11 := Keep.mk (HS.out.boxGet k1m).range
          have n4 : w5.cell? ⟨nb, 4, none⟩ = some (iv d.sx) := (HS.out.boxGet k0m).cellv 4 _ rfl
          have n5 : w5.cell? ⟨nb, 5, none⟩ = some (iv d.sy) := (HS.out.boxGet k0m).cellv 5 _ rfl
          have n6 : w5.cell? ⟨nb, 6, none⟩ = some (iv d.hd) := (HS.out.boxGet k0m).cellv 6 _ rfl
          have n2 : w5.cell? ⟨nb, 2, none⟩ = some (iv d.x) := (HS.out.boxGet k0m).cellv 2 _ rfl
          have n3 : w5.cell? ⟨nb, 3, none⟩ = some (iv d.y) := (HS.out.boxGet k0m).cellv 3 _ rfl
          have m2 : w5.cell? ⟨cb, 2, none⟩ = some (iv c.x) := (HS.out.boxGet k1m).cellv 2 _ rfl
          have m3 : w5.cell? ⟨cb, 3, none⟩ = some (iv c.y) := (HS.out.boxGet k1m).cellv 3 _ rfl
          go_upto_if 115 with fail
          go_cut [] (fun wx => Keep (Sep w1 wx [boxA nb (crv d) 32, boxA cb (crv c) 32, boxA ab (crv c0 ++ crv cN) 37]))
          case first =>
            by_cases hwa : 0 < c.wa
            · have hdw : decide (0 < c.wa) = true := decide_eq_true hwa
              have RN14 := Keep.mk (RN14w.out hwa)
              have hEc := fun w => eq32 c w
              go_wp2_with (first
                | (show wpList _ _ _ ({ dst := _, op := Op.load 32 (Operand.tmp 14), type := _, pos := _, after := _, guard := _ } :: _) _ _
                   refine load_g (by rfl) 32 _ rfl _ _ rfl _ _ RN14.out hdu hdr (infoC' c) ?_)
                | (show wpList _ _ _ ({ dst := _, op := Op.load 32 (Operand.tmp 11), type := _, pos := _, after := _, guard := _ } :: _) _ _
                   refine load_g (by rfl) 32 _ rfl _ _ rfl _ _ RN11.out hdu hdr (infoC' c) ?_
                   go_wp2_with fail
                   go_meet
                   exact HS))
            · have hdw : decide (0 < c.wa) = false := decide_eq_false hwa
              have HF := Keep.mk (HFR.out (Int.not_lt.1 hwa))
              have s1 := fun w => short_t w d.sx HF.out.sx
              have s2 := fun w => short_t w d.sy HF.out.sy
              have d1 : decide (d.hd < 0) = false := decide_eq_false (by have := HF.out.hd; omega)
              have d2 : decide (255 < d.hd) = false := decide_eq_false (by have := HF.out.hd; omega)
              have d1' : ¬ d.hd < 0 := by have := HF.out.hd; omega
              have d2' : ¬ 255 < d.hd := by have := HF.out.hd; omega
              have hxx : d.x = c.x ∨ (d.x ≠ c.x ∧ -65536 ≤ d.x - c.x ∧ d.x - c.x ≤ 65536) := by
                by_cases q : d.x = c.x
                · exact .inl q
                · exact .inr ⟨q, (HF.out.x.resolve_left q).1, (HF.out.x.resolve_left q).2⟩
              have hyy : d.y = c.y ∨ (d.y ≠ c.y ∧ -65536 ≤ d.y - c.y ∧ d.y - c.y ≤ 65536) := by
                by_cases q : d.y = c.y
                · exact .inl q
                · exact .inr ⟨q, (HF.out.y.resolve_left q).1, (HF.out.y.resolve_left q).2⟩
              have HXY := Keep.mk (And.intro hxx hyy)
              clear hxx hyy
              go_wp2_with fail
              refine (s1 _).mono ?_
              rintro e w_ ⟨rfl, hw_⟩
              subst hw_
              clear s1
              go_wp2_with fail
              refine (s2 _).mono ?_
              rintro e w_ ⟨rfl, hw_⟩
              subst hw_
              clear s2
              obtain ⟨hxx, hyy⟩ := HXY.out
              clear HXY
              rcases hxx with qx | ⟨qx, qx1⟩
              · rw [qx] at n2
                rcases hyy with qy | ⟨qy, qy1⟩
                · rw [qy] at n3
                  go_wp2_with fail
                  go_meet
                  exact HS
                · have ky : IntKind.i64.wrap (d.y - c.y) = d.y - c.y := wi _ (by omega) (by omega)
                  have sy := fun w => short_t w (d.y - c.y) qy1
                  have by1 : (d.y != c.y) = true := by simp [qy]
                  have by2 : (d.y == c.y) = false := by simp [qy]
                  go_wp2_with fail
                  refine (sy _).mono ?_
                  rintro e v_ ⟨rfl, hw_⟩
                  subst hw_
                  clear sy
                  go_wp2_with fail
                  go_meet
                  exact HS
              · have kx : IntKind.i64.wrap (d.x - c.x) = d.x - c.x := wi _ (by omega) (by omega)
                have sx := fun w => short_t w (d.x - c.x) qx1
                have bx1 : (d.x != c.x) = true := by simp [qx]
                have bx2 : (d.x == c.x) = false := by simp [qx]
                go_wp2_with fail
                refine (sx _).mono ?_
                rintro e u_ ⟨rfl, hw_⟩
                subst hw_
                clear sx
                rcases hyy with qy | ⟨qy, qy1⟩
                · rw [qy] at n3
                  go_wp2_with fail
                  go_meet
                  exact HS
                · have ky : IntKind.i64.wrap (d.y - c.y) = d.y - c.y := wi _ (by omega) (by omega)
                  have sy := fun w => short_t w (d.y - c.y) qy1
                  have by1 : (d.y != c.y) = true := by simp [qy]
                  have by2 : (d.y == c.y) = false := by simp [qy]
                  go_wp2_with fail
                  refine (sy _).mono ?_
                  rintro e v_ ⟨rfl, hw_⟩
                  subst hw_
                  clear sy
                  go_wp2_with fail
                  go_meet
                  exact HS
          case rest =>
          replace HS := hcut
          clear hcut RN14w RN11 n4 n5 n6 n2 n3 m2 m3 b11
          rename World => w6
          have RN14 := Keep.mk (HS.out.boxGet k0m).range
          have RN11 := Keep.mk (HS.out.boxGet k1m).range
          have HX_ := Keep.mk (HS.out.boxGet k1m)
          have HO_ := Keep.mk (crv_one d)
          go_wp2_with (first
            | (show wpList _ _ _ ({ dst := _, op := Op.load 32 (Operand.tmp 14), type := _, pos := _, after := _, guard := _ } :: _) _ _
               refine load_g (by rfl) 32 _ rfl _ _ rfl _ _ RN14.out hdu hdr (infoC' d) ?_)
            | (show wpList _ _ _ ({ dst := _, op := Op.load 32 (Operand.tmp 11), type := _, pos := _, after := _, guard := _ } :: _) _ _
               refine load_g (by rfl) 32 _ rfl _ _ rfl _ _ RN11.out hdu hdr (infoC' c) ?_)
            | (show wpList _ _ _ ({ dst := _, op := Op.store 32 (Operand.tmp 11) _, type := _, pos := _, after := _, guard := _ } :: _) _ _
               refine store_at _ cb 0 (crv c) (crv d) 32 32 rfl rfl rfl rfl HX_.out (Nat.le_refl _) (infoC' d) HO_.out ?_))
          intro w2_ hS_ g_
          have S_ := hS_ _ _ (fr1 [boxA nb (crv d) 32] HS.out)
          rw [over_all (crv c) (crv d) rfl] at S_
          clear RN14 RN11
          change Sep w1 w2_ [boxA cb (crv d) 32, boxA nb (crv d) 32, boxA ab (crv c0 ++ crv cN) 37] at S_
          replace HS := Keep.mk S_
          clear S_ hS_ g_ HX_ HO_
          have RN11 := Keep.mk (HS.out.boxGet k0m).range
          have RN14 := Keep.mk (HS.out.boxGet k1m).range
          clear RN11 RN14
          have HS2 : Keep (Sep w1 w2_ [boxA cb (crv d) 32, boxA ab (crv c0 ++ crv cN) 37]) := ⟨HS.out.swap.tail⟩
          go_wp2_with fail
          go_roundw
          case rel => exact ⟨i + 1, d, by omega, rfl, HOD, HS2⟩
          case measure => simp [intOf]; omega
        · have hdo : (decide ((i : Int) < (n : Int)) = false) ∨ (decide ((i : Int) < (n : Int)) = true ∧ decide ((i : Int) < 200) = false) := by
            rcases hout with h | ⟨h1, h2⟩
            · exact .inl (decide_eq_false (by omega))
            · exact .inr ⟨decide_eq_true (by omega), decide_eq_false (by omega)⟩
          have HS2 : Keep (Sep w1 wr [boxA ab (crv c0 ++ crv cN) 37]) := ⟨HS.out.tail⟩
          rcases hdo with q | ⟨q1, q2⟩
          · have q' : ¬ (i : Int) < (n : Int) := of_decide_eq_false q
            go_wp2_with fail
            exact ⟨⟨k + 1, by omega, rfl, HS2⟩, by simp [intOf]; omega⟩
          · have q1' : (i : Int) < (n : Int) := of_decide_eq_true q1
            have q2' : ¬ (i : Int) < 200 := of_decide_eq_false q2
            go_wp2_with fail
            exact ⟨⟨k + 1, by omega, rfl, HS2⟩, by simp [intOf]; omega⟩
    · have hdk : decide ((k : Int) < 2) = false := decide_eq_false hlt
      go_wp2_with fail
      go_ret
      exact ⟨rfl, HG.out.trans HS.out.g⟩
end Go.Proofs.YtobdcngjpgndiaaDoor.Bo
