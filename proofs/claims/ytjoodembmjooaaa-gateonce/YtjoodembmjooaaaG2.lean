/- gate: New, Waits, Offer, Drop. -/
import Derived.Test.YtjoodembmjooaaaG1
namespace Go.Proofs.Ytjoodembmjooaaa
open Go Go.RowKit Go.Maps

abbrev pt (b : Nat) : Value := .pointer (some ⟨b, 0, none⟩)
def Gok (M : List Itn) : Prop := Srt M ∧ ∀ x ∈ M, I64 x.pl
/-- a gate, in which M waits -/
def gateA (gb : Nat) (M : List Itn) : As := exA (fun mb : Nat => [boxA gb [.map (some mb)] 48, mapA mb M, pureA (Gok M)])
theorem gate_open {w0 W : World} {l : List As} {gb : Nat} {M : List Itn} (h : Sep w0 W (gateA gb M :: l)) : ∃ mb, Sep w0 W (boxA gb [.map (some mb)] 48 :: mapA mb M :: l) ∧ Gok M := by
  obtain ⟨mb, h1⟩ := h.opn
  exact ⟨mb, h1.third.tail, h1.fact k2m⟩
theorem gate_shut {w0 W : World} {l : List As} {gb mb : Nat} {M : List Itn} (h : Sep w0 W (boxA gb [.map (some mb)] 48 :: mapA mb M :: l)) (g : Gok M) : Sep w0 W (gateA gb M :: l) :=
  Sep.cls (fun mb : Nat => [boxA gb [.map (some mb)] 48, mapA mb M, pureA (Gok M)]) mb (bk1 [_, _] (h.know g))
def ofE (M : List Itn) (p : Int) : Int := if (look M p).isSome then 180 else 0
def ofX (M : List Itn) (p : Int) (c : Cmd) : List Itn := if (look M p).isSome then M else ins (lgl p c) M
theorem Gok.ofX {M : List Itn} (h : Gok M) {p : Int} (hp : I64 p) (c : Cmd) : Gok (ofX M p c) := by
  unfold Go.Proofs.Ytjoodembmjooaaa.ofX
  cases hl : look M p with
  | some x => simpa using h
  | none =>
    refine ⟨by simpa using Srt.ins (x := lgl p c) h.1 hl, fun x hx => ?_⟩
    have hx : x ∈ ins (lgl p c) M := by simpa using hx
    rcases mem_ins.1 hx with rfl | hx
    · exact hp
    · exact h.2 x hx
theorem Gok.rmk {M : List Itn} (h : Gok M) (p : Int) : Gok (rmk M p) := ⟨h.1.rmk p, fun x hx => h.2 x (List.mem_filter.1 hx).1⟩
theorem Gok.nil : Gok [] := ⟨List.Pairwise.nil, fun x hx => by cases hx⟩
theorem len_ofX (M : List Itn) (p : Int) (c : Cmd) : (ofX M p c).length ≤ M.length + 1 := by
  unfold ofX
  split
  · omega
  · rw [len_ins]; omega
theorem len_rmk (M : List Itn) (p : Int) : (rmk M p).length ≤ M.length := List.length_filter_le _ _

set_option maxRecDepth 100000 in
set_option maxHeartbeats 4000000 in
theorem new_c (w0 W : World) (l : List As) (h : Sep w0 W l) :
    Calls Try.prog 8 #[] W fun e W' => ∃ gb, e = .returned (pt gb) ∧ Sep w0 W' (gateA gb [] :: l) := by
  have S1 := h.mapNew
  obtain ⟨W1, hW1⟩ : ∃ W1, W.alloc (.map #[] 0) = W1 := ⟨_, rfl⟩
  obtain ⟨mb, hmb⟩ : ∃ b, W.heap.size = b := ⟨_, rfl⟩
  rw [hW1, hmb] at S1
  have S2 := S1.newBox #[.map (some mb)] 48
  obtain ⟨W2, hW2⟩ : ∃ W2, W1.alloc (.cells #[.map (some mb)] 48) = W2 := ⟨_, rfl⟩
  obtain ⟨gb, hgb⟩ : ∃ b, W1.heap.size = b := ⟨_, rfl⟩
  rw [hW2, hgb] at S2
  have HS := Keep.mk (gate_shut S2 Gok.nil)
  clear S1 S2 h
  have hmm := @run_makeMap Try.prog
  go_enter Try.func8, Try.ntmps8
  go_wp2_with fail
  go_ret
  exact ⟨gb, rfl, HS.out⟩
set_option maxRecDepth 100000 in
set_option maxHeartbeats 4000000 in
theorem waits_o (w0 W : World) (l : List As) (gb mb : Nat) (M : List Itn) (p : Int) (hp : I64 p) (h : Sep w0 W (boxA gb [.map (some mb)] 48 :: mapA mb M :: l)) :
    Calls Try.prog 13 #[pt gb, iv p] W fun e W' => e = .returned (.bool (look M p).isSome) ∧ W.grownBy W' none := by
  have c0 : W.cell? ⟨gb, 0, none⟩ = some (.map (some mb)) := (h.boxGet k0m).cellv 0 _ rfl
  have hl := (h.mapGet k1m).look p hp
  obtain ⟨x, hx⟩ : ∃ x, vOf (look M p) = itw x := by
    cases look M p with
    | none => exact ⟨zI, rfl⟩
    | some x => exact ⟨x, rfl⟩
  rw [hx] at hl
  generalize (look M p).isSome = r at hl ⊢
  clear hx h hp
  unfold itw itv at hl
  go_enter Try.func13, Try.ntmps13
  go_wp2_with fail
  go_ret
  exact ⟨rfl, by repeat (first | exact World.grownBy.refl _ _ | exact World.grownBy_alloc _ _ _)⟩
theorem waits_c (w0 W : World) (l : List As) (gb : Nat) (M : List Itn) (p : Int) (hp : I64 p) (h : Sep w0 W (gateA gb M :: l)) :
    Calls Try.prog 13 #[pt gb, iv p] W fun e W' => e = .returned (.bool (look M p).isSome) ∧ W.grownBy W' none := by
  obtain ⟨mb, h1, _⟩ := gate_open h
  exact waits_o w0 W l gb mb M p hp h1
set_option maxRecDepth 100000 in
set_option maxHeartbeats 4000000 in
theorem drop_c (w0 W : World) (l : List As) (gb : Nat) (M : List Itn) (p : Int) (hp : I64 p) (h : Sep w0 W (gateA gb M :: l)) :
    Calls Try.prog 10 #[pt gb, iv p] W fun e W' => e = .returned (.bool (look M p).isSome) ∧ Sep w0 W' (gateA gb (rmk M p) :: l) := by
  obtain ⟨mb, h1, hg⟩ := gate_open h
  have HC := Keep.mk (waits_o w0 W l gb mb M p hp h1)
  have HS := Keep.mk h1
  have HG := Keep.mk hg
  have HP := Keep.mk hp
  generalize (look M p).isSome = r at HC ⊢
  clear h h1 hg hp
  go_enter Try.func10, Try.ntmps10
  go_wp2_with fail
  refine (HC.out).mono ?_
  rintro e w2 ⟨rfl, g2⟩
  replace HS := Keep.mk (HS.out.grown g2)
  clear HC g2
  have c0 : w2.cell? ⟨gb, 0, none⟩ = some (.map (some mb)) := (HS.out.boxGet k0m).cellv 0 _ rfl
  obtain ⟨W3, hdl, m3, g3, _⟩ := (HS.out.mapGet k1m).drop p HP.out 0 HG.out.1
  have HS3 := Keep.mk (gate_shut (((fr1 [_] HS.out).mapTo m3 g3).swap) (HG.out.rmk p))
  clear m3 g3 HS
  go_wp2_with fail
  go_ret
  exact ⟨rfl, HS3.out⟩
set_option maxRecDepth 100000 in
set_option maxHeartbeats 8000000 in
theorem offer_c (w0 W : World) (l : List As) (gb : Nat) (M : List Itn) (p : Int) (c : Cmd) (hp : I64 p) (hn : M.length < 4611686018427387904) (h : Sep w0 W (gateA gb M :: l)) :
    Calls Try.prog 9 #[pt gb, iv p, .agg (cmv c).toArray] W fun e W' => e = .returned (iv (ofE M p)) ∧ Sep w0 W' (gateA gb (ofX M p c) :: l) := by
  obtain ⟨mb, h1, hg⟩ := gate_open h
  have S1 := h1.newBox (cmv c).toArray 27
  obtain ⟨W1, hW1⟩ : ∃ W1, W.alloc (.cells (cmv c).toArray 27) = W1 := ⟨_, rfl⟩
  obtain ⟨cb, hcb⟩ : ∃ b, W.heap.size = b := ⟨_, rfl⟩
  rw [hW1, hcb] at S1
  have HC := Keep.mk (waits_o w0 W1 (boxA cb (cmv c) 27 :: l) gb mb M p hp (by exact bk1 [_, _] S1))
  have HB : Keep (Sep w0 W1 (boxA cb (cmv c) 27 :: boxA gb [.map (some mb)] 48 :: mapA mb M :: l)) := ⟨S1⟩
  have HE : Keep (ofE M p = if (look M p).isSome then 180 else 0) := ⟨rfl⟩
  have HX : Keep (ofX M p c = if (look M p).isSome then M else ins (lgl p c) M) := ⟨rfl⟩
  have HLK := Keep.mk (fun h0 : (look M p).isSome = false => (by simpa using h0 : look M p = none))
  have HGX := Keep.mk (hg.ofX hp c)
  generalize ofX M p c = M2 at HX HGX ⊢
  generalize ofE M p = e2 at HE ⊢
  generalize hr : (look M p).isSome = r at HC HE HX HLK
  have HP := Keep.mk hp
  have HL := Keep.mk (fun W => legal_c W p c)
  have HLN := Keep.mk (show M.length < 9223372036854775807 by omega)
  clear h h1 hp hn S1 hg hr
  have hcl : cmv c = [iv c.th, iv c.tu, .bool c.fi, .bool c.bo] := rfl
  obtain ⟨du, hdu, hdr⟩ := underM
  rw [hcl] at hW1 ⊢
  clear hcl
  cases r
  case true =>
    go_enter Try.func9, Try.ntmps9
    go_wp2_with fail
    refine (HC.out).mono ?_
    rintro e w2 ⟨rfl, g2⟩
    replace HB := Keep.mk (HB.out.grown g2)
    clear HC g2
    go_wp2_with fail
    go_ret
    exact ⟨by rw [HE.out]; rfl, by rw [HX.out]; exact gate_shut HB.out.tail (by have := HGX.out; rw [HX.out] at this; exact this)⟩
  case false =>
    have HPL : Keep ((lgl p c).pl = p) := ⟨rfl⟩
    have HY : Keep (I64 (lgl p c).pl ∧ look M (lgl p c).pl = none) := ⟨HP.out, HLK.out rfl⟩
    clear HLK
    generalize lgl p c = y at HX HY HL HPL
    go_enter Try.func9, Try.ntmps9
    go_wp2_with fail
    refine (HC.out).mono ?_
    rintro e w2 ⟨rfl, g2⟩
    replace HB := Keep.mk (HB.out.grown g2)
    clear HC g2 hW1 hcb
    go_wp2_with fail
    refine region_X (S := fun w' => Sep w0 w' (boxA cb (cmv c) 27 :: boxA gb [.map (some mb)] 48 :: mapA mb M :: l)) [8] (by kernel_rfl) (HB.out.grown (gr_drew _ _)) (fun hHeld => ?_)
    replace HB := Keep.mk hHeld
    refine wpAnyX_take (i := 0) (oi := _) (v := ?_) rfl (by kernel_rfl) (by kernel_rfl) (by kernel_rfl) (by kernel_rfl) (by kernel_rfl) (fun _ _ _ h => h) (Or.inl ⟨by rfl, ?_⟩) (by assumption) ?_
    rotate_left
    · (intro w hSw; go_simp; first | done | (with_reducible rfl))
    simp only [Act.put, List.getElem_toArray, List.getElem_cons_zero, List.setIfInBounds_toArray, List.set_cons_zero, List.set_cons_succ]
    refine wpAnyX_take (i := 1) (oi := _) (v := ?_) rfl (by kernel_rfl) (by kernel_rfl) (by kernel_rfl) (by kernel_rfl) (by kernel_rfl) (fun _ _ _ h => h) (Or.inl ⟨by rfl, ?_⟩) (by assumption) ?_
    rotate_left
    · (intro w hSw; go_simp; first | done | (with_reducible rfl))
    simp only [Act.put, List.getElem_toArray, List.getElem_cons_succ, List.getElem_cons_zero, List.setIfInBounds_toArray, List.set_cons_zero, List.set_cons_succ]
    refine wpAnyX_take (i := 2) (oi := _) (v := ?_) rfl (by kernel_rfl) (by kernel_rfl) (by kernel_rfl) (by kernel_rfl) (by kernel_rfl) (fun _ _ _ h => h) (Or.inl ⟨by rfl, ?_⟩) (by assumption) ?_
    rotate_left
    · (intro w hSw; go_simp; first | done | (with_reducible rfl))
    simp only [Act.put, List.getElem_toArray, List.getElem_cons_succ, List.getElem_cons_zero, List.setIfInBounds_toArray, List.set_cons_zero, List.set_cons_succ]
    refine wpAnyX_take (i := 3) (oi := _) (v := ?_) rfl (by kernel_rfl) (by kernel_rfl) (by kernel_rfl) (by kernel_rfl) (by kernel_rfl) (fun _ _ _ h => h) (Or.inl ⟨by rfl, ?_⟩) (by assumption) ?_
    rotate_left
    · (intro w hSw; have q0 := (hSw.boxGet k1m).cellv 0 _ rfl; go_simp; first | done | (with_reducible rfl))
    simp only [Act.put, List.getElem_toArray, List.getElem_cons_succ, List.getElem_cons_zero, List.setIfInBounds_toArray, List.set_cons_zero, List.set_cons_succ]
    refine wpAnyX_take (i := 4) (oi := _) (v := ?_) rfl (by kernel_rfl) (by kernel_rfl) (by kernel_rfl) (by kernel_rfl) (by kernel_rfl) (fun _ _ _ h => h) (Or.inl ⟨by rfl, ?_⟩) (by assumption) ?_
    rotate_left
    · (intro w hSw; go_simp; first | done | (with_reducible rfl))
    simp only [Act.put, List.getElem_toArray, List.getElem_cons_succ, List.getElem_cons_zero, List.setIfInBounds_toArray, List.set_cons_zero, List.set_cons_succ]
    refine wpAnyX_take (i := 5) (oi := _) (v := ?_) rfl (by kernel_rfl) (by kernel_rfl) (by kernel_rfl) (by kernel_rfl) (by kernel_rfl) (fun _ _ _ h => h) (Or.inl ⟨by rfl, ?_⟩) (by assumption) ?_
    rotate_left
    · (intro w hSw; go_simp; first | done | (with_reducible rfl))
    simp only [Act.put, List.getElem_toArray, List.getElem_cons_succ, List.getElem_cons_zero, List.setIfInBounds_toArray, List.set_cons_zero, List.set_cons_succ]
    refine wpAnyX_take (i := 6) (oi := _) (v := .agg (cmv c).toArray) rfl (by kernel_rfl) (by kernel_rfl) (by kernel_rfl) (by kernel_rfl) (by kernel_rfl) (fun _ _ _ h => h) (Or.inl ⟨by rfl, ?_⟩) (by assumption) ?_
    · intro w hSw
      have q0 := (hSw.boxGet k0m).cellv 0 _ rfl
      have q1 := (hSw.boxGet k0m).cellv 1 _ rfl
      have q2 := (hSw.boxGet k0m).cellv 2 _ rfl
      have q3 := (hSw.boxGet k0m).cellv 3 _ rfl
      go_simp
      first | done | rfl
    simp only [Act.put, List.getElem_toArray, List.getElem_cons_succ, List.getElem_cons_zero, List.setIfInBounds_toArray, List.set_cons_zero, List.set_cons_succ]
    refine wpAnyX_one (i := 7) (by kernel_rfl) rfl (fun K hK => ?_)
    go_simp
    refine (HL.out _).mono ?_
    rintro e wg ⟨rfl, hg⟩
    replace HB := Keep.mk (HB.out.grown hg)
    refine hK.out _ _ HB.out (fun hHeld => ?_)
    clear hK K hg
    refine wpAnyX_late (i := 8) (by kernel_rfl) rfl (by kernel_rfl) (fun K hK => ?_)
    obtain ⟨W9, r9, m9, g9, _⟩ := (HB.out.mapGet k2m).put y HY.out.1 HY.out.2 HLN.out
    have HB9 := Keep.mk (((fr1 [_, _] HB.out).mapTo m9 g9))
    clear m9 g9
    rw [HPL.out] at r9
    go_simp
    refine hK.out _ _ ?_
    clear hK K
    refine wpAnyX_done (by kernel_rfl) ?_ _
    go_wp2_with fail
    go_ret
    exact ⟨by rw [HE.out]; rfl, by rw [HX.out]; exact gate_shut (fr1 [_] HB9.out).tail.swap (by have := HGX.out; rw [HX.out] at this; exact this)⟩
end Go.Proofs.Ytjoodembmjooaaa
