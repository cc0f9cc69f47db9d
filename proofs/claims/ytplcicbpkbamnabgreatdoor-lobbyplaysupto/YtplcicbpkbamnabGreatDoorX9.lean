import Derived.Test.YtplcicbpkbamnabGreatDoorX8
import Derived.Deep.RegionHeld
import Derived.Laws.DeepStrings4
import Derived.Test.YtplcicbpkbamnabGreatDoorX7
import Derived.Deep.DeepCutAuto
/- the reference: All. -/
namespace Go.Proofs.YtplcicbpkbamnabGreatDoor.Lo.Na
open Go Go.RowKit

set_option maxRecDepth 100000 in
theorem under54 : Tryz.prog.underlying 127 = some (.slice 130) := by kernel_rfl
set_option maxRecDepth 100000 in
theorem info75 : ∃ i, Tryz.prog.info? 130 = some i ∧ i.size = 2 ∧ i.bytes = 24 ∧ i.zero = some (.agg #[.int .i64 0, .string ⟨#[]⟩]) := ⟨_, rfl, by kernel_rfl, by kernel_rfl, by kernel_rfl⟩
/-- runes as they lie in memory -/
def pcs (ps : List (Nat × List UInt8)) : List Value := ps.flatMap fun p => [.int .i64 (p.1 : Int), .string (mk p.2)]
set_option maxRecDepth 100000 in
theorem pcs_len (ps : List (Nat × List UInt8)) : (pcs ps).length = ps.length * 2 := by
  induction ps with
  | nil => rfl
  | cons p r ih => simp only [pcs, List.flatMap_cons, List.length_append, List.length_cons, List.length_nil] at ih ⊢; omega
set_option maxRecDepth 100000 in
theorem pcs_app (a b : List (Nat × List UInt8)) : pcs (a ++ b) = pcs a ++ pcs b := by simp [pcs]
abbrev RowP (B : Nat) (w : World) (v : Value) (ps : List (Nat × List UInt8)) : Prop := w.ownsRow B 130 2 v ps.length (pcs ps)
set_option maxRecDepth 100000 in
theorem RowP.lt {B : Nat} {w : World} {v : Value} {ps : List (Nat × List UInt8)} (h : RowP B w v ps) {k : Nat} (e : v.ownBlock = some k) : B ≤ k ∧ k < w.heap.size := by
  obtain ⟨_, h2⟩ := h
  rcases h2 with ⟨rfl, _⟩ | ⟨g, cap, cur, rfl, a, b, c⟩
  · cases e
  · cases e; exact ⟨a, (Array.getElem?_eq_some_iff.1 b).1⟩
set_option maxRecDepth 100000 in
theorem RowP.kept {B : Nat} {w w' : World} {v : Value} {ps : List (Nat × List UInt8)} (h : RowP B w v ps) (hg : w.grownBy w' none) : RowP B w' v ps := by
  have hl : ∀ k, v.ownBlock = some k → k < w.heap.size := fun k e => (RowP.lt h e).2
  obtain ⟨h1, h2⟩ := h
  refine ⟨h1, ?_⟩
  rcases h2 with h2 | ⟨g, cap, cur, rfl, a, b, c⟩
  · exact .inl h2
  · exact .inr ⟨g, cap, cur, rfl, a, by rw [hg.block g (hl g rfl) (by simp), b], c⟩
set_option maxRecDepth 100000 in
theorem RowP.nil (B : Nat) (w : World) : RowP B w (.slice none 0 0) [] := ⟨rfl, .inl ⟨rfl, rfl⟩⟩
/-- one rune more -/
theorem app_piece {w0 w : World} {v : Value} {ps : List (Nat × List UInt8)} (h : RowP w0.heap.size w v ps) (hg : w0.grownBy w none) (p : Nat × List UInt8) (hz : ps.length ≤ 2000000) :
    ∃ v' w', Keep ((Builtin.append_ #[127, 127] 127 #[v, .slice (some ⟨w.heap.size, 0, none⟩) 1 1]).run Tryz.prog (w.alloc (.cells #[.int .i64 (p.1 : Int), .string (mk p.2)] 130)) = .ok v' w') ∧ Keep (RowP w0.heap.size w' v' (ps ++ [p])) ∧ Keep (w0.grownBy w' none) := by
  obtain ⟨i, h1, h2, h3, h4⟩ := info75
  have ga := World.grownBy_alloc w (.cells #[.int .i64 (p.1 : Int), .string (mk p.2)] 130) none
  have h' := h.kept ga
  obtain ⟨v', w', r1, r2, r3, _, r5⟩ := run_append_own_at (P := Tryz.prog) _ w0.heap.size 127 127 130 i (.agg #[.int .i64 0, .string ⟨#[]⟩]) 2 24 under54 h1 h4 h2 h3 rfl (by decide) v ps.length _ h' ⟨w.heap.size, 0, none⟩ 1 1 [.int .i64 (p.1 : Int), .string (mk p.2)] rfl (fun j u hu => by
      rw [Addr.add_mid, Nat.zero_add]
      exact (Has.newA w #[.int .i64 (p.1 : Int), .string (mk p.2)] 130).cellv j _ hu) (fun u hu => by simp at hu; rcases hu with rfl | rfl <;> rfl) (by unfold maxLen; omega) (by omega) (Nat.le_trans hg.size ga.size)
  refine ⟨v', w', ⟨r1⟩, ⟨?_⟩, ⟨?_⟩⟩
  · have e : pcs ps ++ [.int .i64 (p.1 : Int), .string (mk p.2)] = pcs (ps ++ [p]) := by rw [pcs_app]; rfl
    rw [e] at r2
    unfold RowP
    rw [List.length_append]; exact r2
  · have hg1 := hg.trans ga
    cases hv : v.ownBlock with
    | none => rw [hv] at r3; exact hg1.trans r3
    | some q => rw [hv] at r3; exact gr_new hg1 r3 (h.lt hv).1
set_option maxRecDepth 100000 in
theorem wpList_append_runP {P : Program} (w : World) {ops : Array Oper} {rest : List Oper} {o : Oper} {a : Act} {Q : Exit → Act → World → Prop} (hgd : o.guard = none) (s x : Operand) (t u : TypeId)
    (ho : o.op = .call { callee := .builtin .append, args := #[s, x], argTypes := #[t, u] }) (v y : Value) (hs : a.eval s = v) (hx : a.eval x = y) {v' : Value} {w' : World}
    (hr : (Builtin.append_ #[t, u] o.type #[v, y]).run P w = .ok v' w') (h : wpList P ops Q rest (a.put o.dst v') w') : wpList P ops Q (o :: rest) a w :=
  wpList_plain hgd fun _ hK => by
    unfold Oper.wp execOp
    simp only [ho, resolve, invoke, builtin, Sem.run_bind, Sem.run_pure, Result.andThen_ok, List.map_toArray, List.map_cons, List.map_nil, hs, hx, hr]
    exact hK _ _ h
set_option maxRecDepth 100000 in
theorem wp_append_run {P : Program} {o : Oper} {a : Act} {w : World} {K : Act → World → Prop} {Q : Exit → Act → World → Prop} (s x : Operand) (t u : TypeId)
    (ho : o.op = .call { callee := .builtin .append, args := #[s, x], argTypes := #[t, u] }) (v y : Value) (hs : a.eval s = v) (hx : a.eval x = y) {v' : Value} {w' : World}
    (hr : (Builtin.append_ #[t, u] o.type #[v, y]).run P w = .ok v' w') (h : K (a.put o.dst v') w') : o.wp P a w K Q := by
  unfold Oper.wp execOp
  simp only [ho, resolve, invoke, builtin, Sem.run_bind, Sem.run_pure, Result.andThen_ok, List.map_toArray, List.map_cons, List.map_nil, hs, hx, hr]
  exact h
set_option maxRecDepth 100000 in
theorem slice9 (s : ByteArray) (i j : Nat) (hj : j ≤ s.size) (hij : i ≤ j) (W : World) : (Instr.slice 9 (.string s) (some (.int .i64 (i : Int))) (some (.int .i64 (j : Int))) none).run Tryz.prog W = .ok (.string (s.extract i j)) W := by
  rw [run_slice_string_if W 9 s .i64 .i64 i j under9, if_pos ⟨by omega, by omega⟩, if_pos ⟨by omega, by omega⟩]
  rfl
set_option maxRecDepth 100000 in
theorem piece_ext {s : ByteArray} {k : Nat} {p : Nat × List UInt8} (hp : (pieces (sl s))[k]? = some p) : s.extract (posn s k) (posn s (k + 1)) = mk p.2 := by
  obtain ⟨h1, h2, h3, h4, h5, h6, h7⟩ := piece_len hp
  apply sl_inj
  rw [sl_ext, sl_mk, ← h7, List.drop_take]
  unfold posn
  rw [h5]
  congr 1
  omega

set_option maxRecDepth 100000 in
set_option maxHeartbeats 8000000 in
theorem all_c (s : ByteArray) (w : World) (hs : s.size ≤ 1048576) :
    Calls Tryz.prog 68 #[.string s] w fun e w' => ∃ v, e = .returned v ∧ RowP w.heap.size w' v (pieces (sl s)) ∧ w.grownBy w' none := by
  have hrn := rn_le s
  go_enter Tryz.func68, Tryz.ntmps68
  go_wp2_with fail
  go_loopw [3, 4] (fun v i w' => ∃ k : Nat, i = .int .i64 (posn s k) ∧ k ≤ rn s ∧ Keep (RowP w.heap.size w' v ((pieces (sl s)).take k)) ∧ Keep (w.grownBy w' none)) (fun _ i _ => s.size - (intOf i).toNat)
  case atStart => exact ⟨0, rfl, Nat.zero_le _, ⟨RowP.nil _ _⟩, ⟨World.grownBy.refl _ _⟩⟩
  case round =>
    obtain ⟨k, rfl, hk1, HR, HG⟩ := hrel
    by_cases hk : k = rn s
    · have hpe : posn s k = s.size := by rw [hk]; exact posn_end s
      have HRE : Keep (RowP w.heap.size wr u3 (pieces (sl s))) := ⟨by have := HR.out; rwa [hk, rn, List.take_length] at this⟩
      rw [hpe]
      clear hpe HR hk
      go_wp2_with fail
      go_ret
      exact ⟨_, rfl, HRE.out, HG.out⟩
    · obtain ⟨p, hp⟩ : ∃ p, (pieces (sl s))[k]? = some p := ⟨_, List.getElem?_eq_getElem (show k < (pieces (sl s)).length by unfold rn at hk hk1; omega)⟩
      obtain ⟨l1, l2, l3, l4, l5, l6, l7⟩ := piece_len hp
      have hx := piece_ext hp
      obtain ⟨P1, hP1⟩ : ∃ q, posn s k = q := ⟨_, rfl⟩
      obtain ⟨P2, hP2⟩ : ∃ q, posn s (k + 1) = q := ⟨_, rfl⟩
      rw [show (flat ((pieces (sl s)).take k)).length = posn s k from rfl, hP1] at l3 l4 l5 l7
      rw [show (flat ((pieces (sl s)).take (k + 1))).length = posn s (k + 1) from rfl, hP2] at l5 l6
      rw [hP1, hP2] at hx
      rw [sl_len] at l4 l6
      have HP2 := Keep.mk hP2
      rw [hP1]
      obtain ⟨b, hb⟩ : ∃ b, (sl s)[P1]? = some b := ⟨_, List.getElem?_eq_getElem (by rw [sl_len]; exact l4)⟩
      have hdr : (sl s).drop P1 = b :: (sl s).drop (P1 + 1) := by
        rw [List.drop_eq_getElem_cons (by rw [sl_len]; exact l4)]
        congr 1
        exact (List.getElem?_eq_some_iff.1 hb).2
      have hspec := szr_spec b ((sl s).drop (P1 + 1))
      rw [← hdr, l3, ← szr_drop] at hspec
      have hsz := size_c s P1 b
      have HSZ := Keep.mk (fun ww => hsz ww l4 (by omega) hb)
      have hlk : ((pieces (sl s)).take k).length ≤ 2000000 := by rw [List.length_take]; unfold rn at hrn; omega
      have HLK := Keep.mk hlk
      have HAE : Keep ((pieces (sl s)).take k ++ [p] = (pieces (sl s)).take (k + 1)) := ⟨by rw [List.take_add_one, hp]; rfl⟩
      have HP := Keep.mk hp
      have HL := Keep.mk l7
      clear hsz hb hdr hP1 hP2 l3 l7 hp hk hlk
      go_wp2_with fail
      refine (HSZ.out wr).mono ?_
      rintro e wq ⟨rfl, hwq⟩
      subst hwq
      rcases hspec with ⟨d1, d2, d3⟩ | ⟨d3, d4⟩
      · have e1 : p.1 = 65533 := congrArg Prod.fst d1
        have e2 : p.2.length = 1 := congrArg Prod.snd d1
        rw [d3]
        obtain ⟨v', w', HA1, HA2, HA3⟩ := app_piece HR.out HG.out p HLK.out
        rw [HAE.out] at HA2
        rw [e1] at HA1
        rw [show P2 = P1 + 1 by omega] at hx
        have HX := Keep.mk l5
        clear d1 d2 d3 HSZ l5 e1
        go_wp2_with (at_builtin; refine wpList_append_runP _ rfl (.tmp 15) (.tmp 22) 127 127 rfl _ _ rfl rfl HA1.out ?_)
        go_roundw
        case rel => exact ⟨k + 1, by rw [HP2.out]; simp; have := HX.out; omega, by unfold rn; have := (List.getElem?_eq_some_iff.1 HP.out).1; omega, HA2, HA3⟩
        case measure => simp [intOf]; omega
      · rw [d3]
        have hg1 := gr_drew wq none
        obtain ⟨v', w', HA1, HA2, HA3⟩ := app_piece (HR.out.kept hg1) (HG.out.trans hg1) p HLK.out
        rw [HAE.out] at HA2
        obtain ⟨m, hm⟩ : ∃ m, p.2.length = m := ⟨_, rfl⟩
        rw [hm] at l1 l2 l5 d4 HL ⊢
        have HNB : Keep (nmb (sl (mk p.2)) = (p.1 : Int)) := ⟨by rw [sl_mk, ← HL.out]; exact d4⟩
        have hzx : (mk p.2).size = m := by rw [mk_size, hm]
        have hPP : (P1 : Int) + m = P2 := by omega
        have hsl : ∀ W, (Instr.slice 9 (.string s) (some (.int .i64 (P1 : Int))) (some (.int .i64 (P2 : Int))) none).run Tryz.prog W = .ok (.string (mk p.2)) W := fun W => by
          rw [← hx, slice9 s P1 P2 (by omega) (by omega)]
        obtain ⟨X, hX⟩ : ∃ X, mk p.2 = X := ⟨_, rfl⟩
        rw [hX] at HA1 HNB hzx hsl
        have hm0 : ¬ (m : Int) = 0 := by omega
        have HM : Keep (P2 = P1 + m) := ⟨l5⟩
        clear hX hm hx d3 d4 HSZ HL HR HG HLK HAE l5
        have hw64 : IntKind.i64.wrap ((P1 : Int) + m) = P2 := by rw [hPP]; simp [IntKind.wrap, show IntKind.i64.bits = 64 from rfl]; omega
        clear hPP
        go_upto_region 8 with fail
        refine wp_region_held_drew (S := fun _ => True) (by kernel_rfl) trivial (fun hHeld => ?_)
        refine wpAnyH_take (i := 0) (oi := _) (v := ?_) rfl (by kernel_rfl) (by kernel_rfl) (by kernel_rfl) (fun _ _ _ h => h) (Or.inl ⟨by rfl, ?_⟩) (by assumption) ?_
        rotate_left
        · (intro w hSw; go_simp; first | done | (with_reducible rfl))
        simp only [Act.put, List.getElem_toArray, List.getElem_cons_zero, List.setIfInBounds_toArray, List.set_cons_zero, List.set_cons_succ]
        refine wpAnyH_take (i := 1) (oi := _) (v := ?_) rfl (by kernel_rfl) (by kernel_rfl) (by kernel_rfl) (fun _ _ _ h => h) (Or.inl ⟨by rfl, ?_⟩) (by assumption) ?_
        rotate_left
        · (intro w hSw; go_simp; first | done | (with_reducible rfl))
        simp only [Act.put, List.getElem_toArray, List.getElem_cons_succ, List.getElem_cons_zero, List.setIfInBounds_toArray, List.set_cons_zero, List.set_cons_succ]
        refine wpAnyH_take (i := 2) (oi := _) (v := ?_) rfl (by kernel_rfl) (by kernel_rfl) (by kernel_rfl) (fun _ _ _ h => h) (Or.inl ⟨by rfl, ?_⟩) (by assumption) ?_
        rotate_left
        · (intro w hSw; go_simp; first | done | (with_reducible rfl))
        simp only [Act.put, List.getElem_toArray, List.getElem_cons_succ, List.getElem_cons_zero, List.setIfInBounds_toArray, List.set_cons_zero, List.set_cons_succ]
        refine wpAnyH_take (i := 3) (oi := _) (v := ?_) rfl (by kernel_rfl) (by kernel_rfl) (by kernel_rfl) (fun _ _ _ h => h) (Or.inl ⟨by rfl, ?_⟩) (by assumption) ?_
        rotate_left
        · (intro w hSw; go_simp; first | done | (with_reducible rfl))
        simp only [Act.put, List.getElem_toArray, List.getElem_cons_succ, List.getElem_cons_zero, List.setIfInBounds_toArray, List.set_cons_zero, List.set_cons_succ]
        refine wpAnyH_take (i := 4) (oi := _) (v := ?_) rfl (by kernel_rfl) (by kernel_rfl) (by kernel_rfl) (fun _ _ _ h => h) (Or.inl ⟨by rfl, ?_⟩) (by assumption) ?_
        rotate_left
        · (intro w hSw; go_simp; first | done | (with_reducible rfl))
        simp only [Act.put, List.getElem_toArray, List.getElem_cons_succ, List.getElem_cons_zero, List.setIfInBounds_toArray, List.set_cons_zero, List.set_cons_succ]
        refine wpAnyH_take (i := 5) (oi := _) (v := ?_) rfl (by kernel_rfl) (by kernel_rfl) (by kernel_rfl) (fun _ _ _ h => h) (Or.inl ⟨by rfl, ?_⟩) (by assumption) ?_
        rotate_left
        · (intro w hSw; go_simp; first | done | (with_reducible rfl))
        simp only [Act.put, List.getElem_toArray, List.getElem_cons_succ, List.getElem_cons_zero, List.setIfInBounds_toArray, List.set_cons_zero, List.set_cons_succ]
        refine wpAnyH_take (i := 6) (oi := _) (v := ?_) rfl (by kernel_rfl) (by kernel_rfl) (by kernel_rfl) (fun _ _ _ h => h) (Or.inl ⟨by rfl, ?_⟩) (by assumption) ?_
        rotate_left
        · (intro w hSw; go_simp; first | done | (with_reducible rfl))
        simp only [Act.put, List.getElem_toArray, List.getElem_cons_succ, List.getElem_cons_zero, List.setIfInBounds_toArray, List.set_cons_zero, List.set_cons_succ]
        refine wpAnyH_take (i := 8) (oi := _) (v := ?_) rfl (by kernel_rfl) (by kernel_rfl) (by kernel_rfl) (fun _ _ _ h => h) (Or.inl ⟨by rfl, ?_⟩) (by assumption) ?_
        rotate_left
        · (intro w hSw; go_simp; first | done | (with_reducible rfl))
        simp only [Act.put, List.getElem_toArray, List.getElem_cons_succ, List.getElem_cons_zero, List.setIfInBounds_toArray, List.set_cons_zero, List.set_cons_succ]
        refine wpAnyH_take (i := 9) (oi := _) (v := ?_) rfl (by kernel_rfl) (by kernel_rfl) (by kernel_rfl) (fun _ _ _ h => h) (Or.inl ⟨by rfl, ?_⟩) (by assumption) ?_
        rotate_left
        · (intro w hSw; go_simp; first | done | (with_reducible rfl))
        simp only [Act.put, List.getElem_toArray, List.getElem_cons_succ, List.getElem_cons_zero, List.setIfInBounds_toArray, List.set_cons_zero, List.set_cons_succ]
        refine wpAnyH_take (i := 10) (oi := _) (v := ?_) rfl (by kernel_rfl) (by kernel_rfl) (by kernel_rfl) (fun _ _ _ h => h) (Or.inl ⟨by rfl, ?_⟩) (by assumption) ?_
        rotate_left
        · (intro w hSw; go_simp; first | done | (with_reducible rfl))
        simp only [Act.put, List.getElem_toArray, List.getElem_cons_succ, List.getElem_cons_zero, List.setIfInBounds_toArray, List.set_cons_zero, List.set_cons_succ]
        refine wpAnyH_take (i := 11) (oi := _) (v := ?_) rfl (by kernel_rfl) (by kernel_rfl) (by kernel_rfl) (fun _ _ _ h => h) (Or.inl ⟨by rfl, ?_⟩) (by assumption) ?_
        rotate_left
        · (intro w hSw; go_simp; first | done | (with_reducible rfl))
        simp only [Act.put, List.getElem_toArray, List.getElem_cons_succ, List.getElem_cons_zero, List.setIfInBounds_toArray, List.set_cons_zero, List.set_cons_succ]
        refine wpAnyH_take (i := 12) (oi := _) (v := ?_) rfl (by kernel_rfl) (by kernel_rfl) (by kernel_rfl) (fun _ _ _ h => h) (Or.inl ⟨by rfl, ?_⟩) (by assumption) ?_
        rotate_left
        · (intro w hSw; go_simp; first | done | (with_reducible rfl))
        simp only [Act.put, List.getElem_toArray, List.getElem_cons_succ, List.getElem_cons_zero, List.setIfInBounds_toArray, List.set_cons_zero, List.set_cons_succ]
        refine wpAnyH_take (i := 13) (oi := _) (v := ?_) rfl (by kernel_rfl) (by kernel_rfl) (by kernel_rfl) (fun _ _ _ h => h) (Or.inl ⟨by rfl, ?_⟩) (by assumption) ?_
        rotate_left
        · (intro w hSw; go_simp; first | done | (with_reducible rfl))
        simp only [Act.put, List.getElem_toArray, List.getElem_cons_succ, List.getElem_cons_zero, List.setIfInBounds_toArray, List.set_cons_zero, List.set_cons_succ]
        refine wpAnyH_ready (rs := [7]) (by kernel_rfl) (by simp) ?_
        refine AllReadyH.cons rfl (fun K hK => ?_) AllReadyH.nil
        go_simp
        go_wp2_with (go_at_call 100; refine (number_c X _ (by omega) (by omega)).mono ?_; rintro e wz ⟨rfl, hwz⟩; subst hwz; rw [HNB.out])
        refine hK.out _ _ trivial (fun hHeld => ?_)
        clear hK K
        refine wpAnyH_take (i := 14) (oi := _) (v := ?_) rfl (by kernel_rfl) (by kernel_rfl) (by kernel_rfl) (fun _ _ _ h => h) (Or.inl ⟨by rfl, ?_⟩) (by assumption) ?_
        rotate_left
        · (intro w hSw; go_simp; first | done | (with_reducible rfl))
        simp only [Act.put, List.getElem_toArray, List.getElem_cons_succ, List.getElem_cons_zero, List.setIfInBounds_toArray, List.set_cons_zero, List.set_cons_succ]
        refine wpAnyH_ready (rs := [15]) (by kernel_rfl) (by simp) ?_
        refine AllReadyH.cons rfl (fun K hK => ?_) AllReadyH.nil
        go_simp
        refine hK.out _ _ trivial (fun hHeld => ?_)
        clear hK K
        refine wpAnyH_ready (rs := [16]) (by kernel_rfl) (by simp) ?_
        refine AllReadyH.cons rfl (fun K hK => ?_) AllReadyH.nil
        refine wp_append_run (.tmp 26) (.tmp 41) 127 127 rfl _ _ rfl rfl HA1.out ?_
        refine hK.out _ _ trivial (fun hHeld => ?_)
        clear hK K
        refine wpAnyH_take (i := 17) (oi := _) (v := ?_) rfl (by kernel_rfl) (by kernel_rfl) (by kernel_rfl) (fun _ _ _ h => h) (Or.inl ⟨by rfl, ?_⟩) (by assumption) ?_
        rotate_left
        · (intro w hSw; go_simp; first | done | (with_reducible rfl))
        simp only [Act.put, List.getElem_toArray, List.getElem_cons_succ, List.getElem_cons_zero, List.setIfInBounds_toArray, List.set_cons_zero, List.set_cons_succ]
        refine wpAnyH_done (by kernel_rfl) ?_ _
        clear hHeld
        go_wp2_with fail
        go_roundw
        case rel => exact ⟨k + 1, by rw [HP2.out], by unfold rn; have := (List.getElem?_eq_some_iff.1 HP.out).1; omega, HA2, HA3⟩
        case measure => simp [intOf]; have := HM.out; omega
end Go.Proofs.YtplcicbpkbamnabGreatDoor.Lo.Na

/- NameFolds' walk. -/
namespace Go.Proofs.YtplcicbpkbamnabGreatDoor.Lo.Na
open Go Go.RowKit

set_option maxRecDepth 100000 in
theorem rn_fold (a : ByteArray) : rn (mk (foldL (sl a))) = rn a := by
  unfold rn; rw [sl_mk, pieces_fold, List.length_map]
set_option maxRecDepth 100000 in
theorem size_fold (a : ByteArray) : (mk (foldL (sl a))).size = a.size := by rw [mk_size, fold_len, sl_len]
set_option maxRecDepth 100000 in
theorem chk_fold (a : ByteArray) : chk (mk (foldL (sl a))) = chk a := by
  unfold chk chkOK
  rw [rn_fold, size_fold, sl_mk, pieces_fold, List.all_map]
  congr 3
  apply List.all_congr rfl
  intro p
  exact fnd_small p
set_option maxRecDepth 100000 in
theorem chk_or (a : ByteArray) : chk a = 60 ∨ (chk a = 0 ∧ 1 ≤ rn a ∧ rn a ≤ 12 ∧ a.size ≤ 24) := by
  unfold chk
  by_cases h : chkOK a = true
  · right
    refine ⟨if_pos h, ?_⟩
    simp only [chkOK, Bool.and_eq_true, decide_eq_true_eq] at h
    refine ⟨?_, h.1.2, h.1.1.2⟩
    apply Nat.pos_of_ne_zero
    intro e
    apply h.1.1.1
    rw [← posn_end, e]; rfl
  · left; exact if_neg h
set_option maxRecDepth 100000 in
theorem eqS (x y : List UInt8) : ((mk x).toList == (mk y).toList) = decide (x = y) := by
  rw [ByteArray.toList_eq, ByteArray.toList_eq]
  simp only [mk]
  by_cases h : x = y
  · rw [decide_eq_true h, h]; simp
  · rw [decide_eq_false h]; simpa using h

end Go.Proofs.YtplcicbpkbamnabGreatDoor.Lo.Na

/- NameCuts' walk. -/
namespace Go.Proofs.YtplcicbpkbamnabGreatDoor.Lo.Na
open Go Go.RowKit

set_option maxRecDepth 100000 in
theorem cut_cut (s : ByteArray) (n m : Int) : cutB (cutB s n) m = cutB s (min m n) := by
  unfold cutB
  rw [sl_mk]
  congr 1
  unfold cutL
  rw [show flat ((pieces (sl s)).take n.toNat) = cutL (sl s) n.toNat from rfl, pieces_cut, List.take_take]
  congr 2
  omega
set_option maxRecDepth 100000 in
theorem cut_all (s : ByteArray) (n : Int) (h : (rn s : Int) ≤ n) : cutB s n = s := by
  unfold cutB cutL
  rw [List.take_of_length_le (by unfold rn at h; omega), flat_pieces, mk_sl]
set_option maxRecDepth 100000 in
theorem cut_pre (s : ByteArray) (n : Int) : s.extract 0 (cutB s n).size = cutB s n := by
  have := cut_ext s n
  rw [posn_cut] at this
  rw [show (cutB s n).size = (cutL (sl s) n.toNat).length from mk_size _]
  exact this
set_option maxRecDepth 100000 in
theorem good_blank (k : Nat) : Good ((List.replicate k (32 : UInt8)).map fun b => (b.toNat, [b])) := good_ascii _ (by
  intro b hb; rw [(List.mem_replicate.1 hb).2]; decide)
set_option maxRecDepth 100000 in
theorem pieces_pad (l : List UInt8) (k : Nat) : pieces (padL l k) = (pieces l).take k ++ (List.replicate (k - min k (pieces l).length) (32 : UInt8)).map fun b => (b.toNat, [b]) := by
  have hg := good_app (good_take (good_pieces l) k) (good_blank (k - min k (pieces l).length)) (by
    rw [flat_ascii]
    cases (k - min k (pieces l).length) with
    | zero => rfl
    | succ j => rw [List.replicate_succ, List.takeWhile_cons_of_neg (by decide)])
  have := pieces_of_good hg
  rw [flat_app, flat_ascii] at this
  exact this
set_option maxRecDepth 100000 in
theorem rn_pad (s : ByteArray) (n : Int) : rn (padB s n) = pk n := by
  unfold rn padB
  rw [sl_mk, pieces_pad]
  simp
  omega
structure PF (s : ByteArray) (K : Int) (p c : ByteArray) : Prop where
  r : (rn p : Int) = K
  le : c.size ≤ p.size
  ext : p.extract 0 c.size = c
  dif : (p.size : Int) - c.size = K - rn c
  at_ : ∀ i, c.size ≤ i → i < p.size → (sl p)[i]? = some 32
set_option maxRecDepth 100000 in
theorem pad_facts (s : ByteArray) (n K : Int) (h0 : 0 ≤ K) (h : pk n = K.toNat) : PF s K (padB s n) (cutB s K) := by
  have e : sl (padB s n) = sl (cutB s K) ++ List.replicate (K.toNat - min K.toNat (rn s)) 32 := by
    unfold padB padL cutB
    rw [sl_mk, sl_mk, h]; rfl
  have hz : (padB s n).size = (cutB s K).size + (K.toNat - min K.toNat (rn s)) := by
    rw [← sl_len, e, List.length_append, sl_len, List.length_replicate]
  refine ⟨by rw [rn_pad, h]; omega, by omega, ?_, by rw [rn_cut]; omega, fun i h1 h2 => ?_⟩
  · apply sl_inj
    rw [sl_ext, e, List.drop_zero, ← sl_len, List.take_left]
  · rw [e, List.getElem?_append_right (by rw [sl_len]; exact h1), List.getElem?_replicate, if_pos (by rw [sl_len]; omega)]
set_option maxRecDepth 100000 in
theorem sl_at (s : ByteArray) (i : Nat) (h : i < s.size) : (sl s)[i]? = some s[i] := by
  unfold sl
  rw [Array.getElem?_toList]
  exact Array.getElem?_eq_getElem h
set_option maxRecDepth 100000 in
theorem idx9 (s : ByteArray) (i : Nat) (y : UInt8) (h : i < s.size) (hy : (sl s)[i]? = some y) (W : World) : (Instr.index 9 (.string s) (.int .i64 (i : Int))).run Tryz.prog W = .ok (.int .u8 y.toNat) W := by
  rw [run_index_string W 9 s .i64 i (by kernel_rfl), dif_pos ⟨by omega, by omega⟩]
  rw [sl_at s i h] at hy
  simp only [Int.toNat_natCast, Option.some.inj hy]

end Go.Proofs.YtplcicbpkbamnabGreatDoor.Lo.Na

