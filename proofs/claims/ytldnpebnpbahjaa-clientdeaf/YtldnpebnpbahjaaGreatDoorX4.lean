import Derived.Test.YtldnpebnpbahjaaGreatDoorX3
import Derived.Deep.RegionHeld
namespace Go.Proofs.YtldnpebnpbahjaaGreatDoor.Pk
open Go Go.RowKit

set_option maxRecDepth 100000 in
theorem be_at : ∀ (n x k : Nat), k < n → (be n x)[n - 1 - k]? = some (UInt8.ofNat (x / 256 ^ k))
  | 0, _, _, h => by omega
  | n + 1, x, k, h => by
    by_cases e : k = n
    · subst e; simp [be]
    · have := be_at n x k (by omega)
      obtain ⟨m, hm⟩ : ∃ m, n + 1 - 1 - k = m + 1 := ⟨n - 1 - k, by omega⟩
      rw [hm, be, List.getElem?_cons_succ, ← this]
      congr 1; omega
set_option maxRecDepth 100000 in
theorem be_take (n x k : Nat) (h : k < n) : (be n x).take (n - k) = (be n x).take (n - (k + 1)) ++ [UInt8.ofNat (x / 256 ^ k)] := by
  have h1 := be_at n x k h
  have e : n - k = (n - (k + 1)) + 1 := by omega
  have e2 : n - 1 - k = n - (k + 1) := by omega
  rw [e2] at h1
  obtain ⟨h2, h3⟩ := List.getElem?_eq_some_iff.1 h1
  rw [e, List.take_succ_eq_append_getElem h2, h3]

set_option maxRecDepth 100000 in
theorem wanted_append {P : Program} {o : Oper} {Y : Nat → Option Bool} {a : Act} {w : World} {K : Act → World → Prop} {Q : Exit → Act → World → Prop} (hgd : o.guard = none) (s x : Operand) (t u : TypeId)
    (ho : o.op = .call { callee := .builtin .append, args := #[s, x], argTypes := #[t, u] }) (v y : Value) (hs : a.eval s = v) (hx : a.eval x = y) {v' : Value} {w' : World}
    (hr : (Builtin.append_ #[t, u] o.type #[v, y]).run P w = .ok v' w') (h : K (a.put o.dst v') w') : if Region.wanted o Y = true then Oper.wp P o a w K Q else K (a.put o.dst undef) w := by
  rw [if_pos (by simp [Region.wanted, hgd])]
  unfold Oper.wp execOp
  simp only [ho, resolve, invoke, builtin, Sem.run_bind, Sem.run_pure, Result.andThen_ok, List.map_toArray, List.map_cons, List.map_nil, hs, hx, hr]
  exact h
set_option maxRecDepth 100000 in
theorem wi (a : Int) (h1 : -9223372036854775808 ≤ a) (h2 : a < 9223372036854775808) : IntKind.i64.wrap a = a := by
  rw [IntKind.wrap_i64]; omega

set_option maxRecDepth 100000 in
set_option maxHeartbeats 4000000 in
theorem wnumber_plain (wb : Nat) (v : Value) (st : WS) (x : Nat) (size : Int) (w : World) (h : WAt w wb v st) (hx : x < 18446744073709551616) (hl : (st.getD []).length ≤ 179999999999992) :
    Calls Tryz.prog 188 #[.pointer (some ⟨wb, 0, none⟩), .agg #[fv 215], .int .u64 (x : Nat), .int .i64 size] w fun e w' => e = .returned (.tuple #[]) ∧ ∃ v', WDid w w' wb v (wNum st x size) v' := by
  have HH : Keep (WAt w wb v st) := ⟨h⟩
  have HL : Keep ((st.getD []).length ≤ 179999999999992) := ⟨hl⟩
  have HB : Keep (∀ W : World, Calls Tryz.prog 213 #[.agg #[fv 215], .int .u64 (x : Nat), .int .i64 size] W fun e w' => e = .returned (.bool (decide (fitsU x size))) ∧ W.grownBy w' none) := ⟨fun W => by
    have := holds_plain x size W hx
    rwa [show decide (sized size ∧ x % 256 ^ size.toNat = x) = decide (fitsU x size) from decide_eq_decide.2 (fitsU_iff x size)] at this⟩
  have HX : Keep (x < 18446744073709551616) := ⟨hx⟩
  have HF : Keep (¬ fitsU x size → wNum st x size = none) := ⟨fun q => by unfold wNum; rw [if_neg q]⟩
  have HT : Keep (fitsU x size → wNum st x size = st.map (· ++ be size.toNat x)) := ⟨fun q => by unfold wNum; rw [if_pos q]⟩
  have HZ : Keep (fitsU x size → 1 ≤ size ∧ size ≤ 8) := ⟨fun q => q.1⟩
  obtain ⟨st2, hst2⟩ : ∃ q, wNum st x size = q := ⟨_, rfl⟩
  obtain ⟨fit, hfit⟩ : ∃ q, (fitsU x size) = q := ⟨_, rfl⟩
  obtain ⟨bo, hbo⟩ : ∃ q, decide (fitsU x size) = q := ⟨_, rfl⟩
  have HBO : Keep (bo = true ↔ fit) := ⟨by rw [← hbo, ← hfit]; exact decide_eq_true_iff⟩
  rw [hst2] at HF HT ⊢
  rw [hbo] at HB
  rw [hfit] at HF HT HZ
  
  
  clear h hx hl hst2 hfit hbo
  go_enter Tryz.func188, Tryz.ntmps188
  go_wp2_with fail
  obtain ⟨w1, hw1⟩ : ∃ w1, w.alloc (.cells #[fv 215] 226) = w1 := ⟨_, rfl⟩
  rw [hw1]
  have HG : Keep (w.grownBy w1 none) := ⟨by rw [← hw1]; exact World.grownBy_alloc _ _ _⟩
  clear hw1
  refine (HB.out w1).mono ?_
  rintro e w2 ⟨rfl, g2⟩
  have HG2 : Keep (w.grownBy w2 none) := ⟨HG.out.trans g2⟩
  have HA2 : Keep (WAt w2 wb v st) := ⟨HH.out.kept HG2.out⟩
  clear g2 HG HB HH
  cases bo with
  | false =>
    have HN : Keep (st2 = none) := ⟨HF.out (fun q => by have := HBO.out.2 q; cases this)⟩
    go_wp2_with fail
    refine (wfail_c wb v st w2 HA2.out).mono ?_
    rintro e w3 ⟨rfl, v3, d3⟩
    have HD : Keep (WDid w w3 wb v none v3) := ⟨d3.ahead HG2.out⟩
    have h1 : w3.cell? ⟨wb, 1, none⟩ = some (.int .i64 51) := d3.a.h.cellv 1 _ rfl
    clear d3
    go_wp2
    refine bodyPost_ret (results_none rfl _ _ _) rfl ?_
    exact ⟨rfl, v3, by rw [HN.out]; exact HD.out⟩
  | true =>
    have HFT : Keep fit := ⟨HBO.out.1 rfl⟩
    cases st with
    | none =>
      have HN : Keep (st2 = none) := ⟨HT.out HFT.out⟩
      have h1 : w2.cell? ⟨wb, 1, none⟩ = some (.int .i64 51) := HA2.out.h.cellv 1 _ rfl
      go_wp2
      refine bodyPost_ret (results_none rfl _ _ _) rfl ?_
      exact ⟨rfl, v, by rw [HN.out]; exact (WDid.refl HA2.out).ahead HG2.out⟩
    | some l =>
      obtain ⟨n, rfl, hn1, hn8⟩ : ∃ n : Nat, size = n ∧ 1 ≤ n ∧ n ≤ 8 := ⟨size.toNat, by have := HZ.out HFT.out; omega, by have := HZ.out HFT.out; omega, by have := HZ.out HFT.out; omega⟩
      have HN : Keep (st2 = some (l ++ be n x)) := ⟨by have := HT.out HFT.out; simpa using this⟩
      have HLL : Keep (l.length ≤ 179999999999992) := ⟨HL.out⟩
      have h1 : w2.cell? ⟨wb, 1, none⟩ = some (.int .i64 0) := HA2.out.h.cellv 1 _ rfl
      clear HT HF HBO HZ HL
      go_wp2
      clear h1
      go_loopw [8] (fun t w' => ∃ (k : Nat) (v' : Value), k ≤ n ∧ t = .int .i64 ((k : Int) - 1) ∧ Keep (WDid w w' wb v (some (l ++ (be n x).take (n - k))) v')) (fun t _ => (intOf t + 1).toNat)
      case atStart => exact ⟨n, v, Nat.le_refl _, by simp, ⟨by rw [Nat.sub_self, List.take_zero, List.append_nil]; exact (WDid.refl HA2.out).ahead HG2.out⟩⟩
      case round =>
        obtain ⟨k, v', hk, rfl, HI⟩ := hrel
        by_cases hk0 : k = 0
        · subst hk0
          have HE : Keep (WDid w wr wb v st2 v') := ⟨by
            have := HI.out
            rw [Nat.sub_zero, List.take_of_length_le (by rw [be_len]; exact Nat.le_refl _), ← HN.out] at this
            exact this⟩
          clear HI
          go_wp2
          go_end0
          exact ⟨rfl, v', HE.out⟩
        · obtain ⟨j, rfl⟩ : ∃ j, k = j + 1 := ⟨k - 1, by omega⟩
          have hj : ((j + 1 : Nat) : Int) - 1 = (j : Int) := by omega
          rw [hj]
          have hj8 : j < 8 := by omega
          have hge : ((j : Int) ≥ 0) := by omega
          have hb : l.length + ((be n x).take (n - (j + 1))).length + 1 ≤ 180000000000000 := by
            have := HLL.out
            rw [List.length_take, be_len]; omega
          obtain ⟨b, hbb⟩ : ∃ b, UInt8.ofNat (x / 256 ^ j) = b := ⟨_, rfl⟩
          have hsh : (b.toNat : Int) = (x / 256 ^ j % 256 : Nat) := by rw [← hbb, UInt8.toNat_ofNat']
          have h0 : wr.cell? ⟨wb, 0, none⟩ = some v' := HI.out.a.h.cellv 0 _ rfl
          obtain ⟨v2, w3, r1, r2, r3, r4⟩ := app_byte_w (HI.out.a.r.fr (S := fun _ => False) (Fr.ofNone (gr_drew wr none)) (fun _ _ e => e)) b (by simpa [Nat.add_assoc] using hb)
          have HD := (HI.out.a.kept (gr_drew wr none)).set r2 r3 r4
          obtain ⟨a2, c2, hv2, _⟩ := Row.shape r2
          obtain ⟨n2, hn2⟩ : ∃ q, ((some (l ++ List.take (n - (j + 1)) (be n x))).getD [] ++ [b]).length = q := ⟨_, rfl⟩
          rw [hn2] at hv2
          subst hv2
          clear hn2
          have hw8 : IntKind.i64.wrap (8 * (j : Int)) = 8 * j := by rw [wi _ (by omega) (by omega)]
          have hdg : decide ((j : Int) ≥ 0) = true := decide_eq_true hge
          have hnn : ¬ (8 * (j : Int) < 0) := by omega
          have hs0 : IntKind.u8.wrap ((x : Int) / 2 ^ (8 * (j : Int)).toNat) = b.toNat := by
            rw [hsh, show (8 * (j : Int)).toNat = 8 * j by omega]
            have e3 : ∀ q : Int, IntKind.u8.wrap q = q % 256 := fun q => rfl
            have e2 : (2 : Int) ^ (8 * j) = ((256 ^ j : Nat) : Int) := by
              rw [Int.pow_mul]; simp
            rw [e2, e3]
            simp
          have r1' : (Builtin.append_ #[60, 60] 60 #[v', .slice (some ⟨wr.heap.size, 0, none⟩) 1 1]).run Tryz.prog (wr.alloc (.cells #[.int .u8 b.toNat] 5)).drew = .ok (.slice a2 n2 c2) w3 := r1
          have h0a : (wr.alloc (.cells #[.int .u8 b.toNat] 5)).cell? ⟨wb, 0, none⟩ = some v' := (HI.out.a.h.alloc _).cellv 0 _ rfl
          clear r1
          have f0 : w3.frozen? ⟨wb, 0, none⟩ = false := (show Has w3 wb [v', .int .i64 0] 198 from ((HI.out.a.kept (gr_drew wr none)).h.kept r3 (fun e => HI.out.a.ne e.symm))).frozen 0
          have c0 : w3.cell? ⟨wb, 0, none⟩ = some v' := (show Has w3 wb [v', .int .i64 0] 198 from ((HI.out.a.kept (gr_drew wr none)).h.kept r3 (fun e => HI.out.a.ne e.symm))).cellv 0 _ rfl
          have HDD : Keep (WDid w (w3.setCell ⟨wb, 0, none⟩ (.slice a2 n2 c2)) wb v (some (l ++ (be n x).take (n - j))) (.slice a2 n2 c2)) := ⟨by
            rw [be_take n x j (by omega), hbb, ← List.append_assoc]
            exact (HI.out.grown (gr_drew wr none)).trans HD⟩
          have hwj : IntKind.i64.wrap ((j : Int) - 1) = (j : Int) - 1 := by rw [wi _ (by omega) (by omega)]
          clear HD r2 r3 r4 hsh hbb HI hb HX HN HLL HFT HA2 HG2 hj
          go_wp2_with fail
          refine wp_region_held_drew (S := fun _ => True) (by kernel_rfl) trivial (fun hHeld => ?_)
          refine wpAnyH_take (i := 0) (oi := _) (v := ?_) rfl (by kernel_rfl) (by kernel_rfl) (by kernel_rfl) (fun _ _ _ h => h) (Or.inl ⟨by rfl, ?_⟩) (by assumption) ?_
          rotate_left
          · (intro w hSw; go_simp; first | done | (with_reducible rfl))
          simp only [Act.put, List.getElem_toArray, List.getElem_cons_zero, List.setIfInBounds_toArray, List.set_cons_zero, List.set_cons_succ]
          refine wpAnyH_take (i := 1) (oi := _) (v := ?_) rfl (by kernel_rfl) (by kernel_rfl) (by kernel_rfl) (fun _ _ _ h => h) (Or.inl ⟨by rfl, ?_⟩) (by assumption) ?_
          rotate_left
          · (intro w hSw; go_simp; first | done | (with_reducible rfl))
          simp only [Act.put, List.getElem_toArray, List.getElem_cons_succ, List.getElem_cons_zero, List.setIfInBounds_toArray, List.set_cons_zero, List.set_cons_succ]
          refine wpAnyH_take (i := 2) (oi := _) (v := ?_) rfl (by kernel_rfl) (by kernel_rfl) (by kernel_rfl) (fun _ _ _ h => h) (Or.inl ⟨by rfl, ?_⟩) (by assumption) ?_
          rotate_left
          · (intro w hSw; go_simp; first | done | (with_reducible rfl))
          simp only [Act.put, List.getElem_toArray, List.getElem_cons_succ, List.getElem_cons_zero, List.setIfInBounds_toArray, List.set_cons_zero, List.set_cons_succ]
          refine wpAnyH_take (i := 3) (oi := _) (v := ?_) rfl (by kernel_rfl) (by kernel_rfl) (by kernel_rfl) (fun _ _ _ h => h) (Or.inl ⟨by rfl, ?_⟩) (by assumption) ?_
          rotate_left
          · (intro w hSw; go_simp; first | done | (with_reducible rfl))
          simp only [Act.put, List.getElem_toArray, List.getElem_cons_succ, List.getElem_cons_zero, List.setIfInBounds_toArray, List.set_cons_zero, List.set_cons_succ]
          refine wpAnyH_take (i := 5) (oi := _) (v := ?_) rfl (by kernel_rfl) (by kernel_rfl) (by kernel_rfl) (fun _ _ _ h => h) (Or.inl ⟨by rfl, ?_⟩) (by assumption) ?_
          rotate_left
          · (intro w hSw; go_simp; first | done | (with_reducible rfl))
          simp only [Act.put, List.getElem_toArray, List.getElem_cons_succ, List.getElem_cons_zero, List.setIfInBounds_toArray, List.set_cons_zero, List.set_cons_succ]
          refine wpAnyH_take (i := 6) (oi := _) (v := ?_) rfl (by kernel_rfl) (by kernel_rfl) (by kernel_rfl) (fun _ _ _ h => h) (Or.inl ⟨by rfl, ?_⟩) (by assumption) ?_
          rotate_left
          · (intro w hSw; go_simp; first | done | (with_reducible rfl))
          simp only [Act.put, List.getElem_toArray, List.getElem_cons_succ, List.getElem_cons_zero, List.setIfInBounds_toArray, List.set_cons_zero, List.set_cons_succ]
          refine wpAnyH_take (i := 7) (oi := _) (v := ?_) rfl (by kernel_rfl) (by kernel_rfl) (by kernel_rfl) (fun _ _ _ h => h) (Or.inl ⟨by rfl, ?_⟩) (by assumption) ?_
          rotate_left
          · (intro w hSw; go_simp; first | done | (with_reducible rfl))
          simp only [Act.put, List.getElem_toArray, List.getElem_cons_succ, List.getElem_cons_zero, List.setIfInBounds_toArray, List.set_cons_zero, List.set_cons_succ]
          refine wpAnyH_take (i := 8) (oi := _) (v := ?_) rfl (by kernel_rfl) (by kernel_rfl) (by kernel_rfl) (fun _ _ _ h => h) (Or.inl ⟨by rfl, ?_⟩) (by assumption) ?_
          rotate_left
          · (intro w hSw; go_simp; first | done | (with_reducible rfl))
          simp only [Act.put, List.getElem_toArray, List.getElem_cons_succ, List.getElem_cons_zero, List.setIfInBounds_toArray, List.set_cons_zero, List.set_cons_succ]
          refine wpAnyH_take (i := 9) (oi := _) (v := ?_) rfl (by kernel_rfl) (by kernel_rfl) (by kernel_rfl) (fun _ _ _ h => h) (Or.inl ⟨by rfl, ?_⟩) (by assumption) ?_
          rotate_left
          · (intro w hSw; go_simp; first | done | (with_reducible rfl))
          simp only [Act.put, List.getElem_toArray, List.getElem_cons_succ, List.getElem_cons_zero, List.setIfInBounds_toArray, List.set_cons_zero, List.set_cons_succ]
          refine wpAnyH_ready (rs := [4, 10]) (by kernel_rfl) (by simp) ?_
          refine AllReadyH.cons rfl (fun K hK => ?_) (AllReadyH.cons rfl (fun K hK => ?_) AllReadyH.nil)
          · go_simp
            refine hK.out _ _ trivial (fun hHeld => ?_)
            clear hK K
            refine wpAnyH_ready (rs := [10]) (by kernel_rfl) (by simp) ?_
            refine AllReadyH.cons rfl (fun K hK => ?_) AllReadyH.nil
            go_simp
            refine hK.out _ _ trivial (fun hHeld => ?_)
            clear hK K
            refine wpAnyH_ready (rs := [11]) (by kernel_rfl) (by simp) ?_
            refine AllReadyH.cons rfl (fun K hK => ?_) AllReadyH.nil
            refine wanted_append rfl (.tmp 31) (.tmp 37) 60 60 rfl v' (.slice (some ⟨wr.heap.size, 0, none⟩) 1 1) rfl rfl (v' := .slice a2 n2 c2) (w' := w3) r1' ?_
            refine hK.out _ _ trivial (fun hHeld => ?_)
            clear hK K
            refine wpAnyH_take (i := 12) (oi := _) (v := ?_) rfl (by kernel_rfl) (by kernel_rfl) (by kernel_rfl) (fun _ _ _ h => h) (Or.inl ⟨by rfl, ?_⟩) (by assumption) ?_
            rotate_left
            · (intro w hSw; go_simp; first | done | (with_reducible rfl))
            simp only [Act.put, List.getElem_toArray, List.getElem_cons_succ, List.getElem_cons_zero, List.setIfInBounds_toArray, List.set_cons_zero, List.set_cons_succ]
            refine wpAnyH_take (i := 13) (oi := _) (v := ?_) rfl (by kernel_rfl) (by kernel_rfl) (by kernel_rfl) (fun _ _ _ h => h) (Or.inl ⟨by rfl, ?_⟩) (by assumption) ?_
            rotate_left
            · (intro w hSw; go_simp; first | done | (with_reducible rfl))
            simp only [Act.put, List.getElem_toArray, List.getElem_cons_succ, List.getElem_cons_zero, List.setIfInBounds_toArray, List.set_cons_zero, List.set_cons_succ]
            refine wpAnyH_ready (rs := [14]) (by kernel_rfl) (by simp) ?_
            refine AllReadyH.cons rfl (fun K hK => ?_) AllReadyH.nil
            go_simp
            refine hK.out _ _ trivial (fun hHeld => ?_)
            clear hK K
            refine wpAnyH_done (by kernel_rfl) ?_ _
            clear hHeld
            go_wp2_with fail
            exact ⟨⟨j, .slice a2 n2 c2, by omega, rfl, HDD⟩, by simp only [intOf]; omega⟩
          · go_simp
            refine hK.out _ _ trivial (fun hHeld => ?_)
            clear hK K
            refine wpAnyH_ready (rs := [4]) (by kernel_rfl) (by simp) ?_
            refine AllReadyH.cons rfl (fun K hK => ?_) AllReadyH.nil
            go_simp
            refine hK.out _ _ trivial (fun hHeld => ?_)
            clear hK K
            refine wpAnyH_ready (rs := [11]) (by kernel_rfl) (by simp) ?_
            refine AllReadyH.cons rfl (fun K hK => ?_) AllReadyH.nil
            refine wanted_append rfl (.tmp 31) (.tmp 37) 60 60 rfl v' (.slice (some ⟨wr.heap.size, 0, none⟩) 1 1) rfl rfl (v' := .slice a2 n2 c2) (w' := w3) r1' ?_
            refine hK.out _ _ trivial (fun hHeld => ?_)
            clear hK K
            refine wpAnyH_take (i := 12) (oi := _) (v := ?_) rfl (by kernel_rfl) (by kernel_rfl) (by kernel_rfl) (fun _ _ _ h => h) (Or.inl ⟨by rfl, ?_⟩) (by assumption) ?_
            rotate_left
            · (intro w hSw; go_simp; first | done | (with_reducible rfl))
            simp only [Act.put, List.getElem_toArray, List.getElem_cons_succ, List.getElem_cons_zero, List.setIfInBounds_toArray, List.set_cons_zero, List.set_cons_succ]
            refine wpAnyH_take (i := 13) (oi := _) (v := ?_) rfl (by kernel_rfl) (by kernel_rfl) (by kernel_rfl) (fun _ _ _ h => h) (Or.inl ⟨by rfl, ?_⟩) (by assumption) ?_
            rotate_left
            · (intro w hSw; go_simp; first | done | (with_reducible rfl))
            simp only [Act.put, List.getElem_toArray, List.getElem_cons_succ, List.getElem_cons_zero, List.setIfInBounds_toArray, List.set_cons_zero, List.set_cons_succ]
            refine wpAnyH_ready (rs := [14]) (by kernel_rfl) (by simp) ?_
            refine AllReadyH.cons rfl (fun K hK => ?_) AllReadyH.nil
            go_simp
            refine hK.out _ _ trivial (fun hHeld => ?_)
            clear hK K
            refine wpAnyH_done (by kernel_rfl) ?_ _
            clear hHeld
            go_wp2_with fail
            exact ⟨⟨j, .slice a2 n2 c2, by omega, rfl, HDD⟩, by simp only [intOf]; omega⟩

set_option maxRecDepth 100000 in
theorem fitsS_iff (i size : Int) (hi : -9223372036854775808 ≤ i ∧ i < 9223372036854775808) : (sized size ∧ sx (u64 i) size.toNat = u64 i) ↔ fitsS i size := by
  constructor
  · rintro ⟨h1, h2⟩; exact (sx_fits i size h1 hi).1 h2
  · intro h; exact ⟨h.1, (sx_fits i size h.1 hi).2 h⟩

set_option maxRecDepth 100000 in
set_option maxHeartbeats 4000000 in
theorem wnumber_signed (wb : Nat) (v : Value) (st : WS) (i : Int) (size : Int) (w : World) (h : WAt w wb v st) (hi : -9223372036854775808 ≤ i ∧ i < 9223372036854775808) (hl : (st.getD []).length ≤ 179999999999992) :
    Calls Tryz.prog 188 #[.pointer (some ⟨wb, 0, none⟩), .agg #[fv 233], .int .u64 ((u64 i) : Nat), .int .i64 size] w fun e w' => e = .returned (.tuple #[]) ∧ ∃ v', WDid w w' wb v (wSig st i size) v' := by
  have HH : Keep (WAt w wb v st) := ⟨h⟩
  have HL : Keep ((st.getD []).length ≤ 179999999999992) := ⟨hl⟩
  have HB : Keep (∀ W : World, Calls Tryz.prog 213 #[.agg #[fv 233], .int .u64 ((u64 i) : Nat), .int .i64 size] W fun e w' => e = .returned (.bool (decide (fitsS i size))) ∧ W.grownBy w' none) := ⟨fun W => by
    have := holds_signed (u64 i) size W (u64_lt i)
    rwa [show decide (sized size ∧ sx (u64 i) size.toNat = (u64 i)) = decide (fitsS i size) from decide_eq_decide.2 (fitsS_iff i size hi)] at this⟩
  have HX : Keep ((u64 i) < 18446744073709551616) := ⟨u64_lt i⟩
  have HF : Keep (¬ fitsS i size → wSig st i size = none) := ⟨fun q => by unfold wSig; rw [if_neg q]⟩
  have HT : Keep (fitsS i size → wSig st i size = st.map (· ++ be size.toNat (u64 i))) := ⟨fun q => by unfold wSig; rw [if_pos q]⟩
  have HZ : Keep (fitsS i size → 1 ≤ size ∧ size ≤ 8) := ⟨fun q => q.1⟩
  obtain ⟨st2, hst2⟩ : ∃ q, wSig st i size = q := ⟨_, rfl⟩
  obtain ⟨fit, hfit⟩ : ∃ q, (fitsS i size) = q := ⟨_, rfl⟩
  obtain ⟨bo, hbo⟩ : ∃ q, decide (fitsS i size) = q := ⟨_, rfl⟩
  have HBO : Keep (bo = true ↔ fit) := ⟨by rw [← hbo, ← hfit]; exact decide_eq_true_iff⟩
  rw [hst2] at HF HT ⊢
  rw [hbo] at HB
  rw [hfit] at HF HT HZ
  obtain ⟨x, hxx⟩ : ∃ x, u64 i = x := ⟨_, rfl⟩
  rw [hxx] at HX HT HB ⊢
  clear h hi hxx hl hst2 hfit hbo
  go_enter Tryz.func188, Tryz.ntmps188
  go_wp2_with fail
  obtain ⟨w1, hw1⟩ : ∃ w1, w.alloc (.cells #[fv 233] 226) = w1 := ⟨_, rfl⟩
  rw [hw1]
  have HG : Keep (w.grownBy w1 none) := ⟨by rw [← hw1]; exact World.grownBy_alloc _ _ _⟩
  clear hw1
  refine (HB.out w1).mono ?_
  rintro e w2 ⟨rfl, g2⟩
  have HG2 : Keep (w.grownBy w2 none) := ⟨HG.out.trans g2⟩
  have HA2 : Keep (WAt w2 wb v st) := ⟨HH.out.kept HG2.out⟩
  clear g2 HG HB HH
  cases bo with
  | false =>
    have HN : Keep (st2 = none) := ⟨HF.out (fun q => by have := HBO.out.2 q; cases this)⟩
    go_wp2_with fail
    refine (wfail_c wb v st w2 HA2.out).mono ?_
    rintro e w3 ⟨rfl, v3, d3⟩
    have HD : Keep (WDid w w3 wb v none v3) := ⟨d3.ahead HG2.out⟩
    have h1 : w3.cell? ⟨wb, 1, none⟩ = some (.int .i64 51) := d3.a.h.cellv 1 _ rfl
    clear d3
    go_wp2
    refine bodyPost_ret (results_none rfl _ _ _) rfl ?_
    exact ⟨rfl, v3, by rw [HN.out]; exact HD.out⟩
  | true =>
    have HFT : Keep fit := ⟨HBO.out.1 rfl⟩
    cases st with
    | none =>
      have HN : Keep (st2 = none) := ⟨HT.out HFT.out⟩
      have h1 : w2.cell? ⟨wb, 1, none⟩ = some (.int .i64 51) := HA2.out.h.cellv 1 _ rfl
      go_wp2
      refine bodyPost_ret (results_none rfl _ _ _) rfl ?_
      exact ⟨rfl, v, by rw [HN.out]; exact (WDid.refl HA2.out).ahead HG2.out⟩
    | some l =>
      obtain ⟨n, rfl, hn1, hn8⟩ : ∃ n : Nat, size = n ∧ 1 ≤ n ∧ n ≤ 8 := ⟨size.toNat, by have := HZ.out HFT.out; omega, by have := HZ.out HFT.out; omega, by have := HZ.out HFT.out; omega⟩
      have HN : Keep (st2 = some (l ++ be n x)) := ⟨by have := HT.out HFT.out; simpa using this⟩
      have HLL : Keep (l.length ≤ 179999999999992) := ⟨HL.out⟩
      have h1 : w2.cell? ⟨wb, 1, none⟩ = some (.int .i64 0) := HA2.out.h.cellv 1 _ rfl
      clear HT HF HBO HZ HL
      go_wp2
      clear h1
      go_loopw [8] (fun t w' => ∃ (k : Nat) (v' : Value), k ≤ n ∧ t = .int .i64 ((k : Int) - 1) ∧ Keep (WDid w w' wb v (some (l ++ (be n x).take (n - k))) v')) (fun t _ => (intOf t + 1).toNat)
      case atStart => exact ⟨n, v, Nat.le_refl _, by simp, ⟨by rw [Nat.sub_self, List.take_zero, List.append_nil]; exact (WDid.refl HA2.out).ahead HG2.out⟩⟩
      case round =>
        obtain ⟨k, v', hk, rfl, HI⟩ := hrel
        by_cases hk0 : k = 0
        · subst hk0
          have HE : Keep (WDid w wr wb v st2 v') := ⟨by
            have := HI.out
            rw [Nat.sub_zero, List.take_of_length_le (by rw [be_len]; exact Nat.le_refl _), ← HN.out] at this
            exact this⟩
          clear HI
          go_wp2
          go_end0
          exact ⟨rfl, v', HE.out⟩
        · obtain ⟨j, rfl⟩ : ∃ j, k = j + 1 := ⟨k - 1, by omega⟩
          have hj : ((j + 1 : Nat) : Int) - 1 = (j : Int) := by omega
          rw [hj]
          have hj8 : j < 8 := by omega
          have hge : ((j : Int) ≥ 0) := by omega
          have hb : l.length + ((be n x).take (n - (j + 1))).length + 1 ≤ 180000000000000 := by
            have := HLL.out
            rw [List.length_take, be_len]; omega
          obtain ⟨b, hbb⟩ : ∃ b, UInt8.ofNat (x / 256 ^ j) = b := ⟨_, rfl⟩
          have hsh : (b.toNat : Int) = (x / 256 ^ j % 256 : Nat) := by rw [← hbb, UInt8.toNat_ofNat']
          have h0 : wr.cell? ⟨wb, 0, none⟩ = some v' := HI.out.a.h.cellv 0 _ rfl
          obtain ⟨v2, w3, r1, r2, r3, r4⟩ := app_byte_w (HI.out.a.r.fr (S := fun _ => False) (Fr.ofNone (gr_drew wr none)) (fun _ _ e => e)) b (by simpa [Nat.add_assoc] using hb)
          have HD := (HI.out.a.kept (gr_drew wr none)).set r2 r3 r4
          obtain ⟨a2, c2, hv2, _⟩ := Row.shape r2
          obtain ⟨n2, hn2⟩ : ∃ q, ((some (l ++ List.take (n - (j + 1)) (be n x))).getD [] ++ [b]).length = q := ⟨_, rfl⟩
          rw [hn2] at hv2
          subst hv2
          clear hn2
          have hw8 : IntKind.i64.wrap (8 * (j : Int)) = 8 * j := by rw [wi _ (by omega) (by omega)]
          have hdg : decide ((j : Int) ≥ 0) = true := decide_eq_true hge
          have hnn : ¬ (8 * (j : Int) < 0) := by omega
          have hs0 : IntKind.u8.wrap ((x : Int) / 2 ^ (8 * (j : Int)).toNat) = b.toNat := by
            rw [hsh, show (8 * (j : Int)).toNat = 8 * j by omega]
            have e3 : ∀ q : Int, IntKind.u8.wrap q = q % 256 := fun q => rfl
            have e2 : (2 : Int) ^ (8 * j) = ((256 ^ j : Nat) : Int) := by
              rw [Int.pow_mul]; simp
            rw [e2, e3]
            simp
          have r1' : (Builtin.append_ #[60, 60] 60 #[v', .slice (some ⟨wr.heap.size, 0, none⟩) 1 1]).run Tryz.prog (wr.alloc (.cells #[.int .u8 b.toNat] 5)).drew = .ok (.slice a2 n2 c2) w3 := r1
          have h0a : (wr.alloc (.cells #[.int .u8 b.toNat] 5)).cell? ⟨wb, 0, none⟩ = some v' := (HI.out.a.h.alloc _).cellv 0 _ rfl
          clear r1
          have f0 : w3.frozen? ⟨wb, 0, none⟩ = false := (show Has w3 wb [v', .int .i64 0] 198 from ((HI.out.a.kept (gr_drew wr none)).h.kept r3 (fun e => HI.out.a.ne e.symm))).frozen 0
          have c0 : w3.cell? ⟨wb, 0, none⟩ = some v' := (show Has w3 wb [v', .int .i64 0] 198 from ((HI.out.a.kept (gr_drew wr none)).h.kept r3 (fun e => HI.out.a.ne e.symm))).cellv 0 _ rfl
          have HDD : Keep (WDid w (w3.setCell ⟨wb, 0, none⟩ (.slice a2 n2 c2)) wb v (some (l ++ (be n x).take (n - j))) (.slice a2 n2 c2)) := ⟨by
            rw [be_take n x j (by omega), hbb, ← List.append_assoc]
            exact (HI.out.grown (gr_drew wr none)).trans HD⟩
          have hwj : IntKind.i64.wrap ((j : Int) - 1) = (j : Int) - 1 := by rw [wi _ (by omega) (by omega)]
          clear HD r2 r3 r4 hsh hbb HI hb HX HN HLL HFT HA2 HG2 hj
          go_wp2_with fail
          refine wp_region_held_drew (S := fun _ => True) (by kernel_rfl) trivial (fun hHeld => ?_)
          refine wpAnyH_take (i := 0) (oi := _) (v := ?_) rfl (by kernel_rfl) (by kernel_rfl) (by kernel_rfl) (fun _ _ _ h => h) (Or.inl ⟨by rfl, ?_⟩) (by assumption) ?_
          rotate_left
          · (intro w hSw; go_simp; first | done | (with_reducible rfl))
          simp only [Act.put, List.getElem_toArray, List.getElem_cons_zero, List.setIfInBounds_toArray, List.set_cons_zero, List.set_cons_succ]
          refine wpAnyH_take (i := 1) (oi := _) (v := ?_) rfl (by kernel_rfl) (by kernel_rfl) (by kernel_rfl) (fun _ _ _ h => h) (Or.inl ⟨by rfl, ?_⟩) (by assumption) ?_
          rotate_left
          · (intro w hSw; go_simp; first | done | (with_reducible rfl))
          simp only [Act.put, List.getElem_toArray, List.getElem_cons_succ, List.getElem_cons_zero, List.setIfInBounds_toArray, List.set_cons_zero, List.set_cons_succ]
          refine wpAnyH_take (i := 2) (oi := _) (v := ?_) rfl (by kernel_rfl) (by kernel_rfl) (by kernel_rfl) (fun _ _ _ h => h) (Or.inl ⟨by rfl, ?_⟩) (by assumption) ?_
          rotate_left
          · (intro w hSw; go_simp; first | done | (with_reducible rfl))
          simp only [Act.put, List.getElem_toArray, List.getElem_cons_succ, List.getElem_cons_zero, List.setIfInBounds_toArray, List.set_cons_zero, List.set_cons_succ]
          refine wpAnyH_take (i := 3) (oi := _) (v := ?_) rfl (by kernel_rfl) (by kernel_rfl) (by kernel_rfl) (fun _ _ _ h => h) (Or.inl ⟨by rfl, ?_⟩) (by assumption) ?_
          rotate_left
          · (intro w hSw; go_simp; first | done | (with_reducible rfl))
          simp only [Act.put, List.getElem_toArray, List.getElem_cons_succ, List.getElem_cons_zero, List.setIfInBounds_toArray, List.set_cons_zero, List.set_cons_succ]
          refine wpAnyH_take (i := 5) (oi := _) (v := ?_) rfl (by kernel_rfl) (by kernel_rfl) (by kernel_rfl) (fun _ _ _ h => h) (Or.inl ⟨by rfl, ?_⟩) (by assumption) ?_
          rotate_left
          · (intro w hSw; go_simp; first | done | (with_reducible rfl))
          simp only [Act.put, List.getElem_toArray, List.getElem_cons_succ, List.getElem_cons_zero, List.setIfInBounds_toArray, List.set_cons_zero, List.set_cons_succ]
          refine wpAnyH_take (i := 6) (oi := _) (v := ?_) rfl (by kernel_rfl) (by kernel_rfl) (by kernel_rfl) (fun _ _ _ h => h) (Or.inl ⟨by rfl, ?_⟩) (by assumption) ?_
          rotate_left
          · (intro w hSw; go_simp; first | done | (with_reducible rfl))
          simp only [Act.put, List.getElem_toArray, List.getElem_cons_succ, List.getElem_cons_zero, List.setIfInBounds_toArray, List.set_cons_zero, List.set_cons_succ]
          refine wpAnyH_take (i := 7) (oi := _) (v := ?_) rfl (by kernel_rfl) (by kernel_rfl) (by kernel_rfl) (fun _ _ _ h => h) (Or.inl ⟨by rfl, ?_⟩) (by assumption) ?_
          rotate_left
          · (intro w hSw; go_simp; first | done | (with_reducible rfl))
          simp only [Act.put, List.getElem_toArray, List.getElem_cons_succ, List.getElem_cons_zero, List.setIfInBounds_toArray, List.set_cons_zero, List.set_cons_succ]
          refine wpAnyH_take (i := 8) (oi := _) (v := ?_) rfl (by kernel_rfl) (by kernel_rfl) (by kernel_rfl) (fun _ _ _ h => h) (Or.inl ⟨by rfl, ?_⟩) (by assumption) ?_
          rotate_left
          · (intro w hSw; go_simp; first | done | (with_reducible rfl))
          simp only [Act.put, List.getElem_toArray, List.getElem_cons_succ, List.getElem_cons_zero, List.setIfInBounds_toArray, List.set_cons_zero, List.set_cons_succ]
          refine wpAnyH_take (i := 9) (oi := _) (v := ?_) rfl (by kernel_rfl) (by kernel_rfl) (by kernel_rfl) (fun _ _ _ h => h) (Or.inl ⟨by rfl, ?_⟩) (by assumption) ?_
          rotate_left
          · (intro w hSw; go_simp; first | done | (with_reducible rfl))
          simp only [Act.put, List.getElem_toArray, List.getElem_cons_succ, List.getElem_cons_zero, List.setIfInBounds_toArray, List.set_cons_zero, List.set_cons_succ]
          refine wpAnyH_ready (rs := [4, 10]) (by kernel_rfl) (by simp) ?_
          refine AllReadyH.cons rfl (fun K hK => ?_) (AllReadyH.cons rfl (fun K hK => ?_) AllReadyH.nil)
          · go_simp
            refine hK.out _ _ trivial (fun hHeld => ?_)
            clear hK K
            refine wpAnyH_ready (rs := [10]) (by kernel_rfl) (by simp) ?_
            refine AllReadyH.cons rfl (fun K hK => ?_) AllReadyH.nil
            go_simp
            refine hK.out _ _ trivial (fun hHeld => ?_)
            clear hK K
            refine wpAnyH_ready (rs := [11]) (by kernel_rfl) (by simp) ?_
            refine AllReadyH.cons rfl (fun K hK => ?_) AllReadyH.nil
            refine wanted_append rfl (.tmp 31) (.tmp 37) 60 60 rfl v' (.slice (some ⟨wr.heap.size, 0, none⟩) 1 1) rfl rfl (v' := .slice a2 n2 c2) (w' := w3) r1' ?_
            refine hK.out _ _ trivial (fun hHeld => ?_)
            clear hK K
            refine wpAnyH_take (i := 12) (oi := _) (v := ?_) rfl (by kernel_rfl) (by kernel_rfl) (by kernel_rfl) (fun _ _ _ h => h) (Or.inl ⟨by rfl, ?_⟩) (by assumption) ?_
            rotate_left
            · (intro w hSw; go_simp; first | done | (with_reducible rfl))
            simp only [Act.put, List.getElem_toArray, List.getElem_cons_succ, List.getElem_cons_zero, List.setIfInBounds_toArray, List.set_cons_zero, List.set_cons_succ]
            refine wpAnyH_take (i := 13) (oi := _) (v := ?_) rfl (by kernel_rfl) (by kernel_rfl) (by kernel_rfl) (fun _ _ _ h => h) (Or.inl ⟨by rfl, ?_⟩) (by assumption) ?_
            rotate_left
            · (intro w hSw; go_simp; first | done | (with_reducible rfl))
            simp only [Act.put, List.getElem_toArray, List.getElem_cons_succ, List.getElem_cons_zero, List.setIfInBounds_toArray, List.set_cons_zero, List.set_cons_succ]
            refine wpAnyH_ready (rs := [14]) (by kernel_rfl) (by simp) ?_
            refine AllReadyH.cons rfl (fun K hK => ?_) AllReadyH.nil
            go_simp
            refine hK.out _ _ trivial (fun hHeld => ?_)
            clear hK K
            refine wpAnyH_done (by kernel_rfl) ?_ _
            clear hHeld
            go_wp2_with fail
            exact ⟨⟨j, .slice a2 n2 c2, by omega, rfl, HDD⟩, by simp only [intOf]; omega⟩
          · go_simp
            refine hK.out _ _ trivial (fun hHeld => ?_)
            clear hK K
            refine wpAnyH_ready (rs := [4]) (by kernel_rfl) (by simp) ?_
            refine AllReadyH.cons rfl (fun K hK => ?_) AllReadyH.nil
            go_simp
            refine hK.out _ _ trivial (fun hHeld => ?_)
            clear hK K
            refine wpAnyH_ready (rs := [11]) (by kernel_rfl) (by simp) ?_
            refine AllReadyH.cons rfl (fun K hK => ?_) AllReadyH.nil
            refine wanted_append rfl (.tmp 31) (.tmp 37) 60 60 rfl v' (.slice (some ⟨wr.heap.size, 0, none⟩) 1 1) rfl rfl (v' := .slice a2 n2 c2) (w' := w3) r1' ?_
            refine hK.out _ _ trivial (fun hHeld => ?_)
            clear hK K
            refine wpAnyH_take (i := 12) (oi := _) (v := ?_) rfl (by kernel_rfl) (by kernel_rfl) (by kernel_rfl) (fun _ _ _ h => h) (Or.inl ⟨by rfl, ?_⟩) (by assumption) ?_
            rotate_left
            · (intro w hSw; go_simp; first | done | (with_reducible rfl))
            simp only [Act.put, List.getElem_toArray, List.getElem_cons_succ, List.getElem_cons_zero, List.setIfInBounds_toArray, List.set_cons_zero, List.set_cons_succ]
            refine wpAnyH_take (i := 13) (oi := _) (v := ?_) rfl (by kernel_rfl) (by kernel_rfl) (by kernel_rfl) (fun _ _ _ h => h) (Or.inl ⟨by rfl, ?_⟩) (by assumption) ?_
            rotate_left
            · (intro w hSw; go_simp; first | done | (with_reducible rfl))
            simp only [Act.put, List.getElem_toArray, List.getElem_cons_succ, List.getElem_cons_zero, List.setIfInBounds_toArray, List.set_cons_zero, List.set_cons_succ]
            refine wpAnyH_ready (rs := [14]) (by kernel_rfl) (by simp) ?_
            refine AllReadyH.cons rfl (fun K hK => ?_) AllReadyH.nil
            go_simp
            refine hK.out _ _ trivial (fun hHeld => ?_)
            clear hK K
            refine wpAnyH_done (by kernel_rfl) ?_ _
            clear hHeld
            go_wp2_with fail
            exact ⟨⟨j, .slice a2 n2 c2, by omega, rfl, HDD⟩, by simp only [intOf]; omega⟩
end Go.Proofs.YtldnpebnpbahjaaGreatDoor.Pk

namespace Go.Proofs.YtldnpebnpbahjaaGreatDoor.Pk
open Go Go.RowKit

set_option maxRecDepth 100000 in
theorem newW_c (w : World) :
    Calls Tryz.prog 89 #[] w fun e w' => ∃ wb, e = .returned (.pointer (some ⟨wb, 0, none⟩)) ∧ WAt w' wb (.slice none 0 0) (some []) ∧ w.grownBy w' none ∧ wb = w.heap.size := by
  go_enter Tryz.func89, Tryz.ntmps89
  go_wp2
  go_ret
  exact ⟨_, rfl, ⟨Has.newA w _ 198, row_nil _, by simp [Value.ownBlock]⟩, World.grownBy_alloc _ _ _, rfl⟩
set_option maxRecDepth 100000 in
theorem wNumber_c (wb : Nat) (v : Value) (st : WS) (x : Nat) (size : Int) (w : World) (h : WAt w wb v st) (hx : x < 18446744073709551616) (hl : (st.getD []).length ≤ 179999999999992) :
    Calls Tryz.prog 148 #[.pointer (some ⟨wb, 0, none⟩), .int .u64 x, .int .i64 size] w fun e w' => e = .returned (.tuple #[]) ∧ ∃ v', WDid w w' wb v (wNum st x size) v' := by
  have HH : Keep (WAt w wb v st ∧ x < 18446744073709551616 ∧ (st.getD []).length ≤ 179999999999992) := ⟨h, hx, hl⟩
  clear h hx hl
  go_enter Tryz.func148, Tryz.ntmps148
  go_wp2_with fail
  refine (plain_c w).mono ?_
  rintro e w1 ⟨rfl, g1⟩
  go_wp2_with fail
  refine (wnumber_plain wb v st x size w1 (HH.out.1.kept g1) HH.out.2.1 HH.out.2.2).mono ?_
  rintro e w2 ⟨rfl, v2, d2⟩
  have HD : Keep (WDid w w2 wb v (wNum st x size) v2) := ⟨d2.ahead g1⟩
  clear d2 g1 HH
  go_wp2
  go_end0
  exact ⟨rfl, v2, HD.out⟩
set_option maxRecDepth 100000 in
theorem wSigned_c (wb : Nat) (v : Value) (st : WS) (i : Int) (size : Int) (w : World) (h : WAt w wb v st) (hi : -9223372036854775808 ≤ i ∧ i < 9223372036854775808) (hl : (st.getD []).length ≤ 179999999999992) :
    Calls Tryz.prog 193 #[.pointer (some ⟨wb, 0, none⟩), .int .i64 i, .int .i64 size] w fun e w' => e = .returned (.tuple #[]) ∧ ∃ v', WDid w w' wb v (wSig st i size) v' := by
  have HH : Keep (WAt w wb v st ∧ (-9223372036854775808 ≤ i ∧ i < 9223372036854775808) ∧ (st.getD []).length ≤ 179999999999992) := ⟨h, hi, hl⟩
  clear h hi hl
  go_enter Tryz.func193, Tryz.ntmps193
  go_wp2_with fail
  refine (signed_c w).mono ?_
  rintro e w1 ⟨rfl, g1⟩
  have HW : Keep (IntKind.u64.wrap i = (u64 i : Nat)) := ⟨by rw [wu]; unfold u64; omega⟩
  go_wp2_with fail
  rw [HW.out]
  refine (wnumber_signed wb v st i size w1 (HH.out.1.kept g1) HH.out.2.1 HH.out.2.2).mono ?_
  rintro e w2 ⟨rfl, v2, d2⟩
  have HD : Keep (WDid w w2 wb v (wSig st i size) v2) := ⟨d2.ahead g1⟩
  clear d2 g1 HH
  go_wp2
  go_end0
  exact ⟨rfl, v2, HD.out⟩
set_option maxRecDepth 100000 in
theorem wpList_append_run2 {P : Program} (w : World) {ops : Array Oper} {rest : List Oper} {o : Oper} {a : Act} {Q : Exit → Act → World → Prop} (hgd : o.guard = none) (s x : Operand) (t u : TypeId)
    (ho : o.op = .call { callee := .builtin .append, args := #[s, x], argTypes := #[t, u] }) (v y : Value) (hs : a.eval s = v) (hx : a.eval x = y) {v' : Value} {w' : World}
    (hr : (Builtin.append_ #[t, u] o.type #[v, y]).run P w = .ok v' w') (h : wpList P ops Q rest (a.put o.dst v') w') : wpList P ops Q (o :: rest) a w :=
  wpList_plain hgd fun _ hK => by
    unfold Oper.wp execOp
    simp only [ho, resolve, invoke, builtin, Sem.run_bind, Sem.run_pure, Result.andThen_ok, List.map_toArray, List.map_cons, List.map_nil, hs, hx, hr]
    exact hK _ _ h
set_option maxRecDepth 100000 in
theorem wBytesW_c (wb : Nat) (v : Value) (st : WS) (s : ByteArray) (w : World) (h : WAt w wb v st) (hl : (st.getD []).length + s.size ≤ 180000000000000) (hs8 : s.size ≤ 140737488355328) :
    Calls Tryz.prog 126 #[.pointer (some ⟨wb, 0, none⟩), .string s] w fun e w' => e = .returned (.tuple #[]) ∧ ∃ v', WDid w w' wb v (wBytes st (sl s)) v' := by
  have HH : Keep (WAt w wb v st) := ⟨h⟩
  cases st with
  | none =>
    have h1 : w.cell? ⟨wb, 1, none⟩ = some (.int .i64 51) := h.h.cellv 1 _ rfl
    clear h
    go_enter Tryz.func126, Tryz.ntmps126
    go_wp2
    go_end0
    exact ⟨rfl, v, WDid.refl HH.out⟩
  | some l =>
    have h1 : w.cell? ⟨wb, 1, none⟩ = some (.int .i64 0) := h.h.cellv 1 _ rfl
    have h0 : w.cell? ⟨wb, 0, none⟩ = some v := h.h.cellv 0 _ rfl
    obtain ⟨v2, w3, r1, r2, r3, r4⟩ := app_str_w h.r s hl hs8
    have hs := h.set r2 r3 r4
    have HR : Keep ((Builtin.append_ #[60, 9] 60 #[v, .string s]).run Tryz.prog w = .ok v2 w3) := ⟨r1⟩
    obtain ⟨a2, c2, hv2, _⟩ := Row.shape r2
    obtain ⟨n2, hn2⟩ : ∃ q, ((some l).getD [] ++ sl s).length = q := ⟨_, rfl⟩
    rw [hn2] at hv2
    subst hv2
    have HD : Keep (WDid w (w3.setCell ⟨wb, 0, none⟩ (.slice a2 n2 c2)) wb v (wBytes (some l) (sl s)) (.slice a2 n2 c2)) := ⟨hs⟩
    have hh3 : Has w3 wb [v, .int .i64 0] 198 := (show Has w wb [v, .int .i64 0] 198 from h.h).kept r3 (fun e => h.ne e.symm)
    have c0 : w3.cell? ⟨wb, 0, none⟩ = some v := hh3.cellv 0 _ rfl
    have f0 := hh3.frozen 0
    clear hs r2 r3 r4 r1 h hl hn2 hh3 hs8
    go_enter Tryz.func126, Tryz.ntmps126
    go_wp2_with (at_builtin; refine wpList_append_run2 _ rfl (.tmp 13) (.tmp 14) 60 9 rfl _ _ rfl rfl HR.out ?_)
    go_end0
    exact ⟨rfl, _, HD.out⟩
set_option maxRecDepth 100000 in
theorem wBytes_c (wb : Nat) (v : Value) (st : WS) (s : ByteArray) (w : World) (h : WAt w wb v st) (hl : (st.getD []).length + s.size ≤ 140737488355328) :
    Calls Tryz.prog 126 #[.pointer (some ⟨wb, 0, none⟩), .string s] w fun e w' => e = .returned (.tuple #[]) ∧ ∃ v', WDid w w' wb v (wBytes st (sl s)) v' :=
  wBytesW_c wb v st s w h (by omega) (by omega)
end Go.Proofs.YtldnpebnpbahjaaGreatDoor.Pk

namespace Go.Proofs.YtldnpebnpbahjaaGreatDoor.Pk
open Go Go.RowKit

set_option maxRecDepth 100000 in
theorem wNum_len (st : WS) (x : Nat) (size : Int) : ((wNum st x size).getD []).length ≤ (st.getD []).length + 8 := by
  unfold wNum
  split
  · rename_i h
    cases st with
    | none => simp
    | some l =>
      have := h.1.2
      simp [be_len]; omega
  · simp
set_option maxRecDepth 100000 in
theorem wSig_len (st : WS) (x : Int) (size : Int) : ((wSig st x size).getD []).length ≤ (st.getD []).length + 8 := by
  unfold wSig
  split
  · rename_i h
    cases st with
    | none => simp
    | some l =>
      have := h.1.2
      simp [be_len]; omega
  · simp
set_option maxRecDepth 100000 in
theorem wBytes_len (st : WS) (s : List UInt8) : ((wBytes st s).getD []).length ≤ (st.getD []).length + s.length := by
  cases st <;> simp [wBytes]
set_option maxRecDepth 100000 in
theorem wText_len (st : WS) (s : List UInt8) : ((wText st s).getD []).length ≤ (st.getD []).length + s.length + 1 := by
  unfold wText
  split
  · cases st <;> simp; omega
  · simp
set_option maxRecDepth 100000 in
theorem wTextW_c (wb : Nat) (v : Value) (st : WS) (s : ByteArray) (w : World) (h : WAt w wb v st) (hl : (st.getD []).length + s.size ≤ 179999999999984) (hs8 : s.size ≤ 140737488355328) :
    Calls Tryz.prog 142 #[.pointer (some ⟨wb, 0, none⟩), .string s] w fun e w' => e = .returned (.tuple #[]) ∧ ∃ v', WDid w w' wb v (wText st (sl s)) v' := by
  have HH : Keep (WAt w wb v st) := ⟨h⟩
  have HL : Keep ((st.getD []).length + s.size ≤ 179999999999984 ∧ s.size ≤ 140737488355328) := ⟨hl, hs8⟩
  have HW : Keep (IntKind.u64.wrap (s.size : Int) = (s.size : Nat)) := ⟨by rw [wu]; omega⟩
  clear h hl hs8
  go_enter Tryz.func142, Tryz.ntmps142
  go_wp2_with fail
  try rw [HW.out]
  refine (wNumber_c wb v st s.size 1 w HH.out (by have := HL.out; omega) (by have := HL.out; omega)).mono ?_
  rintro e w1 ⟨rfl, v1, d1⟩
  have HD : Keep (WDid w w1 wb v (wNum st s.size 1) v1) := ⟨d1⟩
  clear d1 HH
  go_wp2_with fail
  refine (wBytesW_c wb v1 _ s w1 HD.out.a (by have := HL.out; have := wNum_len st s.size 1; omega) HL.out.2).mono ?_
  rintro e w2 ⟨rfl, v2, d2⟩
  have HE : Keep (WDid w w2 wb v (wText st (sl s)) v2) := ⟨by
    have := HD.out.trans d2
    rw [← sl_len, wText_eq] at this
    exact this⟩
  clear d2 HD
  go_wp2
  go_end0
  exact ⟨rfl, v2, HE.out⟩
set_option maxRecDepth 100000 in
theorem wText_c (wb : Nat) (v : Value) (st : WS) (s : ByteArray) (w : World) (h : WAt w wb v st) (hl : (st.getD []).length + s.size ≤ 140737488355312) :
    Calls Tryz.prog 142 #[.pointer (some ⟨wb, 0, none⟩), .string s] w fun e w' => e = .returned (.tuple #[]) ∧ ∃ v', WDid w w' wb v (wText st (sl s)) v' :=
  wTextW_c wb v st s w h (by omega) (by omega)
/-- 'string(b)' -/
theorem cvt_cells (w : World) (a : Option Addr) (c : Nat) (q : List UInt8) (h0 : a = none → q = []) (hc : ∀ ad, a = some ad → ∀ j x, q[j]? = some x → w.cell? (ad.add j) = some (bv x)) : (convert 60 9 (.slice a q.length c)).run Tryz.prog w = .ok (.string ⟨q.toArray⟩) w := by
  cases a with
  | none =>
    obtain rfl := h0 rfl
    rw [List.length_nil, run_convert_bytes_string w 60 9 5 none 0 c under53 under5 under9]
    simp [Conv.bytesToString]
    rfl
  | some ad => exact run_convert_bytes_back (P := Tryz.prog) w 60 9 5 ad c q under53 under5 under9 (fun j hj => hc ad rfl j _ (List.getElem?_eq_getElem hj))
set_option maxRecDepth 100000 in
theorem cvt_row {w : World} {v : Value} {xs : List UInt8} (h : Row w v xs) : (convert 60 9 v).run Tryz.prog w = .ok (.string ⟨xs.toArray⟩) w := by
  obtain ⟨a, c, rfl, h0, hc⟩ := h.shape
  exact cvt_cells w a c xs h0 hc
def werr (st : WS) : Int := if st = none then 51 else 0
set_option maxRecDepth 100000 in
theorem wDone_c (wb : Nat) (v : Value) (st : WS) (w : World) (h : WAt w wb v st) :
    Calls Tryz.prog 92 #[.pointer (some ⟨wb, 0, none⟩)] w fun e w' => e = .returned (.tuple #[.string ⟨(st.getD []).toArray⟩, .int .i64 (werr st)]) ∧ w.grownBy w' none := by
  have h0 : w.cell? ⟨wb, 0, none⟩ = some v := h.h.cellv 0 _ rfl
  have h1 : w.cell? ⟨wb, 1, none⟩ = some (.int .i64 (werr st)) := h.h.cellv 1 _ rfl
  have hc : ∀ k, (convert 60 9 v).run Tryz.prog (w.drewN k) = .ok (.string ⟨(st.getD []).toArray⟩) (w.drewN k) := fun k => cvt_row (h.kept (gr_drewN w k none)).r
  obtain ⟨a, c, hv, _⟩ := h.r.shape
  obtain ⟨n, hn⟩ : ∃ n, (st.getD []).length = n := ⟨_, rfl⟩
  rw [hn] at hv
  subst hv
  clear h hn
  generalize (⟨(st.getD []).toArray⟩ : ByteArray) = s at *
  generalize werr st = er at *
  go_enter Tryz.func92, Tryz.ntmps92
  go_wp2_with fail
  go_quiet (fail)
  go_wp2
  go_ret2
  exact ⟨rfl, gr_drewN _ _ _⟩
end Go.Proofs.YtldnpebnpbahjaaGreatDoor.Pk

namespace Go.Proofs.YtldnpebnpbahjaaGreatDoor.Pk
open Go Go.RowKit

/-- bytes that lie in block B -/
structure Bs (w : World) (B : Nat) (a : Option Addr) (n c : Nat) (q : List UInt8) : Prop where
  len : q.length = n
  cap : n ≤ c
  nil : a = none → q = []
  at_ : 0 < n → ∃ o, a = some ⟨B, o, none⟩ ∧ ∀ j x, q[j]? = some x → w.cell? ⟨B, o + j, none⟩ = some (bv x)
set_option maxRecDepth 100000 in
theorem Bs.fr {S : Nat → Prop} {w w' : World} {B : Nat} {a : Option Addr} {n c : Nat} {q : List UInt8} (h : Bs w B a n c q) (f : Fr S w w') (hs : ¬ S B) : Bs w' B a n c q := by
  refine ⟨h.len, h.cap, h.nil, fun hn => ?_⟩
  obtain ⟨o, e, h3⟩ := h.at_ hn
  refine ⟨o, e, fun j x hx => ?_⟩
  have h4 := h3 j x hx
  have hb : B < w.heap.size := World.block_lt_of_cell? w _ h4
  rw [← h4]
  simp only [World.cell?]
  rw [f.block B hb hs]
set_option maxRecDepth 100000 in
theorem Bs.cvt {w : World} {B : Nat} {a : Option Addr} {n c : Nat} {q : List UInt8} (h : Bs w B a n c q) : (convert 60 9 (.slice a n c)).run Tryz.prog w = .ok (.string ⟨q.toArray⟩) w := by
  have := cvt_cells w a c q h.nil (fun ad e j x hx => by
    have hn : 0 < n := by rw [← h.len]; have := (List.getElem?_eq_some_iff.1 hx).1; omega
    obtain ⟨o, e2, h3⟩ := h.at_ hn
    rw [e] at e2
    obtain rfl := Option.some.inj e2
    rw [Addr.add_mid]; exact h3 j x hx)
  rwa [h.len] at this
set_option maxRecDepth 100000 in
theorem Bs.none (w : World) (B : Nat) : Bs w B .none 0 0 [] := ⟨rfl, Nat.le_refl _, fun _ => rfl, fun h => by omega⟩
set_option maxRecDepth 100000 in
theorem add_zero' (a : Addr) : a.add 0 = a := by
  unfold Addr.add
  split <;> simp_all
set_option maxRecDepth 100000 in
theorem sl_h (a : Option Addr) (n c p : Nat) (hp : p ≤ c) (W : World) : (Instr.slice 60 (.slice a n c) none (some (.int .i64 (p : Int))) none).run Tryz.prog W = .ok (.slice a p c) W := by
  have z : (sizeOf (Tryz.prog.elem 60)).run Tryz.prog W = .ok 1 W := by kernel_rfl
  rw [run_slice_h W 60 a n c (by kernel_rfl) .i64 p (by omega) (by omega), z]
  have e : a.map (·.add (0 * 1)) = a := by cases a <;> simp [add_zero']
  simp only [Result.andThen, sliced, e, Int.toNat_natCast, Nat.sub_zero, ite_self]
set_option maxRecDepth 100000 in
theorem sl_l (B : Nat) (a : Option Addr) (n c p : Nat) (hp : p ≤ n) (hc : n ≤ c) : ∃ A1, (∀ W : World, (Instr.slice 60 (.slice a n c) (some (.int .i64 (p : Int))) none none).run Tryz.prog W = .ok (.slice A1 (n - p) (c - p)) W) ∧ ∀ (w : World) (q : List UInt8), Bs w B a n c q → Bs w B A1 (n - p) (c - p) (q.drop p) := by
  refine ⟨if c = p then a else a.map (·.add (p * 1)), fun W => ?_, fun w q h => ⟨by rw [List.length_drop, h.len], by omega, fun e => ?_, fun hn => ?_⟩⟩
  · have z : (sizeOf (Tryz.prog.elem 60)).run Tryz.prog W = .ok 1 W := by kernel_rfl
    rw [run_slice_l W 60 a n c (by kernel_rfl) .i64 p (by omega) (by omega), z]
    simp only [Result.andThen, sliced, Int.toNat_natCast]
  · have : a = none := by
      split at e
      · exact e
      · cases a <;> simp_all
    rw [h.nil this]; simp
  · obtain ⟨o, rfl, h3⟩ := h.at_ (by omega)
    rw [if_neg (by omega)]
    refine ⟨o + p, by simp [Addr.add_mid], fun j x hx => ?_⟩
    rw [List.getElem?_drop] at hx
    rw [Nat.add_assoc]; exact h3 _ _ hx
set_option maxRecDepth 100000 in
theorem Bs.take {w : World} {B : Nat} {a : Option Addr} {n c p : Nat} {q : List UInt8} (h : Bs w B a n c q) (hp : p ≤ n) : Bs w B a p c (q.take p) := by
  refine ⟨by rw [List.length_take, h.len]; omega, by have := h.cap; omega, fun e => by rw [h.nil e]; simp, fun hn => ?_⟩
  obtain ⟨o, e, h3⟩ := h.at_ (by omega)
  refine ⟨o, e, fun j x hx => ?_⟩
  rw [List.getElem?_take] at hx
  split at hx
  · exact h3 j x hx
  · cases hx
/-- where a Reader stands -/
structure RAt (w : World) (rb B : Nat) (st : RS) : Prop where
  h : ∃ a c, Has w rb [.slice a st.1.length c, .int .i64 st.2] 204 ∧ Bs w B a st.1.length c st.1
  ne : rb ≠ B
  lt : B < w.heap.size
  ok : st.ok
structure RDid (w w' : World) (rb B : Nat) (st : RS) : Prop where
  a : RAt w' rb B st
  f : Fr (fun i => i = rb) w w'
set_option maxRecDepth 100000 in
theorem RAt.fr {S : Nat → Prop} {w w' : World} {rb B : Nat} {st : RS} (h : RAt w rb B st) (f : Fr S w w') (hs : ¬ S rb) (hs2 : ¬ S B) : RAt w' rb B st := by
  obtain ⟨⟨a, c, h1, h2⟩, h3, h4, h5⟩ := h
  exact ⟨⟨a, c, h1.fr f hs, h2.fr f hs2⟩, h3, Nat.lt_of_lt_of_le h4 f.size, h5⟩
set_option maxRecDepth 100000 in
theorem RAt.kept {w w' : World} {rb B : Nat} {st : RS} (h : RAt w rb B st) (hg : w.grownBy w' none) : RAt w' rb B st :=
  h.fr (S := fun _ => False) (Fr.ofNone hg) (fun e => e) (fun e => e)
set_option maxRecDepth 100000 in
theorem RDid.refl {w : World} {rb B : Nat} {st : RS} (h : RAt w rb B st) : RDid w w rb B st := ⟨h, Fr.refl _ _⟩
set_option maxRecDepth 100000 in
theorem RDid.trans {w w1 w2 : World} {rb B : Nat} {st st2 : RS} (h : RDid w w1 rb B st) (k : RDid w1 w2 rb B st2) : RDid w w2 rb B st2 := ⟨k.a, h.f.trans k.f⟩
set_option maxRecDepth 100000 in
theorem RDid.grown {w w1 w2 : World} {rb B : Nat} {st : RS} (h : RDid w w1 rb B st) (hg : w1.grownBy w2 none) : RDid w w2 rb B st := ⟨h.a.kept hg, h.f.trans (Fr.ofNone hg)⟩
set_option maxRecDepth 100000 in
theorem RDid.ahead {w w1 w2 : World} {rb B : Nat} {st : RS} (hg : w.grownBy w1 none) (h : RDid w1 w2 rb B st) : RDid w w2 rb B st := ⟨h.a, (Fr.ofNone hg).trans h.f⟩

set_option maxRecDepth 100000 in
theorem rfail_c (rb B : Nat) (st : RS) (e : Int) (w : World) (h : RAt w rb B st) :
    Calls Tryz.prog 230 #[.pointer (some ⟨rb, 0, none⟩), .int .i64 e] w fun en w' => en = .returned (.tuple #[]) ∧ RDid w w' rb B (st.fail e) := by
  obtain ⟨⟨a, c, h1, h2⟩, h3, h4, h5⟩ := h
  obtain ⟨l, er⟩ := st
  have HH : Keep (Has w rb [.slice a l.length c, .int .i64 er] 204 ∧ rb ≠ B ∧ B < w.heap.size) := ⟨h1, h3, h4⟩
  have c0 : w.cell? ⟨rb, 0, none⟩ = some (.slice a l.length c) := h1.cellv 0 _ rfl
  have c1 : w.cell? ⟨rb, 1, none⟩ = some (.int .i64 er) := h1.cellv 1 _ rfl
  have f0 := h1.frozen 0
  have f1 := h1.frozen 1
  clear h1 h2 h3 h4 h5
  generalize l.length = n at *
  go_enter Tryz.func230, Tryz.ntmps230
  by_cases he : er = 0
  · subst he
    go_wp2
    go_end0
    have f2 : Fr (fun i => i = rb) w _ := (Fr.ofSome (S := fun i => i = rb) (gr_set w rb 1 (.int .i64 e)) rfl).trans (Fr.ofSome (S := fun i => i = rb) (gr_set _ rb 0 (.slice none 0 0)) rfl)
    exact ⟨rfl, ⟨⟨none, 0, (HH.out.1.setCell 1 _).setCell 0 _, Bs.none _ _⟩, HH.out.2.1, Nat.lt_of_lt_of_le HH.out.2.2 f2.size, fail_ok _ _⟩, f2⟩
  · go_wp2
    go_end0
    have f2 : Fr (fun i => i = rb) w _ := (Fr.ofSome (S := fun i => i = rb) (gr_set w rb 0 (.slice none 0 0)) rfl)
    have e2 : RS.fail (l, er) e = ([], er) := by unfold RS.fail; rw [if_neg he]
    rw [e2]
    exact ⟨rfl, ⟨⟨none, 0, HH.out.1.setCell 0 _, Bs.none _ _⟩, HH.out.2.1, Nat.lt_of_lt_of_le HH.out.2.2 f2.size, fun _ => rfl⟩, f2⟩

set_option maxRecDepth 100000 in
theorem rtake_c (rb B : Nat) (st : RS) (n : Int) (w : World) (h : RAt w rb B st) :
    Calls Tryz.prog 211 #[.pointer (some ⟨rb, 0, none⟩), .int .i64 n] w fun en w' => ∃ a c, en = .returned (.slice a (rTake st n).1.length c) ∧ Bs w' B a (rTake st n).1.length c (rTake st n).1 ∧ RDid w w' rb B (rTake st n).2 := by
  have HH : Keep (RAt w rb B st) := ⟨h⟩
  obtain ⟨⟨a, c, h1, h2⟩, h3, h4, h5⟩ := h
  obtain ⟨l, er⟩ := st
  have c0 : w.cell? ⟨rb, 0, none⟩ = some (.slice a l.length c) := h1.cellv 0 _ rfl
  have f0 := h1.frozen 0
  have HB : Keep (Has w rb [.slice a l.length c, .int .i64 er] 204 ∧ Bs w B a l.length c l ∧ rb ≠ B ∧ B < w.heap.size ∧ RS.ok (l, er)) := ⟨h1, h2, h3, h4, h5⟩
  clear h1 h2 h3 h4 h5
  go_enter Tryz.func211, Tryz.ntmps211
  by_cases hn : n < 0
  · have HE : Keep (rTake (l, er) n = ([], RS.fail (l, er) 51)) := ⟨by unfold rTake; rw [if_pos hn]⟩
    go_wp2_with fail
    refine (rfail_c rb B _ 51 w HH.out).mono ?_
    rintro e w1 ⟨rfl, d1⟩
    have HD : Keep (RDid w w1 rb B (RS.fail (l, er) 51)) := ⟨d1⟩
    clear d1
    go_wp2
    go_ret
    rw [HE.out]
    exact ⟨none, 0, rfl, Bs.none _ _, HD.out⟩
  · by_cases hl : (l.length : Int) < n
    · have HE : Keep (rTake (l, er) n = ([], RS.fail (l, er) 50)) := ⟨by unfold rTake; rw [if_neg hn, if_pos hl]⟩
      go_wp2_with fail
      refine (rfail_c rb B _ 50 w HH.out).mono ?_
      rintro e w1 ⟨rfl, d1⟩
      have HD : Keep (RDid w w1 rb B (RS.fail (l, er) 50)) := ⟨d1⟩
      clear d1
      go_wp2
      go_ret
      rw [HE.out]
      exact ⟨none, 0, rfl, Bs.none _ _, HD.out⟩
    · obtain ⟨k, rfl⟩ : ∃ k : Nat, n = k := ⟨n.toNat, by omega⟩
      have hk : k ≤ l.length := by omega
      have HE : Keep (rTake (l, er) k = (l.take k, (l.drop k, er))) := ⟨by unfold rTake; rw [if_neg hn, if_neg hl]; rfl⟩
      have s1 := sl_h a l.length c k (by have := HB.out.2.1.cap; omega)
      obtain ⟨A1, s2, s3⟩ := sl_l B a l.length c k hk HB.out.2.1.cap
      have HS : Keep (∀ (w : World) (q : List UInt8), Bs w B a l.length c q → Bs w B A1 (l.length - k) (c - k) (q.drop k)) := ⟨s3⟩
      have HK : Keep (k ≤ l.length) := ⟨hk⟩
      clear s3
      generalize hln : l.length = ln at *
      have HL : Keep (l.length = ln) := ⟨hln⟩
      clear hln
      have hlt : ¬ ((ln : Int) < (k : Int)) := hl
      clear hl hk
      go_wp2_with fail
      go_ret
      have f2 : Fr (fun i => i = rb) w _ := Fr.ofSome (S := fun i => i = rb) (gr_set w rb 0 (.slice A1 (ln - k) (c - k))) rfl
      have e1 : (l.take k).length = k := by rw [List.length_take, HL.out]; have := HK.out; omega
      have e2 : (l.drop k).length = ln - k := by rw [List.length_drop, HL.out]
      obtain ⟨q1, q2, q3, q4, q5⟩ := HB.out
      have hs : ¬ B = rb := fun e => q3 e.symm
      rw [HE.out]
      simp only [e1]
      refine ⟨a, c, rfl, (q2.take HK.out).fr f2 hs, ⟨⟨A1, c - k, ?_, ?_⟩, q3, Nat.lt_of_lt_of_le q4 f2.size, ?_⟩, f2⟩
      · simp only [e2]; exact q1.setCell 0 _
      · simp only [e2]; exact (HS.out _ _ q2).fr f2 hs
      · intro e; have : l = [] := q5 e; simp [this]
end Go.Proofs.YtldnpebnpbahjaaGreatDoor.Pk

