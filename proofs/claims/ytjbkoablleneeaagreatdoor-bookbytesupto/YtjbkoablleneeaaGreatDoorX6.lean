import Derived.Test.YtjbkoablleneeaaGreatDoorX5
import Derived.Deep.DeepAppendWide
import Derived.Deep.RegionHeld
/- pack: the Writer's number. -/
namespace Go.Proofs.YtjbkoablleneeaaGreatDoor.Pk
open Go Go.RowKit

set_option maxRecDepth 100000 in
theorem row_nil (w : World) : Row w (.slice none 0 0) [] := World.ownsRow_nil _ _ _ _
set_option maxRecDepth 100000 in
theorem wfail_c (wb : Nat) (v : Value) (st : WS) (w : World) (h : WAt w wb v st) :
    Calls Tryz.prog 97 #[.pointer (some ⟨wb, 0, none⟩)] w fun e w' => e = .returned (.tuple #[]) ∧ ∃ v', WDid w w' wb v none v' := by
  have HH : Keep (WAt w wb v st) := ⟨h⟩
  have h0 : w.cell? ⟨wb, 0, none⟩ = some v := h.h.cellv 0 _ rfl
  have h1 : w.cell? ⟨wb, 1, none⟩ = some (.int .i64 (if st = none then 51 else 0)) := h.h.cellv 1 _ rfl
  have f0 := h.h.frozen 0
  have f1 := h.h.frozen 1
  clear h
  generalize (if st = none then (51 : Int) else 0) = e1 at *
  go_enter Tryz.func97, Tryz.ntmps97
  go_wp2
  go_end0
  refine ⟨rfl, .slice none 0 0, ⟨(HH.out.h.setCell 0 _).setCell 1 _, row_nil _, by simp [Value.ownBlock]⟩, ?_, fun k e => by cases e⟩
  exact ((Fr.ofSome (gr_set _ _ _ _) (.inl rfl))).trans (Fr.ofSome (gr_set _ _ _ _) (.inl rfl))
end Go.Proofs.YtjbkoablleneeaaGreatDoor.Pk

/- pack: rows of bytes that pass 2^47 bytes. -/
namespace Go.Proofs.YtjbkoablleneeaaGreatDoor.Pk
open Go Go.RowKit

/-- there was room -/
theorem row_room {w : World} {g n cap m : Nat} {cur : Array Value} {xs news : List UInt8} (hg : w.heap[g]? = some (.cells cur 5 (0, 0))) (hcm : cap ≤ maxLen) (hcs : cur.size = cap) (htake : cur.toList.take n = xs.map bv) (hn : xs.length = n) (hm : news.length = m) (hroom : n + m ≤ cap) :
    Row (w.setRow g (cur.toList.take n ++ news.map bv ++ cur.toList.drop (n + m)).toArray) (.slice (some ⟨g, 0, none⟩) (n + m) cap) (xs ++ news) ∧ w.grownBy (w.setRow g (cur.toList.take n ++ news.map bv ++ cur.toList.drop (n + m)).toArray) (some g) := by
  have hlen : (xs ++ news).length = n + m := by rw [List.length_append, hn, hm]
  refine ⟨⟨by simp, .inr ⟨g, cap, _, by rw [hlen], Nat.zero_le _, setRow_heap w g cur _ 5 _ hg, by omega, hcm, ?_, ?_⟩⟩, ⟨rfl, rfl, rfl, by simp, fun k _ hk => setRow_other w g k _ (fun e => hk (by rw [e]))⟩⟩
  · simp only [List.size_toArray, List.length_append, List.length_take, List.length_drop, List.length_map, Array.length_toList]
    omega
  · rw [htake, ← List.map_append, hlen, Nat.mul_one]
    refine (List.take_append_of_le_length ?_).trans (List.take_of_length_le ?_) <;> rw [List.length_map, hlen] <;> exact Nat.le_refl _
/-- it has grown -/
theorem row_grown (w : World) (n m old : Nat) (xs news : List UInt8) (hn : xs.length = n) (hm : news.length = m) (h63 : n + m ≤ maxLen) (row : Option Nat) :
    Row (w.drew.alloc (.cells ((xs.map bv).toArray ++ (news.map bv).toArray ++ Builtin.zeroCells (Value.int .u8 0).cells (grownCap w (n + m) old 5 - (n + m))) 5)) (.slice (some ⟨w.heap.size, 0, none⟩) (n + m) (grownCap w (n + m) old 5)) (xs ++ news) ∧
    w.grownBy (w.drew.alloc (.cells ((xs.map bv).toArray ++ (news.map bv).toArray ++ Builtin.zeroCells (Value.int .u8 0).cells (grownCap w (n + m) old 5 - (n + m))) 5)) row := by
  have hlen : (xs ++ news).length = n + m := by rw [List.length_append, hn, hm]
  have hge := grownCap_ge w (n + m) old 5
  refine ⟨⟨by simp, .inr ⟨w.heap.size, _, _, by rw [hlen], Nat.zero_le _, heap_alloc_last w.drew _, by omega, grownCap_le_maxLen w (n + m) old 5 h63, ?_, ?_⟩⟩, (gr_drew w row).trans (World.grownBy_alloc _ _ _)⟩
  · have hz : (Value.int .u8 0).cells.size = 1 := rfl
    simp only [Array.size_append, List.size_toArray, List.length_map, size_zeroCells, hn, hm, hz]
    omega
  · simp only [Array.toList_append, hlen, Nat.mul_one]
    rw [← List.map_append]
    refine (List.take_append_of_le_length ?_).trans (List.take_of_length_le ?_) <;> rw [List.length_map, hlen] <;> exact Nat.le_refl _
set_option maxRecDepth 100000 in
theorem app_byte_w {w : World} {v : Value} {xs : List UInt8} (h : Row w v xs) (b : UInt8) (hsz : xs.length + 1 ≤ 180000000000000) :
    ∃ v' w', (Builtin.append_ #[36, 36] 36 #[v, .slice (some ⟨w.heap.size, 0, none⟩) 1 1]).run Tryz.prog (w.alloc (.cells #[.int .u8 b.toNat] 5)) = .ok v' w' ∧ Row w' v' (xs ++ [b]) ∧ w.grownBy w' v.ownBlock ∧ (v'.ownBlock = v.ownBlock ∨ ∃ k, v'.ownBlock = some k ∧ w.heap.size ≤ k) := by
  by_cases hsm : xs.length + 1 ≤ 140737488355328
  · exact app_byte h b hsm
  obtain ⟨i, h1, h2, h3, h4⟩ := info5
  have ga := World.grownBy_alloc w (.cells #[.int .u8 b.toNat] 5) none
  have h' : Row (w.alloc (.cells #[.int .u8 b.toNat] 5)) v xs := h.fr (S := fun _ => False) (Fr.ofNone ga) (fun _ _ e => e)
  have hnews : ∀ j u, ([b].map bv)[j]? = some u → (w.alloc (.cells #[.int .u8 b.toNat] 5)).cell? ((⟨w.heap.size, 0, none⟩ : Addr).add j) = some u := fun j u hu => by
    rw [Addr.add_mid, Nat.zero_add]
    exact (Has.newA w #[.int .u8 b.toNat] 5).cellv j _ hu
  have fin : ∀ w' : World, (w.alloc (.cells #[.int .u8 b.toNat] 5)).grownBy w' v.ownBlock → w.grownBy w' v.ownBlock := fun w' r3 =>
    ⟨r3.os.trans ga.os, r3.tape.trans ga.tape, r3.output.trans ga.output, Nat.le_trans ga.size r3.size, fun k hk hne => by rw [r3.block k (by have := ga.size; omega) hne, ga.block k hk (by simp)]⟩
  obtain ⟨hl, h5⟩ := h'
  rcases h5 with ⟨rfl, h0⟩ | ⟨g, cap, cur, rfl, hbg, hg, hnc, hcm, hcs, htake⟩
  · omega
  · have hcs' : cur.size = cap := by simpa using hcs
    have htk : cur.toList.take xs.length = xs.map bv := by simpa using htake
    by_cases hroom : xs.length + 1 ≤ cap
    · have hr := run_append_room (P := Tryz.prog) (w.alloc (.cells #[.int .u8 b.toNat] 5)) 36 36 5 i under53 h1 g xs.length cap cur hg ⟨w.heap.size, 0, none⟩ 1 1 ([b].map bv) (by rw [h2]; rfl) hnews (fun u hu => by simp at hu; subst hu; rfl) hroom (by rw [h2]; simp; omega)
      rw [h2, Nat.mul_one] at hr
      obtain ⟨r2, r3⟩ := row_room (news := [b]) (m := 1) hg hcm hcs' htk rfl rfl hroom
      exact ⟨_, _, hr, r2, fin _ r3, .inl rfl⟩
    · have holds : ∀ j u, (xs.map bv)[j]? = some u → (w.alloc (.cells #[.int .u8 b.toNat] 5)).cell? ((⟨g, 0, none⟩ : Addr).add j) = some u := World.ownsRow.cells (base := 0) (e := 5) (size := 1) ⟨hl, .inr ⟨g, cap, cur, rfl, hbg, hg, hnc, hcm, hcs, htake⟩⟩ (g := g) rfl
      have hr := run_append_grow (P := Tryz.prog) (w.alloc (.cells #[.int .u8 b.toNat] 5)) 36 36 5 i (.int .u8 0) under53 h1 h4 ⟨g, 0, none⟩ xs.length cap (xs.map bv) (by rw [h2]; simp) holds ⟨w.heap.size, 0, none⟩ 1 1 ([b].map bv) (by rw [h2]; rfl) hnews (by omega) (by omega) (by rw [h3]; exact growslice_fits_wide (by omega) (by omega))
      obtain ⟨r2, r3⟩ := row_grown (w.alloc (.cells #[.int .u8 b.toNat] 5)) xs.length 1 cap xs [b] rfl rfl (by unfold maxLen; omega) (some g)
      exact ⟨_, _, hr, r2, fin _ r3, .inr ⟨w.heap.size + 1, by simp [Value.ownBlock, World.size_alloc], by omega⟩⟩
set_option maxRecDepth 100000 in
theorem app_str_w {w : World} {v : Value} {xs : List UInt8} (h : Row w v xs) (s : ByteArray) (hsz : xs.length + s.size ≤ 180000000000000) (hs : s.size ≤ 140737488355328) :
    ∃ v' w', (Builtin.append_ #[36, 9] 36 #[v, .string s]).run Tryz.prog w = .ok v' w' ∧ Row w' v' (xs ++ sl s) ∧ w.grownBy w' v.ownBlock ∧ (v'.ownBlock = v.ownBlock ∨ ∃ k, v'.ownBlock = some k ∧ w.heap.size ≤ k) := by
  by_cases hsm : xs.length + s.size ≤ 140737488355328
  · exact app_str h s hsm
  obtain ⟨i, h1, h2, h3, h4⟩ := info5
  obtain ⟨hl, h5⟩ := h
  rcases h5 with ⟨rfl, h0⟩ | ⟨g, cap, cur, rfl, hbg, hg, hnc, hcm, hcs, htake⟩
  · omega
  · have hcs' : cur.size = cap := by simpa using hcs
    have htk : cur.toList.take xs.length = xs.map bv := by simpa using htake
    by_cases hroom : xs.length + s.size ≤ cap
    · have hr := Lib.run_append_room_string (P := Tryz.prog) w 36 9 36 5 i under53 under9 h1 h2 g xs.length cap cur hg s hroom (by omega)
      rw [sl_cells] at hr
      obtain ⟨r2, r3⟩ := row_room (news := sl s) (m := s.size) hg hcm hcs' htk rfl (sl_len s) hroom
      exact ⟨_, _, hr, r2, r3, .inl rfl⟩
    · have holds : ∀ j u, (xs.map bv)[j]? = some u → w.cell? ((⟨g, 0, none⟩ : Addr).add j) = some u := World.ownsRow.cells (w := w) (base := 0) (e := 5) (size := 1) ⟨hl, .inr ⟨g, cap, cur, rfl, hbg, hg, hnc, hcm, hcs, htake⟩⟩ (g := g) rfl
      have hr := Lib.run_append_grow_string (P := Tryz.prog) w 36 9 36 5 i (.int .u8 0) under53 under9 h1 h4 ⟨g, 0, none⟩ xs.length cap (xs.map bv) (by rw [h2]; simp) holds s (by omega) (by omega) (by rw [h3]; exact growslice_fits_wide (by omega) (by omega))
      rw [sl_cells] at hr
      obtain ⟨r2, r3⟩ := row_grown w xs.length s.size cap xs (sl s) rfl (sl_len s) (by unfold maxLen; omega) (some g)
      exact ⟨_, _, hr, r2, r3, .inr ⟨_, rfl, Nat.le_refl _⟩⟩
end Go.Proofs.YtjbkoablleneeaaGreatDoor.Pk

/- pack: the Writer's number. -/
namespace Go.Proofs.YtjbkoablleneeaaGreatDoor.Pk
open Go Go.RowKit

set_option maxRecDepth 100000 in
theorem be_at : ∀ (n x k : Nat), k < n → (be n x)[n - 1 - k]? = some (UInt8.ofNat (x / 256 ^ k))
  | 0, _, _, h => by omega
  | n + 1, x, k, h => by
    by_cases e : k = n
    · subst e; simp [be]
    · have := be_at n x k (by omega)
      obtain ⟨m, hm⟩ : ∃ m, n + 1 - 1 - k = m + 1 := ⟨n - 1 - k, by omega⟩
      rw [hm, be, List.getElem?_cons_succ, ← this]
      congr 1; omega
set_option maxRecDepth 100000 in
theorem be_take (n x k : Nat) (h : k < n) : (be n x).take (n - k) = (be n x).take (n - (k + 1)) ++ [UInt8.ofNat (x / 256 ^ k)] := by
  have h1 := be_at n x k h
  have e : n - k = (n - (k + 1)) + 1 := by omega
  have e2 : n - 1 - k = n - (k + 1) := by omega
  rw [e2] at h1
  obtain ⟨h2, h3⟩ := List.getElem?_eq_some_iff.1 h1
  rw [e, List.take_succ_eq_append_getElem h2, h3]

set_option maxRecDepth 100000 in
theorem wanted_append {P : Program} {o : Oper} {Y : Nat → Option Bool} {a : Act} {w : World} {K : Act → World → Prop} {Q : Exit → Act → World → Prop} (hgd : o.guard = none) (s x : Operand) (t u : TypeId)
    (ho : o.op = .call { callee := .builtin .append, args := #[s, x], argTypes := #[t, u] }) (v y : Value) (hs : a.eval s = v) (hx : a.eval x = y) {v' : Value} {w' : World}
    (hr : (Builtin.append_ #[t, u] o.type #[v, y]).run P w = .ok v' w') (h : K (a.put o.dst v') w') : if Region.wanted o Y = true then Oper.wp P o a w K Q else K (a.put o.dst undef) w := by
  rw [if_pos (by simp [Region.wanted, hgd])]
  unfold Oper.wp execOp
  simp only [ho, resolve, invoke, builtin, Sem.run_bind, Sem.run_pure, Result.andThen_ok, List.map_toArray, List.map_cons, List.map_nil, hs, hx, hr]
  exact h
set_option maxRecDepth 100000 in
theorem wi (a : Int) (h1 : -9223372036854775808 ≤ a) (h2 : a < 9223372036854775808) : IntKind.i64.wrap a = a := by
  rw [IntKind.wrap_i64]; omega

set_option maxRecDepth 100000 in
set_option maxHeartbeats 4000000 in
theorem wnumber_plain (wb : Nat) (v : Value) (st : WS) (x : Nat) (size : Int) (w : World) (h : WAt w wb v st) (hx : x < 18446744073709551616) (hl : (st.getD []).length ≤ 179999999999992) :
    Calls Tryz.prog 58 #[.pointer (some ⟨wb, 0, none⟩), .agg #[fv 98], .int .u64 (x : Nat), .int .i64 size] w fun e w' => e = .returned (.tuple #[]) ∧ ∃ v', WDid w w' wb v (wNum st x size) v' := by
  have HH : Keep (WAt w wb v st) := ⟨h⟩
  have HL : Keep ((st.getD []).length ≤ 179999999999992) := ⟨hl⟩
  have HB : Keep (∀ W : World, Calls Tryz.prog 96 #[.agg #[fv 98], .int .u64 (x : Nat), .int .i64 size] W fun e w' => e = .returned (.bool (decide (fitsU x size))) ∧ W.grownBy w' none) := ⟨fun W => by
    have := holds_plain x size W hx
    rwa [show decide (sized size ∧ x % 256 ^ size.toNat = x) = decide (fitsU x size) from decide_eq_decide.2 (fitsU_iff x size)] at this⟩
  have HX : Keep (x < 18446744073709551616) := ⟨hx⟩
  have HF : Keep (¬ fitsU x size → wNum st x size = none) := ⟨fun q => by unfold wNum; rw [if_neg q]⟩
  have HT : Keep (fitsU x size → wNum st x size = st.map (· ++ be size.toNat x)) := ⟨fun q => by unfold wNum; rw [if_pos q]⟩
  have HZ : Keep (fitsU x size → 1 ≤ size ∧ size ≤ 8) := ⟨fun q => q.1⟩
  obtain ⟨st2, hst2⟩ : ∃ q, wNum st x size = q := ⟨_, rfl⟩
  obtain ⟨fit, hfit⟩ : ∃ q, (fitsU x size) = q := ⟨_, rfl⟩
  obtain ⟨bo, hbo⟩ : ∃ q, decide (fitsU x size) = q := ⟨_, rfl⟩
  have HBO : Keep (bo = true ↔ fit) := ⟨by rw [← hbo, ← hfit]; exact decide_eq_true_iff⟩
  rw [hst2] at HF HT ⊢
  rw [hbo] at HB
  rw [hfit] at HF HT HZ
  
  
  clear h hx hl hst2 hfit hbo
  go_enter Tryz.func58, Tryz.ntmps58
  go_wp2_with fail
  obtain ⟨w1, hw1⟩ : ∃ w1, w.alloc (.cells #[fv 98] 140) = w1 := ⟨_, rfl⟩
  rw [hw1]
  have HG : Keep (w.grownBy w1 none) := ⟨by rw [← hw1]; exact World.grownBy_alloc _ _ _⟩
  clear hw1
  refine (HB.out w1).mono ?_
  rintro e w2 ⟨rfl, g2⟩
  have HG2 : Keep (w.grownBy w2 none) := ⟨HG.out.trans g2⟩
  have HA2 : Keep (WAt w2 wb v st) := ⟨HH.out.kept HG2.out⟩
  clear g2 HG HB HH
  cases bo with
  | false =>
    have HN : Keep (st2 = none) := ⟨HF.out (fun q => by have := HBO.out.2 q; cases this)⟩
    go_wp2_with fail
    refine (wfail_c wb v st w2 HA2.out).mono ?_
    rintro e w3 ⟨rfl, v3, d3⟩
    have HD : Keep (WDid w w3 wb v none v3) := ⟨d3.ahead HG2.out⟩
    have h1 : w3.cell? ⟨wb, 1, none⟩ = some (.int .i64 51) := d3.a.h.cellv 1 _ rfl
    clear d3
    go_wp2
    refine bodyPost_ret (results_none rfl _ _ _) rfl ?_
    exact ⟨rfl, v3, by rw [HN.out]; exact HD.out⟩
  | true =>
    have HFT : Keep fit := ⟨HBO.out.1 rfl⟩
    cases st with
    | none =>
      have HN : Keep (st2 = none) := ⟨HT.out HFT.out⟩
      have h1 : w2.cell? ⟨wb, 1, none⟩ = some (.int .i64 51) := HA2.out.h.cellv 1 _ rfl
      go_wp2
      refine bodyPost_ret (results_none rfl _ _ _) rfl ?_
      exact ⟨rfl, v, by rw [HN.out]; exact (WDid.refl HA2.out).ahead HG2.out⟩
    | some l =>
      obtain ⟨n, rfl, hn1, hn8⟩ : ∃ n : Nat, size = n ∧ 1 ≤ n ∧ n ≤ 8 := ⟨size.toNat, by have := HZ.out HFT.out; omega, by have := HZ.out HFT.out; omega, by have := HZ.out HFT.out; omega⟩
      have HN : Keep (st2 = some (l ++ be n x)) := ⟨by have := HT.out HFT.out; simpa using this⟩
      have HLL : Keep (l.length ≤ 179999999999992) := ⟨HL.out⟩
      have h1 : w2.cell? ⟨wb, 1, none⟩ = some (.int .i64 0) := HA2.out.h.cellv 1 _ rfl
      clear HT HF HBO HZ HL
      go_wp2
      clear h1
      go_loopw [8] (fun t w' => ∃ (k : Nat) (v' : Value), k ≤ n ∧ t = .int .i64 ((k : Int) - 1) ∧ Keep (WDid w w' wb v (some (l ++ (be n x).take (n - k))) v')) (fun t _ => (intOf t + 1).toNat)
      case atStart => exact ⟨n, v, Nat.le_refl _, by simp, ⟨by rw [Nat.sub_self, List.take_zero, List.append_nil]; exact (WDid.refl HA2.out).ahead HG2.out⟩⟩
      case round =>
        obtain ⟨k, v', hk, rfl, HI⟩ := hrel
        by_cases hk0 : k = 0
        · subst hk0
          have HE : Keep (WDid w wr wb v st2 v') := ⟨by
            have := HI.out
            rw [Nat.sub_zero, List.take_of_length_le (by rw [be_len]; exact Nat.le_refl _), ← HN.out] at this
            exact this⟩
          clear HI
          go_wp2
          go_end0
          exact ⟨rfl, v', HE.out⟩
        · obtain ⟨j, rfl⟩ : ∃ j, k = j + 1 := ⟨k - 1, by omega⟩
          have hj : ((j + 1 : Nat) : Int) - 1 = (j : Int) := by omega
          rw [hj]
          have hj8 : j < 8 := by omega
          have hge : ((j : Int) ≥ 0) := by omega
          have hb : l.length + ((be n x).take (n - (j + 1))).length + 1 ≤ 180000000000000 := by
            have := HLL.out
            rw [List.length_take, be_len]; omega
          obtain ⟨b, hbb⟩ : ∃ b, UInt8.ofNat (x / 256 ^ j) = b := ⟨_, rfl⟩
          have hsh : (b.toNat : Int) = (x / 256 ^ j % 256 : Nat) := by rw [← hbb, UInt8.toNat_ofNat']
          have h0 : wr.cell? ⟨wb, 0, none⟩ = some v' := HI.out.a.h.cellv 0 _ rfl
          obtain ⟨v2, w3, r1, r2, r3, r4⟩ := app_byte_w (HI.out.a.r.fr (S := fun _ => False) (Fr.ofNone (gr_drew wr none)) (fun _ _ e => e)) b (by simpa [Nat.add_assoc] using hb)
          have HD := (HI.out.a.kept (gr_drew wr none)).set r2 r3 r4
          obtain ⟨a2, c2, hv2, _⟩ := Row.shape r2
          obtain ⟨n2, hn2⟩ : ∃ q, ((some (l ++ List.take (n - (j + 1)) (be n x))).getD [] ++ [b]).length = q := ⟨_, rfl⟩
          rw [hn2] at hv2
          subst hv2
          clear hn2
          have hw8 : IntKind.i64.wrap (8 * (j : Int)) = 8 * j := by rw [wi _ (by omega) (by omega)]
          have hdg : decide ((j : Int) ≥ 0) = true := decide_eq_true hge
          have hnn : ¬ (8 * (j : Int) < 0) := by omega
          have hs0 : IntKind.u8.wrap ((x : Int) / 2 ^ (8 * (j : Int)).toNat) = b.toNat := by
            rw [hsh, show (8 * (j : Int)).toNat = 8 * j by omega]
            have e3 : ∀ q : Int, IntKind.u8.wrap q = q % 256 := fun q => rfl
            have e2 : (2 : Int) ^ (8 * j) = ((256 ^ j : Nat) : Int) := by
              rw [Int.pow_mul]; simp
            rw [e2, e3]
            simp
          have r1' : (Builtin.append_ #[36, 36] 36 #[v', .slice (some ⟨wr.heap.size, 0, none⟩) 1 1]).run Tryz.prog (wr.alloc (.cells #[.int .u8 b.toNat] 5)).drew = .ok (.slice a2 n2 c2) w3 := r1
          have h0a : (wr.alloc (.cells #[.int .u8 b.toNat] 5)).cell? ⟨wb, 0, none⟩ = some v' := (HI.out.a.h.alloc _).cellv 0 _ rfl
          clear r1
          have f0 : w3.frozen? ⟨wb, 0, none⟩ = false := (show Has w3 wb [v', .int .i64 0] 136 from ((HI.out.a.kept (gr_drew wr none)).h.kept r3 (fun e => HI.out.a.ne e.symm))).frozen 0
          have c0 : w3.cell? ⟨wb, 0, none⟩ = some v' := (show Has w3 wb [v', .int .i64 0] 136 from ((HI.out.a.kept (gr_drew wr none)).h.kept r3 (fun e => HI.out.a.ne e.symm))).cellv 0 _ rfl
          have HDD : Keep (WDid w (w3.setCell ⟨wb, 0, none⟩ (.slice a2 n2 c2)) wb v (some (l ++ (be n x).take (n - j))) (.slice a2 n2 c2)) := ⟨by
            rw [be_take n x j (by omega), hbb, ← List.append_assoc]
            exact (HI.out.grown (gr_drew wr none)).trans HD⟩
          have hwj : IntKind.i64.wrap ((j : Int) - 1) = (j : Int) - 1 := by rw [wi _ (by omega) (by omega)]
          clear HD r2 r3 r4 hsh hbb HI hb HX HN HLL HFT HA2 HG2 hj
          go_wp2_with fail
          refine wp_region_held_drew (S := fun _ => True) (by kernel_rfl) trivial (fun hHeld => ?_)
          refine wpAnyH_take (i := 0) (oi := _) (v := ?_) rfl (by kernel_rfl) (by kernel_rfl) (by kernel_rfl) (fun _ _ _ h => h) (Or.inl ⟨by rfl, ?_⟩) (by assumption) ?_
          rotate_left
          · (intro w hSw; go_simp; first | done | (with_reducible rfl))
          simp only [Act.put, List.getElem_toArray, List.getElem_cons_zero, List.setIfInBounds_toArray, List.set_cons_zero, List.set_cons_succ]
          refine wpAnyH_take (i := 1) (oi := _) (v := ?_) rfl (by kernel_rfl) (by kernel_rfl) (by kernel_rfl) (fun _ _ _ h => h) (Or.inl ⟨by rfl, ?_⟩) (by assumption) ?_
          rotate_left
          · (intro w hSw; go_simp; first | done | (with_reducible rfl))
          simp only [Act.put, List.getElem_toArray, List.getElem_cons_succ, List.getElem_cons_zero, List.setIfInBounds_toArray, List.set_cons_zero, List.set_cons_succ]
          refine wpAnyH_take (i := 2) (oi := _) (v := ?_) rfl (by kernel_rfl) (by kernel_rfl) (by kernel_rfl) (fun _ _ _ h => h) (Or.inl ⟨by rfl, ?_⟩) (by assumption) ?_
          rotate_left
          · (intro w hSw; go_simp; first | done | (with_reducible rfl))
          simp only [Act.put, List.getElem_toArray, List.getElem_cons_succ, List.getElem_cons_zero, List.setIfInBounds_toArray, List.set_cons_zero, List.set_cons_succ]
          refine wpAnyH_take (i := 3) (oi := _) (v := ?_) rfl (by kernel_rfl) (by kernel_rfl) (by kernel_rfl) (fun _ _ _ h => h) (Or.inl ⟨by rfl, ?_⟩) (by assumption) ?_
          rotate_left
          · (intro w hSw; go_simp; first | done | (with_reducible rfl))
          simp only [Act.put, List.getElem_toArray, List.getElem_cons_succ, List.getElem_cons_zero, List.setIfInBounds_toArray, List.set_cons_zero, List.set_cons_succ]
          refine wpAnyH_take (i := 5) (oi := _) (v := ?_) rfl (by kernel_rfl) (by kernel_rfl) (by kernel_rfl) (fun _ _ _ h => h) (Or.inl ⟨by rfl, ?_⟩) (by assumption) ?_
          rotate_left
          · (intro w hSw; go_simp; first | done | (with_reducible rfl))
          simp only [Act.put, List.getElem_toArray, List.getElem_cons_succ, List.getElem_cons_zero, List.setIfInBounds_toArray, List.set_cons_zero, List.set_cons_succ]
          refine wpAnyH_take (i := 6) (oi := _) (v := ?_) rfl (by kernel_rfl) (by kernel_rfl) (by kernel_rfl) (fun _ _ _ h => h) (Or.inl ⟨by rfl, ?_⟩) (by assumption) ?_
          rotate_left
          · (intro w hSw; go_simp; first | done | (with_reducible rfl))
          simp only [Act.put, List.getElem_toArray, List.getElem_cons_succ, List.getElem_cons_zero, List.setIfInBounds_toArray, List.set_cons_zero, List.set_cons_succ]
          refine wpAnyH_take (i := 7) (oi := _) (v := ?_) rfl (by kernel_rfl) (by kernel_rfl) (by kernel_rfl) (fun _ _ _ h => h) (Or.inl ⟨by rfl, ?_⟩) (by assumption) ?_
          rotate_left
          · (intro w hSw; go_simp; first | done | (with_reducible rfl))
          simp only [Act.put, List.getElem_toArray, List.getElem_cons_succ, List.getElem_cons_zero, List.setIfInBounds_toArray, List.set_cons_zero, List.set_cons_succ]
          refine wpAnyH_take (i := 8) (oi := _) (v := ?_) rfl (by kernel_rfl) (by kernel_rfl) (by kernel_rfl) (fun _ _ _ h => h) (Or.inl ⟨by rfl, ?_⟩) (by assumption) ?_
          rotate_left
          · (intro w hSw; go_simp; first | done | (with_reducible rfl))
          simp only [Act.put, List.getElem_toArray, List.getElem_cons_succ, List.getElem_cons_zero, List.setIfInBounds_toArray, List.set_cons_zero, List.set_cons_succ]
          refine wpAnyH_take (i := 9) (oi := _) (v := ?_) rfl (by kernel_rfl) (by kernel_rfl) (by kernel_rfl) (fun _ _ _ h => h) (Or.inl ⟨by rfl, ?_⟩) (by assumption) ?_
          rotate_left
          · (intro w hSw; go_simp; first | done | (with_reducible rfl))
          simp only [Act.put, List.getElem_toArray, List.getElem_cons_succ, List.getElem_cons_zero, List.setIfInBounds_toArray, List.set_cons_zero, List.set_cons_succ]
          refine wpAnyH_ready (rs := [4, 10]) (by kernel_rfl) (by simp) ?_
          refine AllReadyH.cons rfl (fun K hK => ?_) (AllReadyH.cons rfl (fun K hK => ?_) AllReadyH.nil)
          · go_simp
            refine hK.out _ _ trivial (fun hHeld => ?_)
            clear hK K
            refine wpAnyH_ready (rs := [10]) (by kernel_rfl) (by simp) ?_
            refine AllReadyH.cons rfl (fun K hK => ?_) AllReadyH.nil
            go_simp
            refine hK.out _ _ trivial (fun hHeld => ?_)
            clear hK K
            refine wpAnyH_ready (rs := [11]) (by kernel_rfl) (by simp) ?_
            refine AllReadyH.cons rfl (fun K hK => ?_) AllReadyH.nil
            refine wanted_append rfl (.tmp 31) (.tmp 37) 36 36 rfl v' (.slice (some ⟨wr.heap.size, 0, none⟩) 1 1) rfl rfl (v' := .slice a2 n2 c2) (w' := w3) r1' ?_
            refine hK.out _ _ trivial (fun hHeld => ?_)
            clear hK K
            refine wpAnyH_take (i := 12) (oi := _) (v := ?_) rfl (by kernel_rfl) (by kernel_rfl) (by kernel_rfl) (fun _ _ _ h => h) (Or.inl ⟨by rfl, ?_⟩) (by assumption) ?_
            rotate_left
            · (intro w hSw; go_simp; first | done | (with_reducible rfl))
            simp only [Act.put, List.getElem_toArray, List.getElem_cons_succ, List.getElem_cons_zero, List.setIfInBounds_toArray, List.set_cons_zero, List.set_cons_succ]
            refine wpAnyH_take (i := 13) (oi := _) (v := ?_) rfl (by kernel_rfl) (by kernel_rfl) (by kernel_rfl) (fun _ _ _ h => h) (Or.inl ⟨by rfl, ?_⟩) (by assumption) ?_
            rotate_left
            · (intro w hSw; go_simp; first | done | (with_reducible rfl))
            simp only [Act.put, List.getElem_toArray, List.getElem_cons_succ, List.getElem_cons_zero, List.setIfInBounds_toArray, List.set_cons_zero, List.set_cons_succ]
            refine wpAnyH_ready (rs := [14]) (by kernel_rfl) (by simp) ?_
            refine AllReadyH.cons rfl (fun K hK => ?_) AllReadyH.nil
            go_simp
            refine hK.out _ _ trivial (fun hHeld => ?_)
            clear hK K
            refine wpAnyH_done (by kernel_rfl) ?_ _
            clear hHeld
            go_wp2_with fail
            exact ⟨⟨j, .slice a2 n2 c2, by omega, rfl, HDD⟩, by simp only [intOf]; omega⟩
          · go_simp
            refine hK.out _ _ trivial (fun hHeld => ?_)
            clear hK K
            refine wpAnyH_ready (rs := [4]) (by kernel_rfl) (by simp) ?_
            refine AllReadyH.cons rfl (fun K hK => ?_) AllReadyH.nil
            go_simp
            refine hK.out _ _ trivial (fun hHeld => ?_)
            clear hK K
            refine wpAnyH_ready (rs := [11]) (by kernel_rfl) (by simp) ?_
            refine AllReadyH.cons rfl (fun K hK => ?_) AllReadyH.nil
            refine wanted_append rfl (.tmp 31) (.tmp 37) 36 36 rfl v' (.slice (some ⟨wr.heap.size, 0, none⟩) 1 1) rfl rfl (v' := .slice a2 n2 c2) (w' := w3) r1' ?_
            refine hK.out _ _ trivial (fun hHeld => ?_)
            clear hK K
            refine wpAnyH_take (i := 12) (oi := _) (v := ?_) rfl (by kernel_rfl) (by kernel_rfl) (by kernel_rfl) (fun _ _ _ h => h) (Or.inl ⟨by rfl, ?_⟩) (by assumption) ?_
            rotate_left
            · (intro w hSw; go_simp; first | done | (with_reducible rfl))
            simp only [Act.put, List.getElem_toArray, List.getElem_cons_succ, List.getElem_cons_zero, List.setIfInBounds_toArray, List.set_cons_zero, List.set_cons_succ]
            refine wpAnyH_take (i := 13) (oi := _) (v := ?_) rfl (by kernel_rfl) (by kernel_rfl) (by kernel_rfl) (fun _ _ _ h => h) (Or.inl ⟨by rfl, ?_⟩) (by assumption) ?_
            rotate_left
            · (intro w hSw; go_simp; first | done | (with_reducible rfl))
            simp only [Act.put, List.getElem_toArray, List.getElem_cons_succ, List.getElem_cons_zero, List.setIfInBounds_toArray, List.set_cons_zero, List.set_cons_succ]
            refine wpAnyH_ready (rs := [14]) (by kernel_rfl) (by simp) ?_
            refine AllReadyH.cons rfl (fun K hK => ?_) AllReadyH.nil
            go_simp
            refine hK.out _ _ trivial (fun hHeld => ?_)
            clear hK K
            refine wpAnyH_done (by kernel_rfl) ?_ _
            clear hHeld
            go_wp2_with fail
            exact ⟨⟨j, .slice a2 n2 c2, by omega, rfl, HDD⟩, by simp only [intOf]; omega⟩

set_option maxRecDepth 100000 in
theorem fitsS_iff (i size : Int) (hi : -9223372036854775808 ≤ i ∧ i < 9223372036854775808) : (sized size ∧ sx (u64 i) size.toNat = u64 i) ↔ fitsS i size := by
  constructor
  · rintro ⟨h1, h2⟩; exact (sx_fits i size h1 hi).1 h2
  · intro h; exact ⟨h.1, (sx_fits i size h.1 hi).2 h⟩

set_option maxRecDepth 100000 in
set_option maxHeartbeats 4000000 in
theorem wnumber_signed (wb : Nat) (v : Value) (st : WS) (i : Int) (size : Int) (w : World) (h : WAt w wb v st) (hi : -9223372036854775808 ≤ i ∧ i < 9223372036854775808) (hl : (st.getD []).length ≤ 179999999999992) :
    Calls Tryz.prog 58 #[.pointer (some ⟨wb, 0, none⟩), .agg #[fv 268], .int .u64 ((u64 i) : Nat), .int .i64 size] w fun e w' => e = .returned (.tuple #[]) ∧ ∃ v', WDid w w' wb v (wSig st i size) v' := by
  have HH : Keep (WAt w wb v st) := ⟨h⟩
  have HL : Keep ((st.getD []).length ≤ 179999999999992) := ⟨hl⟩
  have HB : Keep (∀ W : World, Calls Tryz.prog 96 #[.agg #[fv 268], .int .u64 ((u64 i) : Nat), .int .i64 size] W fun e w' => e = .returned (.bool (decide (fitsS i size))) ∧ W.grownBy w' none) := ⟨fun W => by
    have := holds_signed (u64 i) size W (u64_lt i)
    rwa [show decide (sized size ∧ sx (u64 i) size.toNat = (u64 i)) = decide (fitsS i size) from decide_eq_decide.2 (fitsS_iff i size hi)] at this⟩
  have HX : Keep ((u64 i) < 18446744073709551616) := ⟨u64_lt i⟩
  have HF : Keep (¬ fitsS i size → wSig st i size = none) := ⟨fun q => by unfold wSig; rw [if_neg q]⟩
  have HT : Keep (fitsS i size → wSig st i size = st.map (· ++ be size.toNat (u64 i))) := ⟨fun q => by unfold wSig; rw [if_pos q]⟩
  have HZ : Keep (fitsS i size → 1 ≤ size ∧ size ≤ 8) := ⟨fun q => q.1⟩
  obtain ⟨st2, hst2⟩ : ∃ q, wSig st i size = q := ⟨_, rfl⟩
  obtain ⟨fit, hfit⟩ : ∃ q, (fitsS i size) = q := ⟨_, rfl⟩
  obtain ⟨bo, hbo⟩ : ∃ q, decide (fitsS i size) = q := ⟨_, rfl⟩
  have HBO : Keep (bo = true ↔ fit) := ⟨by rw [← hbo, ← hfit]; exact decide_eq_true_iff⟩
  rw [hst2] at HF HT ⊢
  rw [hbo] at HB
  rw [hfit] at HF HT HZ
  obtain ⟨x, hxx⟩ : ∃ x, u64 i = x := ⟨_, rfl⟩
  rw [hxx] at HX HT HB ⊢
  clear h hi hxx hl hst2 hfit hbo
  go_enter Tryz.func58, Tryz.ntmps58
  go_wp2_with fail
  obtain ⟨w1, hw1⟩ : ∃ w1, w.alloc (.cells #[fv 268] 140) = w1 := ⟨_, rfl⟩
  rw [hw1]
  have HG : Keep (w.grownBy w1 none) := ⟨by rw [← hw1]; exact World.grownBy_alloc _ _ _⟩
  clear hw1
  refine (HB.out w1).mono ?_
  rintro e w2 ⟨rfl, g2⟩
  have HG2 : Keep (w.grownBy w2 none) := ⟨HG.out.trans g2⟩
  have HA2 : Keep (WAt w2 wb v st) := ⟨HH.out.kept HG2.out⟩
  clear g2 HG HB HH
  cases bo with
  | false =>
    have HN : Keep (st2 = none) := ⟨HF.out (fun q => by have := HBO.out.2 q; cases this)⟩
    go_wp2_with fail
    refine (wfail_c wb v st w2 HA2.out).mono ?_
    rintro e w3 ⟨rfl, v3, d3⟩
    have HD : Keep (WDid w w3 wb v none v3) := ⟨d3.ahead HG2.out⟩
    have h1 : w3.cell? ⟨wb, 1, none⟩ = some (.int .i64 51) := d3.a.h.cellv 1 _ rfl
    clear d3
    go_wp2
    refine bodyPost_ret (results_none rfl _ _ _) rfl ?_
    exact ⟨rfl, v3, by rw [HN.out]; exact HD.out⟩
  | true =>
    have HFT : Keep fit := ⟨HBO.out.1 rfl⟩
    cases st with
    | none =>
      have HN : Keep (st2 = none) := ⟨HT.out HFT.out⟩
      have h1 : w2.cell? ⟨wb, 1, none⟩ = some (.int .i64 51) := HA2.out.h.cellv 1 _ rfl
      go_wp2
      refine bodyPost_ret (results_none rfl _ _ _) rfl ?_
      exact ⟨rfl, v, by rw [HN.out]; exact (WDid.refl HA2.out).ahead HG2.out⟩
    | some l =>
      obtain ⟨n, rfl, hn1, hn8⟩ : ∃ n : Nat, size = n ∧ 1 ≤ n ∧ n ≤ 8 := ⟨size.toNat, by have := HZ.out HFT.out; omega, by have := HZ.out HFT.out; omega, by have := HZ.out HFT.out; omega⟩
      have HN : Keep (st2 = some (l ++ be n x)) := ⟨by have := HT.out HFT.out; simpa using this⟩
      have HLL : Keep (l.length ≤ 179999999999992) := ⟨HL.out⟩
      have h1 : w2.cell? ⟨wb, 1, none⟩ = some (.int .i64 0) := HA2.out.h.cellv 1 _ rfl
      clear HT HF HBO HZ HL
      go_wp2
      clear h1
      go_loopw [8] (fun t w' => ∃ (k : Nat) (v' : Value), k ≤ n ∧ t = .int .i64 ((k : Int) - 1) ∧ Keep (WDid w w' wb v (some (l ++ (be n x).take (n - k))) v')) (fun t _ => (intOf t + 1).toNat)
      case atStart => exact ⟨n, v, Nat.le_refl _, by simp, ⟨by rw [Nat.sub_self, List.take_zero, List.append_nil]; exact (WDid.refl HA2.out).ahead HG2.out⟩⟩
      case round =>
        obtain ⟨k, v', hk, rfl, HI⟩ := hrel
        by_cases hk0 : k = 0
        · subst hk0
          have HE : Keep (WDid w wr wb v st2 v') := ⟨by
            have := HI.out
            rw [Nat.sub_zero, List.take_of_length_le (by rw [be_len]; exact Nat.le_refl _), ← HN.out] at this
            exact this⟩
          clear HI
          go_wp2
          go_end0
          exact ⟨rfl, v', HE.out⟩
        · obtain ⟨j, rfl⟩ : ∃ j, k = j + 1 := ⟨k - 1, by omega⟩
          have hj : ((j + 1 : Nat) : Int) - 1 = (j : Int) := by omega
          rw [hj]
          have hj8 : j < 8 := by omega
          have hge : ((j : Int) ≥ 0) := by omega
          have hb : l.length + ((be n x).take (n - (j + 1))).length + 1 ≤ 180000000000000 := by
            have := HLL.out
            rw [List.length_take, be_len]; omega
          obtain ⟨b, hbb⟩ : ∃ b, UInt8.ofNat (x / 256 ^ j) = b := ⟨_, rfl⟩
          have hsh : (b.toNat : Int) = (x / 256 ^ j % 256 : Nat) := by rw [← hbb, UInt8.toNat_ofNat']
          have h0 : wr.cell? ⟨wb, 0, none⟩ = some v' := HI.out.a.h.cellv 0 _ rfl
          obtain ⟨v2, w3, r1, r2, r3, r4⟩ := app_byte_w (HI.out.a.r.fr (S := fun _ => False) (Fr.ofNone (gr_drew wr none)) (fun _ _ e => e)) b (by simpa [Nat.add_assoc] using hb)
          have HD := (HI.out.a.kept (gr_drew wr none)).set r2 r3 r4
          obtain ⟨a2, c2, hv2, _⟩ := Row.shape r2
          obtain ⟨n2, hn2⟩ : ∃ q, ((some (l ++ List.take (n - (j + 1)) (be n x))).getD [] ++ [b]).length = q := ⟨_, rfl⟩
          rw [hn2] at hv2
          subst hv2
          clear hn2
          have hw8 : IntKind.i64.wrap (8 * (j : Int)) = 8 * j := by rw [wi _ (by omega) (by omega)]
          have hdg : decide ((j : Int) ≥ 0) = true := decide_eq_true hge
          have hnn : ¬ (8 * (j : Int) < 0) := by omega
          have hs0 : IntKind.u8.wrap ((x : Int) / 2 ^ (8 * (j : Int)).toNat) = b.toNat := by
            rw [hsh, show (8 * (j : Int)).toNat = 8 * j by omega]
            have e3 : ∀ q : Int, IntKind.u8.wrap q = q % 256 := fun q => rfl
            have e2 : (2 : Int) ^ (8 * j) = ((256 ^ j : Nat) : Int) := by
              rw [Int.pow_mul]; simp
            rw [e2, e3]
            simp
          have r1' : (Builtin.append_ #[36, 36] 36 #[v', .slice (some ⟨wr.heap.size, 0, none⟩) 1 1]).run Tryz.prog (wr.alloc (.cells #[.int .u8 b.toNat] 5)).drew = .ok (.slice a2 n2 c2) w3 := r1
          have h0a : (wr.alloc (.cells #[.int .u8 b.toNat] 5)).cell? ⟨wb, 0, none⟩ = some v' := (HI.out.a.h.alloc _).cellv 0 _ rfl
          clear r1
          have f0 : w3.frozen? ⟨wb, 0, none⟩ = false := (show Has w3 wb [v', .int .i64 0] 136 from ((HI.out.a.kept (gr_drew wr none)).h.kept r3 (fun e => HI.out.a.ne e.symm))).frozen 0
          have c0 : w3.cell? ⟨wb, 0, none⟩ = some v' := (show Has w3 wb [v', .int .i64 0] 136 from ((HI.out.a.kept (gr_drew wr none)).h.kept r3 (fun e => HI.out.a.ne e.symm))).cellv 0 _ rfl
          have HDD : Keep (WDid w (w3.setCell ⟨wb, 0, none⟩ (.slice a2 n2 c2)) wb v (some (l ++ (be n x).take (n - j))) (.slice a2 n2 c2)) := ⟨by
            rw [be_take n x j (by omega), hbb, ← List.append_assoc]
            exact (HI.out.grown (gr_drew wr none)).trans HD⟩
          have hwj : IntKind.i64.wrap ((j : Int) - 1) = (j : Int) - 1 := by rw [wi _ (by omega) (by omega)]
          clear HD r2 r3 r4 hsh hbb HI hb HX HN HLL HFT HA2 HG2 hj
          go_wp2_with fail
          refine wp_region_held_drew (S := fun _ => True) (by kernel_rfl) trivial (fun hHeld => ?_)
          refine wpAnyH_take (i := 0) (oi := _) (v := ?_) rfl (by kernel_rfl) (by kernel_rfl) (by kernel_rfl) (fun _ _ _ h => h) (Or.inl ⟨by rfl, ?_⟩) (by assumption) ?_
          rotate_left
          · (intro w hSw; go_simp; first | done | (with_reducible rfl))
          simp only [Act.put, List.getElem_toArray, List.getElem_cons_zero, List.setIfInBounds_toArray, List.set_cons_zero, List.set_cons_succ]
          refine wpAnyH_take (i := 1) (oi := _) (v := ?_) rfl (by kernel_rfl) (by kernel_rfl) (by kernel_rfl) (fun _ _ _ h => h) (Or.inl ⟨by rfl, ?_⟩) (by assumption) ?_
          rotate_left
          · (intro w hSw; go_simp; first | done | (with_reducible rfl))
          simp only [Act.put, List.getElem_toArray, List.getElem_cons_succ, List.getElem_cons_zero, List.setIfInBounds_toArray, List.set_cons_zero, List.set_cons_succ]
          refine wpAnyH_take (i := 2) (oi := _) (v := ?_) rfl (by kernel_rfl) (by kernel_rfl) (by kernel_rfl) (fun _ _ _ h => h) (Or.inl ⟨by rfl, ?_⟩) (by assumption) ?_
          rotate_left
          · (intro w hSw; go_simp; first | done | (with_reducible rfl))
          simp only [Act.put, List.getElem_toArray, List.getElem_cons_succ, List.getElem_cons_zero, List.setIfInBounds_toArray, List.set_cons_zero, List.set_cons_succ]
          refine wpAnyH_take (i := 3) (oi := _) (v := ?_) rfl (by kernel_rfl) (by kernel_rfl) (by kernel_rfl) (fun _ _ _ h => h) (Or.inl ⟨by rfl, ?_⟩) (by assumption) ?_
          rotate_left
          · (intro w hSw; go_simp; first | done | (with_reducible rfl))
          simp only [Act.put, List.getElem_toArray, List.getElem_cons_succ, List.getElem_cons_zero, List.setIfInBounds_toArray, List.set_cons_zero, List.set_cons_succ]
          refine wpAnyH_take (i := 5) (oi := _) (v := ?_) rfl (by kernel_rfl) (by kernel_rfl) (by kernel_rfl) (fun _ _ _ h => h) (Or.inl ⟨by rfl, ?_⟩) (by assumption) ?_
          rotate_left
          · (intro w hSw; go_simp; first | done | (with_reducible rfl))
          simp only [Act.put, List.getElem_toArray, List.getElem_cons_succ, List.getElem_cons_zero, List.setIfInBounds_toArray, List.set_cons_zero, List.set_cons_succ]
          refine wpAnyH_take (i := 6) (oi := _) (v := ?_) rfl (by kernel_rfl) (by kernel_rfl) (by kernel_rfl) (fun _ _ _ h => h) (Or.inl ⟨by rfl, ?_⟩) (by assumption) ?_
          rotate_left
          · (intro w hSw; go_simp; first | done | (with_reducible rfl))
          simp only [Act.put, List.getElem_toArray, List.getElem_cons_succ, List.getElem_cons_zero, List.setIfInBounds_toArray, List.set_cons_zero, List.set_cons_succ]
          refine wpAnyH_take (i := 7) (oi := _) (v := ?_) rfl (by kernel_rfl) (by kernel_rfl) (by kernel_rfl) (fun _ _ _ h => h) (Or.inl ⟨by rfl, ?_⟩) (by assumption) ?_
          rotate_left
          · (intro w hSw; go_simp; first | done | (with_reducible rfl))
          simp only [Act.put, List.getElem_toArray, List.getElem_cons_succ, List.getElem_cons_zero, List.setIfInBounds_toArray, List.set_cons_zero, List.set_cons_succ]
          refine wpAnyH_take (i := 8) (oi := _) (v := ?_) rfl (by kernel_rfl) (by kernel_rfl) (by kernel_rfl) (fun _ _ _ h => h) (Or.inl ⟨by rfl, ?_⟩) (by assumption) ?_
          rotate_left
          · (intro w hSw; go_simp; first | done | (with_reducible rfl))
          simp only [Act.put, List.getElem_toArray, List.getElem_cons_succ, List.getElem_cons_zero, List.setIfInBounds_toArray, List.set_cons_zero, List.set_cons_succ]
          refine wpAnyH_take (i := 9) (oi := _) (v := ?_) rfl (by kernel_rfl) (by kernel_rfl) (by kernel_rfl) (fun _ _ _ h => h) (Or.inl ⟨by rfl, ?_⟩) (by assumption) ?_
          rotate_left
          · (intro w hSw; go_simp; first | done | (with_reducible rfl))
          simp only [Act.put, List.getElem_toArray, List.getElem_cons_succ, List.getElem_cons_zero, List.setIfInBounds_toArray, List.set_cons_zero, List.set_cons_succ]
          refine wpAnyH_ready (rs := [4, 10]) (by kernel_rfl) (by simp) ?_
          refine AllReadyH.cons rfl (fun K hK => ?_) (AllReadyH.cons rfl (fun K hK => ?_) AllReadyH.nil)
          · go_simp
            refine hK.out _ _ trivial (fun hHeld => ?_)
            clear hK K
            refine wpAnyH_ready (rs := [10]) (by kernel_rfl) (by simp) ?_
            refine AllReadyH.cons rfl (fun K hK => ?_) AllReadyH.nil
            go_simp
            refine hK.out _ _ trivial (fun hHeld => ?_)
            clear hK K
            refine wpAnyH_ready (rs := [11]) (by kernel_rfl) (by simp) ?_
            refine AllReadyH.cons rfl (fun K hK => ?_) AllReadyH.nil
            refine wanted_append rfl (.tmp 31) (.tmp 37) 36 36 rfl v' (.slice (some ⟨wr.heap.size, 0, none⟩) 1 1) rfl rfl (v' := .slice a2 n2 c2) (w' := w3) r1' ?_
            refine hK.out _ _ trivial (fun hHeld => ?_)
            clear hK K
            refine wpAnyH_take (i := 12) (oi := _) (v := ?_) rfl (by kernel_rfl) (by kernel_rfl) (by kernel_rfl) (fun _ _ _ h => h) (Or.inl ⟨by rfl, ?_⟩) (by assumption) ?_
            rotate_left
            · (intro w hSw; go_simp; first | done | (with_reducible rfl))
            simp only [Act.put, List.getElem_toArray, List.getElem_cons_succ, List.getElem_cons_zero, List.setIfInBounds_toArray, List.set_cons_zero, List.set_cons_succ]
            refine wpAnyH_take (i := 13) (oi := _) (v := ?_) rfl (by kernel_rfl) (by kernel_rfl) (by kernel_rfl) (fun _ _ _ h => h) (Or.inl ⟨by rfl, ?_⟩) (by assumption) ?_
            rotate_left
            · (intro w hSw; go_simp; first | done | (with_reducible rfl))
            simp only [Act.put, List.getElem_toArray, List.getElem_cons_succ, List.getElem_cons_zero, List.setIfInBounds_toArray, List.set_cons_zero, List.set_cons_succ]
            refine wpAnyH_ready (rs := [14]) (by kernel_rfl) (by simp) ?_
            refine AllReadyH.cons rfl (fun K hK => ?_) AllReadyH.nil
            go_simp
            refine hK.out _ _ trivial (fun hHeld => ?_)
            clear hK K
            refine wpAnyH_done (by kernel_rfl) ?_ _
            clear hHeld
            go_wp2_with fail
            exact ⟨⟨j, .slice a2 n2 c2, by omega, rfl, HDD⟩, by simp only [intOf]; omega⟩
          · go_simp
            refine hK.out _ _ trivial (fun hHeld => ?_)
            clear hK K
            refine wpAnyH_ready (rs := [4]) (by kernel_rfl) (by simp) ?_
            refine AllReadyH.cons rfl (fun K hK => ?_) AllReadyH.nil
            go_simp
            refine hK.out _ _ trivial (fun hHeld => ?_)
            clear hK K
            refine wpAnyH_ready (rs := [11]) (by kernel_rfl) (by simp) ?_
            refine AllReadyH.cons rfl (fun K hK => ?_) AllReadyH.nil
            refine wanted_append rfl (.tmp 31) (.tmp 37) 36 36 rfl v' (.slice (some ⟨wr.heap.size, 0, none⟩) 1 1) rfl rfl (v' := .slice a2 n2 c2) (w' := w3) r1' ?_
            refine hK.out _ _ trivial (fun hHeld => ?_)
            clear hK K
            refine wpAnyH_take (i := 12) (oi := _) (v := ?_) rfl (by kernel_rfl) (by kernel_rfl) (by kernel_rfl) (fun _ _ _ h => h) (Or.inl ⟨by rfl, ?_⟩) (by assumption) ?_
            rotate_left
            · (intro w hSw; go_simp; first | done | (with_reducible rfl))
            simp only [Act.put, List.getElem_toArray, List.getElem_cons_succ, List.getElem_cons_zero, List.setIfInBounds_toArray, List.set_cons_zero, List.set_cons_succ]
            refine wpAnyH_take (i := 13) (oi := _) (v := ?_) rfl (by kernel_rfl) (by kernel_rfl) (by kernel_rfl) (fun _ _ _ h => h) (Or.inl ⟨by rfl, ?_⟩) (by assumption) ?_
            rotate_left
            · (intro w hSw; go_simp; first | done | (with_reducible rfl))
            simp only [Act.put, List.getElem_toArray, List.getElem_cons_succ, List.getElem_cons_zero, List.setIfInBounds_toArray, List.set_cons_zero, List.set_cons_succ]
            refine wpAnyH_ready (rs := [14]) (by kernel_rfl) (by simp) ?_
            refine AllReadyH.cons rfl (fun K hK => ?_) AllReadyH.nil
            go_simp
            refine hK.out _ _ trivial (fun hHeld => ?_)
            clear hK K
            refine wpAnyH_done (by kernel_rfl) ?_ _
            clear hHeld
            go_wp2_with fail
            exact ⟨⟨j, .slice a2 n2 c2, by omega, rfl, HDD⟩, by simp only [intOf]; omega⟩
end Go.Proofs.YtjbkoablleneeaaGreatDoor.Pk

