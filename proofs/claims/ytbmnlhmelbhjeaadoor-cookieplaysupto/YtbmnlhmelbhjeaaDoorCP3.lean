/- the laws' asked -/
import Derived.Test.YtbmnlhmelbhjeaaDoorCP1
import Derived.Test.YtbmnlhmelbhjeaaDoorCL2
namespace Go.Proofs.YtbmnlhmelbhjeaaDoor
open Go Go.RowKit

theorem row_set (W : World) (a : ByteArray) (i : Nat) (v : UInt8) (c : Nat) (hc : a.size ≤ c) (hi : i < a.size) : BytesOf ((Lib.bytesWorld W 5 a).setCell ⟨W.heap.size, i, none⟩ (bv v)) (some ⟨W.heap.size, 0, none⟩) a.size c ((sl a).set i v) ∧ W.grownBy ((Lib.bytesWorld W 5 a).setCell ⟨W.heap.size, i, none⟩ (bv v)) none := by
  refine ⟨⟨by rw [List.length_set, sl_len], hc, fun _ => ⟨_, 0, rfl, fun j x hx => ?_⟩⟩, gr_new (gr_bytes W a) (gr_set _ _ _ _) (Nat.le_refl _)⟩
  rw [Nat.zero_add]
  have h := Lib.bytesWorld_at_new W 5 a
  by_cases hj : i = j
  · subst hj
    rw [List.getElem?_set_self (by rw [sl_len]; exact hi)] at hx
    obtain rfl := Option.some.inj hx
    have hs : i < (Lib.bytesCells W 5 a).size := by
      have e : a.data.size = a.size := rfl
      simp only [Lib.bytesCells, Array.size_append, Array.size_map, e]; omega
    simp [World.cell?, World.setCell, Array.getElem?_modify, h, hs]
  · rw [List.getElem?_set_ne hj] at hx
    have := bytes_cells W a j x hx
    rw [← this]
    have hb : ∀ (W' : World) (b : Nat), i ≠ j → (W'.setCell ⟨b, i, none⟩ (bv v)).cell? ⟨b, j, none⟩ = W'.cell? ⟨b, j, none⟩ := fun W' b hij => by
      simp only [World.cell?, World.setCell, Array.getElem?_modify, if_true]
      cases hq : W'.heap[b]? with
      | none => rfl
      | some o => cases o <;> simp [hij]
    exact hb _ _ hj
theorem strs_take {w : World} {a : Option Addr} {n : Nat} {ps : List ByteArray} (h : Strs w a n ps) (m : Nat) (hm : m ≤ n) : Strs w a m (ps.take m) := by
  have hl := h.len
  refine ⟨by rw [List.length_take]; omega, fun hp => ?_⟩
  obtain ⟨B, o, e, hc⟩ := h.at_ (by omega)
  refine ⟨B, o, e, fun j p hj => hc j p ?_⟩
  rw [List.getElem?_take] at hj
  split at hj
  · exact hj
  · cases hj
theorem bytes_frozen (W : World) (a : ByteArray) (k : Nat) (hk : k < a.size) : (Lib.bytesWorld W 5 a).frozen? ⟨W.heap.size, k, none⟩ = false := by
  have h := Lib.bytesWorld_at_new W 5 a
  have hs : k < (Lib.bytesCells W 5 a).size := by
    have e : a.data.size = a.size := rfl
    simp only [Lib.bytesCells, Array.size_append, Array.size_map, e]; omega
  simp [World.frozen?, h]
  omega
set_option maxRecDepth 100000 in
set_option maxHeartbeats 8000000 in
theorem asked_c (kb : Nat) (g cap : Nat) (ks : List ByteArray) (o : OpR) (x : Nat) (w : World) (h : RV w kb (some ⟨g, 0, none⟩) cap ks) (hk : RK w) (h3 : 3 ≤ w.heap.size) (hl : ks.length = x + 1) (hx2 : x < 990) (hcap : x + 1 ≤ cap) (hks : ∀ k ∈ ks, k.size = 32) (hA : o.A.size ≤ 1073741000) (hB : o.B.size ≤ 1073741000) (hT : o.turned < 9223372036854775808) :
    Calls Tryd.prog 36 #[.pointer (some ⟨kb, 0, none⟩), .agg o.vals.toArray] w fun e w' => ∃ s, e = .returned (.string s) ∧ w.grownBy w' none := by
  have HH := Keep.mk (And.intro h (And.intro hk hks))
  have HOB : Keep (Has (w.alloc (.cells o.vals.toArray 40)) w.heap.size o.vals 40 ∧ w.grownBy (w.alloc (.cells o.vals.toArray 40)) none) := ⟨Has.new _ _ _, World.grownBy_alloc _ _ _⟩
  have c4 : (w.alloc (.cells o.vals.toArray 40)).cell? ⟨w.heap.size, 4, none⟩ = some (.string o.C) := HOB.out.1.cellv 4 _ rfl
  have c6 : (w.alloc (.cells o.vals.toArray 40)).cell? ⟨w.heap.size, 6, none⟩ = some (.bool o.own) := HOB.out.1.cellv 6 _ rfl
  have hkb := h.h.lt
  clear h hk hks
  go_enter Tryd.func36, Tryd.ntmps36
  cases hown : o.own with
  | false =>
    rw [hown] at c6
    go_wp2_with fail
    go_ret
    exact ⟨_, rfl, HOB.out.2⟩
  | true =>
    rw [hown] at c6
    have ck : (w.alloc (.cells o.vals.toArray 40)).cell? ⟨kb, 0, none⟩ = some (.slice (some ⟨g, 0, none⟩) (x + 1) cap) := by rw [← hl]; exact (HH.out.1.kept HOB.out.2).h.cellv 0 _ rfl
    have hn2 := Has.newA (w.alloc (.cells o.vals.toArray 40)) #[.slice (some ⟨g, 0, none⟩) (x + 1) cap] 71
    rw [heap1] at hn2
    have H2 : Keep (Has ((w.alloc (.cells o.vals.toArray 40)).alloc (.cells #[.slice (some ⟨g, 0, none⟩) (x + 1) cap] 71)) w.heap.size o.vals 40 ∧ Has ((w.alloc (.cells o.vals.toArray 40)).alloc (.cells #[.slice (some ⟨g, 0, none⟩) (x + 1) cap] 71)) (w.heap.size + 1) [.slice (some ⟨g, 0, none⟩) (x + 1) cap] 71 ∧ w.grownBy ((w.alloc (.cells o.vals.toArray 40)).alloc (.cells #[.slice (some ⟨g, 0, none⟩) (x + 1) cap] 71)) none) := ⟨HOB.out.1.alloc _, hn2, HOB.out.2.trans (World.grownBy_alloc _ _ _)⟩
    clear hn2
    go_wp2_with fail
    generalize (w.alloc (.cells o.vals.toArray 40)).alloc (.cells #[.slice (some ⟨g, 0, none⟩) (x + 1) cap] 71) = w2 at H2 ⊢
    clear c4 c6 ck HOB hown
    have hw1 : IntKind.u64.wrap ((x : Int) + 1) = (x : Int) + 1 := by show ((x : Int) + 1) % 18446744073709551616 = _; omega
    obtain ⟨ep, hep⟩ : ∃ ep, o.ep = ep := ⟨_, rfl⟩
    have HC : Keep (w2.cell? ⟨w.heap.size, 5, none⟩ = some (.int .u64 ep) ∧ w2.cell? ⟨kb, 0, none⟩ = some (.slice (some ⟨g, 0, none⟩) (x + 1) cap)) := ⟨by rw [← hep]; exact H2.out.1.cellv 5 _ rfl, by rw [← hl]; exact (HH.out.1.kept H2.out.2.2).h.cellv 0 _ rfl⟩
    clear hep
    have gd := gr_drewN w2 1 none
    have hcase : ep = 0 ∨ 1 ≤ ep := by omega
    rcases hcase with he0 | he1
    · subst he0
      refine wp_region_held_drew (S := fun w' => w'.cell? ⟨w.heap.size, 5, none⟩ = some (.int .u64 (0 : Nat)) ∧ w'.cell? ⟨kb, 0, none⟩ = some (.slice (some ⟨g, 0, none⟩) (x + 1) cap)) (by kernel_rfl) ⟨gd.cell HC.out.1 (by simp), gd.cell HC.out.2 (by simp)⟩ (fun hHeld => ?_)
      change w2.grownBy w2.drew none at gd
      generalize w2.drew = w3 at gd hHeld ⊢
      have H3 := Keep.mk (And.intro (H2.out.1.kept gd (by simp)) (And.intro (H2.out.2.1.kept gd (by simp)) (H2.out.2.2.trans gd)))
      clear gd H2 HC
      refine wpAnyH_take (i := 0) (oi := _) (v := ?_) rfl (by kernel_rfl) (by kernel_rfl) (by kernel_rfl) (fun _ _ _ h => h) (Or.inl ⟨by rfl, ?_⟩) (by assumption) ?_
      rotate_left
      · (intro w hSw; go_simp; first | done | (with_reducible rfl))
      simp only [Act.put, List.getElem_toArray, List.getElem_cons_zero, List.setIfInBounds_toArray, List.set_cons_zero, List.set_cons_succ]
      refine wpAnyH_take (i := 1) (oi := _) (v := ?_) rfl (by kernel_rfl) (by kernel_rfl) (by kernel_rfl) (fun _ _ _ h => h) (Or.inl ⟨by rfl, ?_⟩) (by assumption) ?_
      rotate_left
      · (intro w hSw; obtain ⟨y1, y2⟩ := hSw; go_simp; first | done | (with_reducible rfl))
      simp only [Act.put, List.getElem_toArray, List.getElem_cons_succ, List.getElem_cons_zero, List.setIfInBounds_toArray, List.set_cons_zero, List.set_cons_succ]
      refine wpAnyH_take (i := 2) (oi := _) (v := ?_) rfl (by kernel_rfl) (by kernel_rfl) (by kernel_rfl) (fun _ _ _ h => h) (Or.inl ⟨by rfl, ?_⟩) (by assumption) ?_
      rotate_left
      · (intro w hSw; go_simp; first | done | (with_reducible rfl))
      simp only [Act.put, List.getElem_toArray, List.getElem_cons_succ, List.getElem_cons_zero, List.setIfInBounds_toArray, List.set_cons_zero, List.set_cons_succ]
      refine wpAnyH_take (i := 3) (oi := _) (v := ?_) rfl (by kernel_rfl) (by kernel_rfl) (by kernel_rfl) (fun _ _ _ h => h) (Or.inl ⟨by rfl, ?_⟩) (by assumption) ?_
      rotate_left
      · (intro w hSw; go_simp; first | done | (with_reducible rfl))
      simp only [Act.put, List.getElem_toArray, List.getElem_cons_succ, List.getElem_cons_zero, List.setIfInBounds_toArray, List.set_cons_zero, List.set_cons_succ]
      refine wpAnyH_take (i := 4) (oi := _) (v := undef) rfl (by kernel_rfl) (by kernel_rfl) (by kernel_rfl) (fun _ _ _ h => h) (Or.inr ⟨by rfl, rfl⟩) (by assumption) ?_
      simp only [Act.put, List.getElem_toArray, List.getElem_cons_succ, List.getElem_cons_zero, List.setIfInBounds_toArray, List.set_cons_zero, List.set_cons_succ]
      refine wpAnyH_take (i := 5) (oi := _) (v := undef) rfl (by kernel_rfl) (by kernel_rfl) (by kernel_rfl) (fun _ _ _ h => h) (Or.inr ⟨by rfl, rfl⟩) (by assumption) ?_
      simp only [Act.put, List.getElem_toArray, List.getElem_cons_succ, List.getElem_cons_zero, List.setIfInBounds_toArray, List.set_cons_zero, List.set_cons_succ]
      refine wpAnyH_take (i := 6) (oi := _) (v := undef) rfl (by kernel_rfl) (by kernel_rfl) (by kernel_rfl) (fun _ _ _ h => h) (Or.inr ⟨by rfl, rfl⟩) (by assumption) ?_
      simp only [Act.put, List.getElem_toArray, List.getElem_cons_succ, List.getElem_cons_zero, List.setIfInBounds_toArray, List.set_cons_zero, List.set_cons_succ]
      refine wpAnyH_take (i := 7) (oi := _) (v := undef) rfl (by kernel_rfl) (by kernel_rfl) (by kernel_rfl) (fun _ _ _ h => h) (Or.inr ⟨by rfl, rfl⟩) (by assumption) ?_
      simp only [Act.put, List.getElem_toArray, List.getElem_cons_succ, List.getElem_cons_zero, List.setIfInBounds_toArray, List.set_cons_zero, List.set_cons_succ]
      refine wpAnyH_take (i := 8) (oi := _) (v := undef) rfl (by kernel_rfl) (by kernel_rfl) (by kernel_rfl) (fun _ _ _ h => h) (Or.inr ⟨by rfl, rfl⟩) (by assumption) ?_
      simp only [Act.put, List.getElem_toArray, List.getElem_cons_succ, List.getElem_cons_zero, List.setIfInBounds_toArray, List.set_cons_zero, List.set_cons_succ]
      refine wpAnyH_take (i := 9) (oi := _) (v := undef) rfl (by kernel_rfl) (by kernel_rfl) (by kernel_rfl) (fun _ _ _ h => h) (Or.inr ⟨by rfl, rfl⟩) (by assumption) ?_
      simp only [Act.put, List.getElem_toArray, List.getElem_cons_succ, List.getElem_cons_zero, List.setIfInBounds_toArray, List.set_cons_zero, List.set_cons_succ]
      refine wpAnyH_take (i := 10) (oi := _) (v := undef) rfl (by kernel_rfl) (by kernel_rfl) (by kernel_rfl) (fun _ _ _ h => h) (Or.inr ⟨by rfl, rfl⟩) (by assumption) ?_
      simp only [Act.put, List.getElem_toArray, List.getElem_cons_succ, List.getElem_cons_zero, List.setIfInBounds_toArray, List.set_cons_zero, List.set_cons_succ]
      refine wpAnyH_take (i := 11) (oi := _) (v := undef) rfl (by kernel_rfl) (by kernel_rfl) (by kernel_rfl) (fun _ _ _ h => h) (Or.inr ⟨by rfl, rfl⟩) (by assumption) ?_
      simp only [Act.put, List.getElem_toArray, List.getElem_cons_succ, List.getElem_cons_zero, List.setIfInBounds_toArray, List.set_cons_zero, List.set_cons_succ]
      refine wpAnyH_take (i := 12) (oi := _) (v := undef) rfl (by kernel_rfl) (by kernel_rfl) (by kernel_rfl) (fun _ _ _ h => h) (Or.inr ⟨by rfl, rfl⟩) (by assumption) ?_
      simp only [Act.put, List.getElem_toArray, List.getElem_cons_succ, List.getElem_cons_zero, List.setIfInBounds_toArray, List.set_cons_zero, List.set_cons_succ]
      refine wpAnyH_take (i := 13) (oi := _) (v := ?_) rfl (by kernel_rfl) (by kernel_rfl) (by kernel_rfl) (fun _ _ _ h => h) (Or.inl ⟨by rfl, ?_⟩) (by assumption) ?_
      rotate_left
      · (intro w hSw; go_simp; first | done | (with_reducible rfl))
      simp only [Act.put, List.getElem_toArray, List.getElem_cons_succ, List.getElem_cons_zero, List.setIfInBounds_toArray, List.set_cons_zero, List.set_cons_succ]
      refine wpAnyH_done (by kernel_rfl) ?_ _
      have HRV : Keep (RV w3 (w.heap.size + 1) (some ⟨g, 0, none⟩) cap ks) := ⟨by rw [hl]; exact H3.out.2.1, (HH.out.1.kept H3.out.2.2).s⟩
      have H3b := Keep.mk (And.intro H3.out.1 H3.out.2.2)
      clear H3 hHeld
      have H3 := H3b
      clear H3b
      obtain ⟨key, hkey⟩ : ∃ key, ks[x]? = some key := ⟨_, List.getElem?_eq_getElem (by omega)⟩
      have HKY := Keep.mk (And.intro hkey (HH.out.2.2 key (List.mem_of_getElem? hkey)))
      have hl2 := hl
      clear hkey
      have c2 : w3.cell? ⟨w.heap.size, 2, none⟩ = some (.string o.A) := H3.out.1.cellv 2 _ rfl
      have c3 : w3.cell? ⟨w.heap.size, 3, none⟩ = some (.string o.B) := H3.out.1.cellv 3 _ rfl
      go_wp2_with fail
      refine (rbake_c (w.heap.size + 1) _ _ ks o.A o.B key x _ HRV.out (HH.out.2.1.kept H3.out.2) (Nat.le_trans h3 H3.out.2.size) hl2 HKY.out.1 (by omega) HKY.out.2 hA hB).mono ?_
      rintro e wb ⟨rfl, gb⟩
      have hbs := deriveB_size key cookieB [o.A, o.B, ba (Mac.len8 (x + 1))]
      generalize deriveB key cookieB _ = bs at hbs ⊢
      have H4 := Keep.mk (And.intro (H3.out.1.kept gb (by simp)) (H3.out.2.trans gb))
      clear gb H3 HRV c2 c3
      have hcv := cvt bs wb
      have hge := grownCap_ge wb bs.size 0 5
      generalize grownCap wb bs.size 0 5 = cc at hcv hge
      rw [hbs] at hcv hge
      have c7 : (Lib.bytesWorld wb 5 bs).cell? ⟨w.heap.size, 7, none⟩ = some (.int .i64 o.turned) := (H4.out.1.kept (gr_bytes wb bs) (by simp)).cellv 7 _ rfl
      have hobw := H4.out.1.lt
      by_cases ht : 0 < o.turned
      · obtain ⟨k, hkk⟩ : ∃ k : Nat, o.turned.tmod 32 = (k : Int) ∧ k < 32 := ⟨(o.turned % 32).toNat, by rw [Int.tmod_eq_emod_of_nonneg (by omega)]; omega, by omega⟩
        obtain ⟨hk1, hk2⟩ := hkk
        obtain ⟨y, hy⟩ : ∃ y, (sl bs)[k]? = some y := ⟨_, List.getElem?_eq_getElem (by rw [sl_len]; omega)⟩
        obtain ⟨v, hv⟩ : ∃ v, y ^^^ 1 = v := ⟨_, rfl⟩
        have hxr : bits .xor .u8 (y.toNat : Int) 1 = (v.toNat : Int) := by
          have := c_xor y 1
          rw [hv] at this; exact this
        have hkI : (k : Int) < 32 := by omega
        obtain ⟨hrow, hgr⟩ := row_set wb bs k v cc (by omega) (by omega)
        have HROW := Keep.mk (And.intro hrow (H4.out.2.trans hgr))
        have HBY : Keep ((Lib.bytesWorld wb 5 bs).cell? ⟨wb.heap.size, k, none⟩ = some (.int .u8 y.toNat)) := ⟨bytes_cells wb bs k y hy⟩
        have HFZ : Keep ((Lib.bytesWorld wb 5 bs).frozen? ⟨wb.heap.size, k, none⟩ = false) := ⟨bytes_frozen wb bs k (by omega)⟩
        have HC7 := Keep.mk c7
        clear hrow hgr hy hv
        go_wp2_with fail
        refine wp_region_held_drew (S := fun w' => w'.cell? ⟨w.heap.size, 7, none⟩ = some (.int .i64 o.turned)) (by kernel_rfl) HC7.out (fun hHeld => ?_)
        refine wpAnyH_take (i := 0) (oi := _) (v := ?_) rfl (by kernel_rfl) (by kernel_rfl) (by kernel_rfl) (fun _ _ _ h => h) (Or.inl ⟨by rfl, ?_⟩) (by assumption) ?_
        rotate_left
        · (intro w hSw; go_simp; first | done | (with_reducible rfl))
        simp only [Act.put, List.getElem_toArray, List.getElem_cons_zero, List.setIfInBounds_toArray, List.set_cons_zero, List.set_cons_succ]
        refine wpAnyH_take (i := 1) (oi := _) (v := ?_) rfl (by kernel_rfl) (by kernel_rfl) (by kernel_rfl) (fun _ _ _ h => h) (Or.inl ⟨by rfl, ?_⟩) (by assumption) ?_
        rotate_left
        · (intro w hSw; go_simp; first | done | (with_reducible rfl))
        simp only [Act.put, List.getElem_toArray, List.getElem_cons_succ, List.getElem_cons_zero, List.setIfInBounds_toArray, List.set_cons_zero, List.set_cons_succ]
        refine wpAnyH_take (i := 2) (oi := _) (v := ?_) rfl (by kernel_rfl) (by kernel_rfl) (by kernel_rfl) (fun _ _ _ h => h) (Or.inl ⟨by rfl, ?_⟩) (by assumption) ?_
        rotate_left
        · (intro w hSw; have y1 := hSw; go_simp; first | done | (with_reducible rfl))
        simp only [Act.put, List.getElem_toArray, List.getElem_cons_succ, List.getElem_cons_zero, List.setIfInBounds_toArray, List.set_cons_zero, List.set_cons_succ]
        refine wpAnyH_take (i := 3) (oi := _) (v := ?_) rfl (by kernel_rfl) (by kernel_rfl) (by kernel_rfl) (fun _ _ _ h => h) (Or.inl ⟨by rfl, ?_⟩) (by assumption) ?_
        rotate_left
        · (intro w hSw; go_simp; first | done | (with_reducible rfl))
        simp only [Act.put, List.getElem_toArray, List.getElem_cons_succ, List.getElem_cons_zero, List.setIfInBounds_toArray, List.set_cons_zero, List.set_cons_succ]
        refine wpAnyH_take (i := 4) (oi := _) (v := ?_) rfl (by kernel_rfl) (by kernel_rfl) (by kernel_rfl) (fun _ _ _ h => h) (Or.inl ⟨by rfl, ?_⟩) (by assumption) ?_
        rotate_left
        · (intro w hSw; go_simp; first | done | (with_reducible rfl))
        simp only [Act.put, List.getElem_toArray, List.getElem_cons_succ, List.getElem_cons_zero, List.setIfInBounds_toArray, List.set_cons_zero, List.set_cons_succ]
        refine wpAnyH_take (i := 5) (oi := _) (v := ?_) rfl (by kernel_rfl) (by kernel_rfl) (by kernel_rfl) (fun _ _ _ h => h) (Or.inl ⟨by rfl, ?_⟩) (by assumption) ?_
        rotate_left
        · (intro w hSw; go_simp; first | done | (with_reducible rfl))
        simp only [Act.put, List.getElem_toArray, List.getElem_cons_succ, List.getElem_cons_zero, List.setIfInBounds_toArray, List.set_cons_zero, List.set_cons_succ]
        refine wpAnyH_take (i := 6) (oi := _) (v := ?_) rfl (by kernel_rfl) (by kernel_rfl) (by kernel_rfl) (fun _ _ _ h => h) (Or.inl ⟨by rfl, ?_⟩) (by assumption) ?_
        rotate_left
        · (intro w hSw; have y1 := hSw; go_simp; first | done | (with_reducible rfl))
        simp only [Act.put, List.getElem_toArray, List.getElem_cons_succ, List.getElem_cons_zero, List.setIfInBounds_toArray, List.set_cons_zero, List.set_cons_succ]
        refine wpAnyH_take (i := 7) (oi := _) (v := ?_) rfl (by kernel_rfl) (by kernel_rfl) (by kernel_rfl) (fun _ _ _ h => h) (Or.inl ⟨by rfl, ?_⟩) (by assumption) ?_
        rotate_left
        · (intro w hSw; go_simp; first | done | (with_reducible rfl))
        simp only [Act.put, List.getElem_toArray, List.getElem_cons_succ, List.getElem_cons_zero, List.setIfInBounds_toArray, List.set_cons_zero, List.set_cons_succ]
        refine wpAnyH_take (i := 8) (oi := _) (v := ?_) rfl (by kernel_rfl) (by kernel_rfl) (by kernel_rfl) (fun _ _ _ h => h) (Or.inl ⟨by rfl, ?_⟩) (by assumption) ?_
        rotate_left
        · (intro w hSw; go_simp; first | done | (with_reducible rfl))
        simp only [Act.put, List.getElem_toArray, List.getElem_cons_succ, List.getElem_cons_zero, List.setIfInBounds_toArray, List.set_cons_zero, List.set_cons_succ]
        refine wpAnyH_ready (rs := [9]) (by kernel_rfl) (by simp) ?_
        refine AllReadyH.cons rfl (fun K hK => ?_) AllReadyH.nil
        have y2 : (Lib.bytesWorld wb 5 bs).drew.cell? ⟨wb.heap.size, k, none⟩ = some (.int .u8 y.toNat) := HBY.out
        go_simp
        go_wp2_with fail
        clear y2
        refine hK.out _ _ hHeld (fun hHeld => ?_)
        clear hK K
        refine wpAnyH_ready (rs := [10]) (by kernel_rfl) (by simp) ?_
        refine AllReadyH.cons rfl (fun K hK => ?_) AllReadyH.nil
        go_simp
        go_wp2_with fail
        refine hK.out _ _ hHeld (fun hHeld => ?_)
        clear hK K
        refine wpAnyH_take (i := 11) (oi := _) (v := ?_) rfl (by kernel_rfl) (by kernel_rfl) (by kernel_rfl) (fun _ _ _ h => h) (Or.inl ⟨by rfl, ?_⟩) (by assumption) ?_
        rotate_left
        · (intro w hSw; go_simp; first | done | (with_reducible rfl))
        simp only [Act.put, List.getElem_toArray, List.getElem_cons_succ, List.getElem_cons_zero, List.setIfInBounds_toArray, List.set_cons_zero, List.set_cons_succ]
        refine wpAnyH_ready (rs := [12]) (by kernel_rfl) (by simp) ?_
        refine AllReadyH.cons rfl (fun K hK => ?_) AllReadyH.nil
        have y2 : (Lib.bytesWorld wb 5 bs).drew.cell? ⟨wb.heap.size, k, none⟩ = some (.int .u8 y.toNat) := HBY.out
        have y3 : (Lib.bytesWorld wb 5 bs).drew.frozen? ⟨wb.heap.size, k, none⟩ = false := HFZ.out
        go_simp
        go_wp2_with fail
        clear y2 y3
        refine hK.out _ _ ((gr_set _ _ _ _).cell hHeld (by simp; omega)) (fun hHeld => ?_)
        clear hK K
        refine wpAnyH_done (by kernel_rfl) ?_ _
        clear hHeld
        have hby : BytesOf ((Lib.bytesWorld wb 5 bs).setCell ⟨wb.heap.size, k, none⟩ (.int .u8 v.toNat)).drew (some ⟨wb.heap.size, 0, none⟩) 32 cc ((sl bs).set k v) := by
          have h1 := HROW.out.1
          rw [hbs] at h1
          exact ⟨h1.len, h1.cap, h1.at_⟩
        have hcb := cvt_back _ _ _ _ _ hby (by simp)
        have HG := Keep.mk (HROW.out.2.trans (gr_drewN _ 1 none))
        clear hby
        go_wp2_with fail
        go_ret
        exact ⟨_, rfl, HG.out⟩
      · have hcb := cvt_cvt bs wb cc (by omega)
        rw [hbs] at hcb
        have HG := Keep.mk (H4.out.2.trans (gr_bytes wb bs))
        go_wp2_with fail
        go_ret
        exact ⟨_, rfl, HG.out⟩
    · obtain ⟨z, rfl⟩ : ∃ z, ep = z + 1 := ⟨ep - 1, by omega⟩
      have hpos : (0 : Int) < (z : Int) + 1 := by omega
      have hz0 : (0 : Int) ≤ (z : Int) + 1 := by omega
      clear he1
      by_cases hle : z ≤ x
      · have hleI : (z : Int) + 1 ≤ (x : Int) + 1 := by omega
        have hleJ : (z : Int) ≤ (x : Int) := by omega
        have hcI : (z : Int) + 1 ≤ (cap : Int) := by omega
        refine wp_region_held_drew (S := fun w' => w'.cell? ⟨w.heap.size, 5, none⟩ = some (.int .u64 (z + 1 : Nat)) ∧ w'.cell? ⟨kb, 0, none⟩ = some (.slice (some ⟨g, 0, none⟩) (x + 1) cap)) (by kernel_rfl) ⟨gd.cell HC.out.1 (by simp), gd.cell HC.out.2 (by simp)⟩ (fun hHeld => ?_)
        change w2.grownBy w2.drew none at gd
        generalize w2.drew = w3 at gd hHeld ⊢
        have H3 := Keep.mk (And.intro (H2.out.1.kept gd (by simp)) (And.intro (H2.out.2.1.kept gd (by simp)) (H2.out.2.2.trans gd)))
        clear gd H2 HC
        refine wpAnyH_take (i := 0) (oi := _) (v := ?_) rfl (by kernel_rfl) (by kernel_rfl) (by kernel_rfl) (fun _ _ _ h => h) (Or.inl ⟨by rfl, ?_⟩) (by assumption) ?_
        rotate_left
        · (intro w hSw; go_simp; first | done | (with_reducible rfl))
        simp only [Act.put, List.getElem_toArray, List.getElem_cons_zero, List.setIfInBounds_toArray, List.set_cons_zero, List.set_cons_succ]
        refine wpAnyH_take (i := 1) (oi := _) (v := ?_) rfl (by kernel_rfl) (by kernel_rfl) (by kernel_rfl) (fun _ _ _ h => h) (Or.inl ⟨by rfl, ?_⟩) (by assumption) ?_
        rotate_left
        · (intro w hSw; obtain ⟨y1, y2⟩ := hSw; go_simp; first | done | (with_reducible rfl))
        simp only [Act.put, List.getElem_toArray, List.getElem_cons_succ, List.getElem_cons_zero, List.setIfInBounds_toArray, List.set_cons_zero, List.set_cons_succ]
        refine wpAnyH_take (i := 2) (oi := _) (v := ?_) rfl (by kernel_rfl) (by kernel_rfl) (by kernel_rfl) (fun _ _ _ h => h) (Or.inl ⟨by rfl, ?_⟩) (by assumption) ?_
        rotate_left
        · (intro w hSw; go_simp; first | done | (with_reducible rfl))
        simp only [Act.put, List.getElem_toArray, List.getElem_cons_succ, List.getElem_cons_zero, List.setIfInBounds_toArray, List.set_cons_zero, List.set_cons_succ]
        refine wpAnyH_take (i := 3) (oi := _) (v := ?_) rfl (by kernel_rfl) (by kernel_rfl) (by kernel_rfl) (fun _ _ _ h => h) (Or.inl ⟨by rfl, ?_⟩) (by assumption) ?_
        rotate_left
        · (intro w hSw; go_simp; first | done | (with_reducible rfl))
        simp only [Act.put, List.getElem_toArray, List.getElem_cons_succ, List.getElem_cons_zero, List.setIfInBounds_toArray, List.set_cons_zero, List.set_cons_succ]
        refine wpAnyH_take (i := 4) (oi := _) (v := ?_) rfl (by kernel_rfl) (by kernel_rfl) (by kernel_rfl) (fun _ _ _ h => h) (Or.inl ⟨by rfl, ?_⟩) (by assumption) ?_
        rotate_left
        · (intro w hSw; go_simp; first | done | (with_reducible rfl))
        simp only [Act.put, List.getElem_toArray, List.getElem_cons_succ, List.getElem_cons_zero, List.setIfInBounds_toArray, List.set_cons_zero, List.set_cons_succ]
        refine wpAnyH_take (i := 5) (oi := _) (v := ?_) rfl (by kernel_rfl) (by kernel_rfl) (by kernel_rfl) (fun _ _ _ h => h) (Or.inl ⟨by rfl, ?_⟩) (by assumption) ?_
        rotate_left
        · (intro w hSw; obtain ⟨y1, y2⟩ := hSw; go_simp; first | done | (with_reducible rfl))
        simp only [Act.put, List.getElem_toArray, List.getElem_cons_succ, List.getElem_cons_zero, List.setIfInBounds_toArray, List.set_cons_zero, List.set_cons_succ]
        refine wpAnyH_take (i := 6) (oi := _) (v := ?_) rfl (by kernel_rfl) (by kernel_rfl) (by kernel_rfl) (fun _ _ _ h => h) (Or.inl ⟨by rfl, ?_⟩) (by assumption) ?_
        rotate_left
        · (intro w hSw; go_simp; first | done | (with_reducible rfl))
        simp only [Act.put, List.getElem_toArray, List.getElem_cons_succ, List.getElem_cons_zero, List.setIfInBounds_toArray, List.set_cons_zero, List.set_cons_succ]
        refine wpAnyH_take (i := 7) (oi := _) (v := ?_) rfl (by kernel_rfl) (by kernel_rfl) (by kernel_rfl) (fun _ _ _ h => h) (Or.inl ⟨by rfl, ?_⟩) (by assumption) ?_
        rotate_left
        · (intro w hSw; go_simp; first | done | (with_reducible rfl))
        simp only [Act.put, List.getElem_toArray, List.getElem_cons_succ, List.getElem_cons_zero, List.setIfInBounds_toArray, List.set_cons_zero, List.set_cons_succ]
        refine wpAnyH_take (i := 8) (oi := _) (v := ?_) rfl (by kernel_rfl) (by kernel_rfl) (by kernel_rfl) (fun _ _ _ h => h) (Or.inl ⟨by rfl, ?_⟩) (by assumption) ?_
        rotate_left
        · (intro w hSw; go_simp; first | done | (with_reducible rfl))
        simp only [Act.put, List.getElem_toArray, List.getElem_cons_succ, List.getElem_cons_zero, List.setIfInBounds_toArray, List.set_cons_zero, List.set_cons_succ]
        refine wpAnyH_take (i := 9) (oi := _) (v := ?_) rfl (by kernel_rfl) (by kernel_rfl) (by kernel_rfl) (fun _ _ _ h => h) (Or.inl ⟨by rfl, ?_⟩) (by assumption) ?_
        rotate_left
        · (intro w hSw; obtain ⟨y1, y2⟩ := hSw; go_simp; first | done | (with_reducible rfl))
        simp only [Act.put, List.getElem_toArray, List.getElem_cons_succ, List.getElem_cons_zero, List.setIfInBounds_toArray, List.set_cons_zero, List.set_cons_succ]
        refine wpAnyH_take (i := 10) (oi := _) (v := ?_) rfl (by kernel_rfl) (by kernel_rfl) (by kernel_rfl) (fun _ _ _ h => h) (Or.inl ⟨by rfl, ?_⟩) (by assumption) ?_
        rotate_left
        · (intro w hSw; go_simp; first | done | (with_reducible rfl))
        simp only [Act.put, List.getElem_toArray, List.getElem_cons_succ, List.getElem_cons_zero, List.setIfInBounds_toArray, List.set_cons_zero, List.set_cons_succ]
        refine wpAnyH_take (i := 11) (oi := _) (v := ?_) rfl (by kernel_rfl) (by kernel_rfl) (by kernel_rfl) (fun _ _ _ h => h) (Or.inl ⟨by rfl, ?_⟩) (by assumption) ?_
        rotate_left
        · (intro w hSw; go_simp; first | done | (with_reducible rfl))
        simp only [Act.put, List.getElem_toArray, List.getElem_cons_succ, List.getElem_cons_zero, List.setIfInBounds_toArray, List.set_cons_zero, List.set_cons_succ]
        refine wpAnyH_take (i := 12) (oi := _) (v := ?_) rfl (by kernel_rfl) (by kernel_rfl) (by kernel_rfl) (fun _ _ _ h => h) (Or.inl ⟨by rfl, ?_⟩) (by assumption) ?_
        rotate_left
        · (intro w hSw; go_simp; first | done | (with_reducible rfl))
        simp only [Act.put, List.getElem_toArray, List.getElem_cons_succ, List.getElem_cons_zero, List.setIfInBounds_toArray, List.set_cons_zero, List.set_cons_succ]
        refine wpAnyH_take (i := 13) (oi := _) (v := ?_) rfl (by kernel_rfl) (by kernel_rfl) (by kernel_rfl) (fun _ _ _ h => h) (Or.inl ⟨by rfl, ?_⟩) (by assumption) ?_
        rotate_left
        · (intro w hSw; go_simp; first | done | (with_reducible rfl))
        simp only [Act.put, List.getElem_toArray, List.getElem_cons_succ, List.getElem_cons_zero, List.setIfInBounds_toArray, List.set_cons_zero, List.set_cons_succ]
        refine wpAnyH_done (by kernel_rfl) ?_ _
        have H3c := Keep.mk hHeld
        clear hHeld
        go_wp2_with fail
        have gd := gr_drewN w3 1 none
        refine wp_region_held_drew (S := fun w' => w'.cell? ⟨w.heap.size, 5, none⟩ = some (.int .u64 (z + 1 : Nat)) ∧ w'.cell? ⟨kb, 0, none⟩ = some (.slice (some ⟨g, 0, none⟩) (x + 1) cap)) (by kernel_rfl) ⟨gd.cell H3c.out.1 (by simp), gd.cell H3c.out.2 (by simp)⟩ (fun hHeld => ?_)
        change w3.grownBy w3.drew none at gd
        generalize w3.drew = w4 at gd hHeld ⊢
        have H4c := Keep.mk (And.intro (H3.out.1.kept gd (by simp)) (And.intro (H3.out.2.1.kept gd (by simp)) (H3.out.2.2.trans gd)))
        clear gd H3 H3c
        refine wpAnyH_take (i := 0) (oi := _) (v := ?_) rfl (by kernel_rfl) (by kernel_rfl) (by kernel_rfl) (fun _ _ _ h => h) (Or.inl ⟨by rfl, ?_⟩) (by assumption) ?_
        rotate_left
        · (intro w hSw; go_simp; first | done | (with_reducible rfl))
        simp only [Act.put, List.getElem_toArray, List.getElem_cons_zero, List.setIfInBounds_toArray, List.set_cons_zero, List.set_cons_succ]
        refine wpAnyH_take (i := 1) (oi := _) (v := ?_) rfl (by kernel_rfl) (by kernel_rfl) (by kernel_rfl) (fun _ _ _ h => h) (Or.inl ⟨by rfl, ?_⟩) (by assumption) ?_
        rotate_left
        · (intro w hSw; go_simp; first | done | (with_reducible rfl))
        simp only [Act.put, List.getElem_toArray, List.getElem_cons_succ, List.getElem_cons_zero, List.setIfInBounds_toArray, List.set_cons_zero, List.set_cons_succ]
        refine wpAnyH_take (i := 2) (oi := _) (v := ?_) rfl (by kernel_rfl) (by kernel_rfl) (by kernel_rfl) (fun _ _ _ h => h) (Or.inl ⟨by rfl, ?_⟩) (by assumption) ?_
        rotate_left
        · (intro w hSw; go_simp; first | done | (with_reducible rfl))
        simp only [Act.put, List.getElem_toArray, List.getElem_cons_succ, List.getElem_cons_zero, List.setIfInBounds_toArray, List.set_cons_zero, List.set_cons_succ]
        refine wpAnyH_take (i := 3) (oi := _) (v := ?_) rfl (by kernel_rfl) (by kernel_rfl) (by kernel_rfl) (fun _ _ _ h => h) (Or.inl ⟨by rfl, ?_⟩) (by assumption) ?_
        rotate_left
        · (intro w hSw; go_simp; first | done | (with_reducible rfl))
        simp only [Act.put, List.getElem_toArray, List.getElem_cons_succ, List.getElem_cons_zero, List.setIfInBounds_toArray, List.set_cons_zero, List.set_cons_succ]
        refine wpAnyH_take (i := 4) (oi := _) (v := ?_) rfl (by kernel_rfl) (by kernel_rfl) (by kernel_rfl) (fun _ _ _ h => h) (Or.inl ⟨by rfl, ?_⟩) (by assumption) ?_
        rotate_left
        · (intro w hSw; obtain ⟨y1, y2⟩ := hSw; go_simp; first | done | (with_reducible rfl))
        simp only [Act.put, List.getElem_toArray, List.getElem_cons_succ, List.getElem_cons_zero, List.setIfInBounds_toArray, List.set_cons_zero, List.set_cons_succ]
        refine wpAnyH_take (i := 5) (oi := _) (v := ?_) rfl (by kernel_rfl) (by kernel_rfl) (by kernel_rfl) (fun _ _ _ h => h) (Or.inl ⟨by rfl, ?_⟩) (by assumption) ?_
        rotate_left
        · (intro w hSw; go_simp; first | done | (with_reducible rfl))
        simp only [Act.put, List.getElem_toArray, List.getElem_cons_succ, List.getElem_cons_zero, List.setIfInBounds_toArray, List.set_cons_zero, List.set_cons_succ]
        refine wpAnyH_take (i := 6) (oi := _) (v := ?_) rfl (by kernel_rfl) (by kernel_rfl) (by kernel_rfl) (fun _ _ _ h => h) (Or.inl ⟨by rfl, ?_⟩) (by assumption) ?_
        rotate_left
        · (intro w hSw; obtain ⟨y1, y2⟩ := hSw; go_simp; first | done | (with_reducible rfl))
        simp only [Act.put, List.getElem_toArray, List.getElem_cons_succ, List.getElem_cons_zero, List.setIfInBounds_toArray, List.set_cons_zero, List.set_cons_succ]
        refine wpAnyH_take (i := 7) (oi := _) (v := ?_) rfl (by kernel_rfl) (by kernel_rfl) (by kernel_rfl) (fun _ _ _ h => h) (Or.inl ⟨by rfl, ?_⟩) (by assumption) ?_
        rotate_left
        · (intro w hSw; go_simp; first | done | (with_reducible rfl))
        simp only [Act.put, List.getElem_toArray, List.getElem_cons_succ, List.getElem_cons_zero, List.setIfInBounds_toArray, List.set_cons_zero, List.set_cons_succ]
        refine wpAnyH_take (i := 8) (oi := _) (v := ?_) rfl (by kernel_rfl) (by kernel_rfl) (by kernel_rfl) (fun _ _ _ h => h) (Or.inl ⟨by rfl, ?_⟩) (by assumption) ?_
        rotate_left
        · (intro w hSw; go_simp; first | done | (with_reducible rfl))
        simp only [Act.put, List.getElem_toArray, List.getElem_cons_succ, List.getElem_cons_zero, List.setIfInBounds_toArray, List.set_cons_zero, List.set_cons_succ]
        refine wpAnyH_take (i := 9) (oi := _) (v := ?_) rfl (by kernel_rfl) (by kernel_rfl) (by kernel_rfl) (fun _ _ _ h => h) (Or.inl ⟨by rfl, ?_⟩) (by assumption) ?_
        rotate_left
        · (intro w hSw; go_simp; first | done | (with_reducible rfl))
        simp only [Act.put, List.getElem_toArray, List.getElem_cons_succ, List.getElem_cons_zero, List.setIfInBounds_toArray, List.set_cons_zero, List.set_cons_succ]
        refine wpAnyH_ready (rs := [10]) (by kernel_rfl) (by simp) ?_
        refine AllReadyH.cons rfl (fun K hK => ?_) AllReadyH.nil
        have y1 := H4c.out.2.1.cellv 0 _ rfl
        have y2 := H4c.out.2.1.frozen 0
        go_simp
        go_wp2_with fail
        clear y1 y2
        refine hK.out _ _ ⟨(gr_set _ _ _ _).cell hHeld.1 (by simp), (gr_set _ _ _ _).cell hHeld.2 (by simp; omega)⟩ (fun hHeld => ?_)
        clear hK K
        refine wpAnyH_done (by kernel_rfl) ?_ _
        clear hHeld
        have hgs := gr_set w4 (w.heap.size + 1) 0 (.slice (some ⟨g, 0, none⟩) (z + 1) cap)
        have H3 := Keep.mk (And.intro (H4c.out.1.kept hgs (by simp)) (gr_new H4c.out.2.2 hgs (by omega)))
        have HRV : Keep (RV (w4.setCell ⟨w.heap.size + 1, 0, none⟩ (.slice (some ⟨g, 0, none⟩) (z + 1) cap)) (w.heap.size + 1) (some ⟨g, 0, none⟩) cap (ks.take (z + 1))) := ⟨by
          rw [List.length_take, hl, Nat.min_eq_left (by omega)]
          exact H4c.out.2.1.setCell 0 _, by
          have := strs_take (HH.out.1.s.kept H3.out.2) (z + 1) (by omega)
          rw [List.length_take, hl, Nat.min_eq_left (by omega)]
          exact this⟩
        generalize w4.setCell ⟨w.heap.size + 1, 0, none⟩ (.slice (some ⟨g, 0, none⟩) (z + 1) cap) = w5 at H3 HRV ⊢
        clear hgs H4c
        obtain ⟨key, hkey⟩ : ∃ key, ks[z]? = some key := ⟨_, List.getElem?_eq_getElem (by omega)⟩
        have HKY : Keep ((ks.take (z + 1))[z]? = some key ∧ key.size = 32) := ⟨by rw [List.getElem?_take, if_pos (by omega)]; exact hkey, HH.out.2.2 key (List.mem_of_getElem? hkey)⟩
        have hl2 : (ks.take (z + 1)).length = z + 1 := by rw [List.length_take, hl]; omega
        clear hkey
        have c2 : w5.cell? ⟨w.heap.size, 2, none⟩ = some (.string o.A) := H3.out.1.cellv 2 _ rfl
        have c3 : w5.cell? ⟨w.heap.size, 3, none⟩ = some (.string o.B) := H3.out.1.cellv 3 _ rfl
        go_wp2_with fail
        refine (rbake_c (w.heap.size + 1) _ _ (ks.take (z + 1)) o.A o.B key z _ HRV.out (HH.out.2.1.kept H3.out.2) (Nat.le_trans h3 H3.out.2.size) hl2 HKY.out.1 (by omega) HKY.out.2 hA hB).mono ?_
        rintro e wb ⟨rfl, gb⟩
        have hbs := deriveB_size key cookieB [o.A, o.B, ba (Mac.len8 (z + 1))]
        generalize deriveB key cookieB _ = bs at hbs ⊢
        have H4 := Keep.mk (And.intro (H3.out.1.kept gb (by simp)) (H3.out.2.trans gb))
        clear gb H3 HRV c2 c3
        have hcv := cvt bs wb
        have hge := grownCap_ge wb bs.size 0 5
        generalize grownCap wb bs.size 0 5 = cc at hcv hge
        rw [hbs] at hcv hge
        have c7 : (Lib.bytesWorld wb 5 bs).cell? ⟨w.heap.size, 7, none⟩ = some (.int .i64 o.turned) := (H4.out.1.kept (gr_bytes wb bs) (by simp)).cellv 7 _ rfl
        have hobw := H4.out.1.lt
        by_cases ht : 0 < o.turned
        · obtain ⟨k, hkk⟩ : ∃ k : Nat, o.turned.tmod 32 = (k : Int) ∧ k < 32 := ⟨(o.turned % 32).toNat, by rw [Int.tmod_eq_emod_of_nonneg (by omega)]; omega, by omega⟩
          obtain ⟨hk1, hk2⟩ := hkk
          obtain ⟨y, hy⟩ : ∃ y, (sl bs)[k]? = some y := ⟨_, List.getElem?_eq_getElem (by rw [sl_len]; omega)⟩
          obtain ⟨v, hv⟩ : ∃ v, y ^^^ 1 = v := ⟨_, rfl⟩
          have hxr : bits .xor .u8 (y.toNat : Int) 1 = (v.toNat : Int) := by
            have := c_xor y 1
            rw [hv] at this; exact this
          have hkI : (k : Int) < 32 := by omega
          obtain ⟨hrow, hgr⟩ := row_set wb bs k v cc (by omega) (by omega)
          have HROW := Keep.mk (And.intro hrow (H4.out.2.trans hgr))
          have HBY : Keep ((Lib.bytesWorld wb 5 bs).cell? ⟨wb.heap.size, k, none⟩ = some (.int .u8 y.toNat)) := ⟨bytes_cells wb bs k y hy⟩
          have HFZ : Keep ((Lib.bytesWorld wb 5 bs).frozen? ⟨wb.heap.size, k, none⟩ = false) := ⟨bytes_frozen wb bs k (by omega)⟩
          have HC7 := Keep.mk c7
          clear hrow hgr hy hv
          go_wp2_with fail
          refine wp_region_held_drew (S := fun w' => w'.cell? ⟨w.heap.size, 7, none⟩ = some (.int .i64 o.turned)) (by kernel_rfl) HC7.out (fun hHeld => ?_)
          refine wpAnyH_take (i := 0) (oi := _) (v := ?_) rfl (by kernel_rfl) (by kernel_rfl) (by kernel_rfl) (fun _ _ _ h => h) (Or.inl ⟨by rfl, ?_⟩) (by assumption) ?_
          rotate_left
          · (intro w hSw; go_simp; first | done | (with_reducible rfl))
          simp only [Act.put, List.getElem_toArray, List.getElem_cons_zero, List.setIfInBounds_toArray, List.set_cons_zero, List.set_cons_succ]
          refine wpAnyH_take (i := 1) (oi := _) (v := ?_) rfl (by kernel_rfl) (by kernel_rfl) (by kernel_rfl) (fun _ _ _ h => h) (Or.inl ⟨by rfl, ?_⟩) (by assumption) ?_
          rotate_left
          · (intro w hSw; go_simp; first | done | (with_reducible rfl))
          simp only [Act.put, List.getElem_toArray, List.getElem_cons_succ, List.getElem_cons_zero, List.setIfInBounds_toArray, List.set_cons_zero, List.set_cons_succ]
          refine wpAnyH_take (i := 2) (oi := _) (v := ?_) rfl (by kernel_rfl) (by kernel_rfl) (by kernel_rfl) (fun _ _ _ h => h) (Or.inl ⟨by rfl, ?_⟩) (by assumption) ?_
          rotate_left
          · (intro w hSw; have y1 := hSw; go_simp; first | done | (with_reducible rfl))
          simp only [Act.put, List.getElem_toArray, List.getElem_cons_succ, List.getElem_cons_zero, List.setIfInBounds_toArray, List.set_cons_zero, List.set_cons_succ]
          refine wpAnyH_take (i := 3) (oi := _) (v := ?_) rfl (by kernel_rfl) (by kernel_rfl) (by kernel_rfl) (fun _ _ _ h => h) (Or.inl ⟨by rfl, ?_⟩) (by assumption) ?_
          rotate_left
          · (intro w hSw; go_simp; first | done | (with_reducible rfl))
          simp only [Act.put, List.getElem_toArray, List.getElem_cons_succ, List.getElem_cons_zero, List.setIfInBounds_toArray, List.set_cons_zero, List.set_cons_succ]
          refine wpAnyH_take (i := 4) (oi := _) (v := ?_) rfl (by kernel_rfl) (by kernel_rfl) (by kernel_rfl) (fun _ _ _ h => h) (Or.inl ⟨by rfl, ?_⟩) (by assumption) ?_
          rotate_left
          · (intro w hSw; go_simp; first | done | (with_reducible rfl))
          simp only [Act.put, List.getElem_toArray, List.getElem_cons_succ, List.getElem_cons_zero, List.setIfInBounds_toArray, List.set_cons_zero, List.set_cons_succ]
          refine wpAnyH_take (i := 5) (oi := _) (v := ?_) rfl (by kernel_rfl) (by kernel_rfl) (by kernel_rfl) (fun _ _ _ h => h) (Or.inl ⟨by rfl, ?_⟩) (by assumption) ?_
          rotate_left
          · (intro w hSw; go_simp; first | done | (with_reducible rfl))
          simp only [Act.put, List.getElem_toArray, List.getElem_cons_succ, List.getElem_cons_zero, List.setIfInBounds_toArray, List.set_cons_zero, List.set_cons_succ]
          refine wpAnyH_take (i := 6) (oi := _) (v := ?_) rfl (by kernel_rfl) (by kernel_rfl) (by kernel_rfl) (fun _ _ _ h => h) (Or.inl ⟨by rfl, ?_⟩) (by assumption) ?_
          rotate_left
          · (intro w hSw; have y1 := hSw; go_simp; first | done | (with_reducible rfl))
          simp only [Act.put, List.getElem_toArray, List.getElem_cons_succ, List.getElem_cons_zero, List.setIfInBounds_toArray, List.set_cons_zero, List.set_cons_succ]
          refine wpAnyH_take (i := 7) (oi := _) (v := ?_) rfl (by kernel_rfl) (by kernel_rfl) (by kernel_rfl) (fun _ _ _ h => h) (Or.inl ⟨by rfl, ?_⟩) (by assumption) ?_
          rotate_left
          · (intro w hSw; go_simp; first | done | (with_reducible rfl))
          simp only [Act.put, List.getElem_toArray, List.getElem_cons_succ, List.getElem_cons_zero, List.setIfInBounds_toArray, List.set_cons_zero, List.set_cons_succ]
          refine wpAnyH_take (i := 8) (oi := _) (v := ?_) rfl (by kernel_rfl) (by kernel_rfl) (by kernel_rfl) (fun _ _ _ h => h) (Or.inl ⟨by rfl, ?_⟩) (by assumption) ?_
          rotate_left
          · (intro w hSw; go_simp; first | done | (with_reducible rfl))
          simp only [Act.put, List.getElem_toArray, List.getElem_cons_succ, List.getElem_cons_zero, List.setIfInBounds_toArray, List.set_cons_zero, List.set_cons_succ]
          refine wpAnyH_ready (rs := [9]) (by kernel_rfl) (by simp) ?_
          refine AllReadyH.cons rfl (fun K hK => ?_) AllReadyH.nil
          have y2 : (Lib.bytesWorld wb 5 bs).drew.cell? ⟨wb.heap.size, k, none⟩ = some (.int .u8 y.toNat) := HBY.out
          go_simp
          go_wp2_with fail
          clear y2
          refine hK.out _ _ hHeld (fun hHeld => ?_)
          clear hK K
          refine wpAnyH_ready (rs := [10]) (by kernel_rfl) (by simp) ?_
          refine AllReadyH.cons rfl (fun K hK => ?_) AllReadyH.nil
          go_simp
          go_wp2_with fail
          refine hK.out _ _ hHeld (fun hHeld => ?_)
          clear hK K
          refine wpAnyH_take (i := 11) (oi := _) (v := ?_) rfl (by kernel_rfl) (by kernel_rfl) (by kernel_rfl) (fun _ _ _ h => h) (Or.inl ⟨by rfl, ?_⟩) (by assumption) ?_
          rotate_left
          · (intro w hSw; go_simp; first | done | (with_reducible rfl))
          simp only [Act.put, List.getElem_toArray, List.getElem_cons_succ, List.getElem_cons_zero, List.setIfInBounds_toArray, List.set_cons_zero, List.set_cons_succ]
          refine wpAnyH_ready (rs := [12]) (by kernel_rfl) (by simp) ?_
          refine AllReadyH.cons rfl (fun K hK => ?_) AllReadyH.nil
          have y2 : (Lib.bytesWorld wb 5 bs).drew.cell? ⟨wb.heap.size, k, none⟩ = some (.int .u8 y.toNat) := HBY.out
          have y3 : (Lib.bytesWorld wb 5 bs).drew.frozen? ⟨wb.heap.size, k, none⟩ = false := HFZ.out
          go_simp
          go_wp2_with fail
          clear y2 y3
          refine hK.out _ _ ((gr_set _ _ _ _).cell hHeld (by simp; omega)) (fun hHeld => ?_)
          clear hK K
          refine wpAnyH_done (by kernel_rfl) ?_ _
          clear hHeld
          have hby : BytesOf ((Lib.bytesWorld wb 5 bs).setCell ⟨wb.heap.size, k, none⟩ (.int .u8 v.toNat)).drew (some ⟨wb.heap.size, 0, none⟩) 32 cc ((sl bs).set k v) := by
            have h1 := HROW.out.1
            rw [hbs] at h1
            exact ⟨h1.len, h1.cap, h1.at_⟩
          have hcb := cvt_back _ _ _ _ _ hby (by simp)
          have HG := Keep.mk (HROW.out.2.trans (gr_drewN _ 1 none))
          clear hby
          go_wp2_with fail
          go_ret
          exact ⟨_, rfl, HG.out⟩
        · have hcb := cvt_cvt bs wb cc (by omega)
          rw [hbs] at hcb
          have HG := Keep.mk (H4.out.2.trans (gr_bytes wb bs))
          go_wp2_with fail
          go_ret
          exact ⟨_, rfl, HG.out⟩
      · have hleI : ¬ (z : Int) + 1 ≤ (x : Int) + 1 := by omega
        have hleJ : ¬ (z : Int) ≤ (x : Int) := by omega
        refine wp_region_held_drew (S := fun w' => w'.cell? ⟨w.heap.size, 5, none⟩ = some (.int .u64 (z + 1 : Nat)) ∧ w'.cell? ⟨kb, 0, none⟩ = some (.slice (some ⟨g, 0, none⟩) (x + 1) cap)) (by kernel_rfl) ⟨gd.cell HC.out.1 (by simp), gd.cell HC.out.2 (by simp)⟩ (fun hHeld => ?_)
        change w2.grownBy w2.drew none at gd
        generalize w2.drew = w3 at gd hHeld ⊢
        have H3 := Keep.mk (And.intro (H2.out.1.kept gd (by simp)) (And.intro (H2.out.2.1.kept gd (by simp)) (H2.out.2.2.trans gd)))
        clear gd H2 HC
        refine wpAnyH_take (i := 0) (oi := _) (v := ?_) rfl (by kernel_rfl) (by kernel_rfl) (by kernel_rfl) (fun _ _ _ h => h) (Or.inl ⟨by rfl, ?_⟩) (by assumption) ?_
        rotate_left
        · (intro w hSw; go_simp; first | done | (with_reducible rfl))
        simp only [Act.put, List.getElem_toArray, List.getElem_cons_zero, List.setIfInBounds_toArray, List.set_cons_zero, List.set_cons_succ]
        refine wpAnyH_take (i := 1) (oi := _) (v := ?_) rfl (by kernel_rfl) (by kernel_rfl) (by kernel_rfl) (fun _ _ _ h => h) (Or.inl ⟨by rfl, ?_⟩) (by assumption) ?_
        rotate_left
        · (intro w hSw; obtain ⟨y1, y2⟩ := hSw; go_simp; first | done | (with_reducible rfl))
        simp only [Act.put, List.getElem_toArray, List.getElem_cons_succ, List.getElem_cons_zero, List.setIfInBounds_toArray, List.set_cons_zero, List.set_cons_succ]
        refine wpAnyH_take (i := 2) (oi := _) (v := ?_) rfl (by kernel_rfl) (by kernel_rfl) (by kernel_rfl) (fun _ _ _ h => h) (Or.inl ⟨by rfl, ?_⟩) (by assumption) ?_
        rotate_left
        · (intro w hSw; go_simp; first | done | (with_reducible rfl))
        simp only [Act.put, List.getElem_toArray, List.getElem_cons_succ, List.getElem_cons_zero, List.setIfInBounds_toArray, List.set_cons_zero, List.set_cons_succ]
        refine wpAnyH_take (i := 3) (oi := _) (v := ?_) rfl (by kernel_rfl) (by kernel_rfl) (by kernel_rfl) (fun _ _ _ h => h) (Or.inl ⟨by rfl, ?_⟩) (by assumption) ?_
        rotate_left
        · (intro w hSw; go_simp; first | done | (with_reducible rfl))
        simp only [Act.put, List.getElem_toArray, List.getElem_cons_succ, List.getElem_cons_zero, List.setIfInBounds_toArray, List.set_cons_zero, List.set_cons_succ]
        refine wpAnyH_take (i := 4) (oi := _) (v := ?_) rfl (by kernel_rfl) (by kernel_rfl) (by kernel_rfl) (fun _ _ _ h => h) (Or.inl ⟨by rfl, ?_⟩) (by assumption) ?_
        rotate_left
        · (intro w hSw; go_simp; first | done | (with_reducible rfl))
        simp only [Act.put, List.getElem_toArray, List.getElem_cons_succ, List.getElem_cons_zero, List.setIfInBounds_toArray, List.set_cons_zero, List.set_cons_succ]
        refine wpAnyH_take (i := 5) (oi := _) (v := ?_) rfl (by kernel_rfl) (by kernel_rfl) (by kernel_rfl) (fun _ _ _ h => h) (Or.inl ⟨by rfl, ?_⟩) (by assumption) ?_
        rotate_left
        · (intro w hSw; obtain ⟨y1, y2⟩ := hSw; go_simp; first | done | (with_reducible rfl))
        simp only [Act.put, List.getElem_toArray, List.getElem_cons_succ, List.getElem_cons_zero, List.setIfInBounds_toArray, List.set_cons_zero, List.set_cons_succ]
        refine wpAnyH_take (i := 6) (oi := _) (v := ?_) rfl (by kernel_rfl) (by kernel_rfl) (by kernel_rfl) (fun _ _ _ h => h) (Or.inl ⟨by rfl, ?_⟩) (by assumption) ?_
        rotate_left
        · (intro w hSw; go_simp; first | done | (with_reducible rfl))
        simp only [Act.put, List.getElem_toArray, List.getElem_cons_succ, List.getElem_cons_zero, List.setIfInBounds_toArray, List.set_cons_zero, List.set_cons_succ]
        refine wpAnyH_take (i := 7) (oi := _) (v := ?_) rfl (by kernel_rfl) (by kernel_rfl) (by kernel_rfl) (fun _ _ _ h => h) (Or.inl ⟨by rfl, ?_⟩) (by assumption) ?_
        rotate_left
        · (intro w hSw; go_simp; first | done | (with_reducible rfl))
        simp only [Act.put, List.getElem_toArray, List.getElem_cons_succ, List.getElem_cons_zero, List.setIfInBounds_toArray, List.set_cons_zero, List.set_cons_succ]
        refine wpAnyH_take (i := 8) (oi := _) (v := ?_) rfl (by kernel_rfl) (by kernel_rfl) (by kernel_rfl) (fun _ _ _ h => h) (Or.inl ⟨by rfl, ?_⟩) (by assumption) ?_
        rotate_left
        · (intro w hSw; go_simp; first | done | (with_reducible rfl))
        simp only [Act.put, List.getElem_toArray, List.getElem_cons_succ, List.getElem_cons_zero, List.setIfInBounds_toArray, List.set_cons_zero, List.set_cons_succ]
        refine wpAnyH_take (i := 9) (oi := _) (v := ?_) rfl (by kernel_rfl) (by kernel_rfl) (by kernel_rfl) (fun _ _ _ h => h) (Or.inl ⟨by rfl, ?_⟩) (by assumption) ?_
        rotate_left
        · (intro w hSw; obtain ⟨y1, y2⟩ := hSw; go_simp; first | done | (with_reducible rfl))
        simp only [Act.put, List.getElem_toArray, List.getElem_cons_succ, List.getElem_cons_zero, List.setIfInBounds_toArray, List.set_cons_zero, List.set_cons_succ]
        refine wpAnyH_take (i := 10) (oi := _) (v := ?_) rfl (by kernel_rfl) (by kernel_rfl) (by kernel_rfl) (fun _ _ _ h => h) (Or.inl ⟨by rfl, ?_⟩) (by assumption) ?_
        rotate_left
        · (intro w hSw; go_simp; first | done | (with_reducible rfl))
        simp only [Act.put, List.getElem_toArray, List.getElem_cons_succ, List.getElem_cons_zero, List.setIfInBounds_toArray, List.set_cons_zero, List.set_cons_succ]
        refine wpAnyH_take (i := 11) (oi := _) (v := ?_) rfl (by kernel_rfl) (by kernel_rfl) (by kernel_rfl) (fun _ _ _ h => h) (Or.inl ⟨by rfl, ?_⟩) (by assumption) ?_
        rotate_left
        · (intro w hSw; go_simp; first | done | (with_reducible rfl))
        simp only [Act.put, List.getElem_toArray, List.getElem_cons_succ, List.getElem_cons_zero, List.setIfInBounds_toArray, List.set_cons_zero, List.set_cons_succ]
        refine wpAnyH_take (i := 12) (oi := _) (v := ?_) rfl (by kernel_rfl) (by kernel_rfl) (by kernel_rfl) (fun _ _ _ h => h) (Or.inl ⟨by rfl, ?_⟩) (by assumption) ?_
        rotate_left
        · (intro w hSw; go_simp; first | done | (with_reducible rfl))
        simp only [Act.put, List.getElem_toArray, List.getElem_cons_succ, List.getElem_cons_zero, List.setIfInBounds_toArray, List.set_cons_zero, List.set_cons_succ]
        refine wpAnyH_take (i := 13) (oi := _) (v := ?_) rfl (by kernel_rfl) (by kernel_rfl) (by kernel_rfl) (fun _ _ _ h => h) (Or.inl ⟨by rfl, ?_⟩) (by assumption) ?_
        rotate_left
        · (intro w hSw; go_simp; first | done | (with_reducible rfl))
        simp only [Act.put, List.getElem_toArray, List.getElem_cons_succ, List.getElem_cons_zero, List.setIfInBounds_toArray, List.set_cons_zero, List.set_cons_succ]
        refine wpAnyH_done (by kernel_rfl) ?_ _
        have HRV : Keep (RV w3 (w.heap.size + 1) (some ⟨g, 0, none⟩) cap ks) := ⟨by rw [hl]; exact H3.out.2.1, (HH.out.1.kept H3.out.2.2).s⟩
        have H3b := Keep.mk (And.intro H3.out.1 H3.out.2.2)
        clear H3 hHeld
        have H3 := H3b
        clear H3b
        obtain ⟨key, hkey⟩ : ∃ key, ks[x]? = some key := ⟨_, List.getElem?_eq_getElem (by omega)⟩
        have HKY := Keep.mk (And.intro hkey (HH.out.2.2 key (List.mem_of_getElem? hkey)))
        have hl2 := hl
        clear hkey
        have c2 : w3.cell? ⟨w.heap.size, 2, none⟩ = some (.string o.A) := H3.out.1.cellv 2 _ rfl
        have c3 : w3.cell? ⟨w.heap.size, 3, none⟩ = some (.string o.B) := H3.out.1.cellv 3 _ rfl
        go_wp2_with fail
        refine (rbake_c (w.heap.size + 1) _ _ ks o.A o.B key x _ HRV.out (HH.out.2.1.kept H3.out.2) (Nat.le_trans h3 H3.out.2.size) hl2 HKY.out.1 (by omega) HKY.out.2 hA hB).mono ?_
        rintro e wb ⟨rfl, gb⟩
        have hbs := deriveB_size key cookieB [o.A, o.B, ba (Mac.len8 (x + 1))]
        generalize deriveB key cookieB _ = bs at hbs ⊢
        have H4 := Keep.mk (And.intro (H3.out.1.kept gb (by simp)) (H3.out.2.trans gb))
        clear gb H3 HRV c2 c3
        have hcv := cvt bs wb
        have hge := grownCap_ge wb bs.size 0 5
        generalize grownCap wb bs.size 0 5 = cc at hcv hge
        rw [hbs] at hcv hge
        have c7 : (Lib.bytesWorld wb 5 bs).cell? ⟨w.heap.size, 7, none⟩ = some (.int .i64 o.turned) := (H4.out.1.kept (gr_bytes wb bs) (by simp)).cellv 7 _ rfl
        have hobw := H4.out.1.lt
        by_cases ht : 0 < o.turned
        · obtain ⟨k, hkk⟩ : ∃ k : Nat, o.turned.tmod 32 = (k : Int) ∧ k < 32 := ⟨(o.turned % 32).toNat, by rw [Int.tmod_eq_emod_of_nonneg (by omega)]; omega, by omega⟩
          obtain ⟨hk1, hk2⟩ := hkk
          obtain ⟨y, hy⟩ : ∃ y, (sl bs)[k]? = some y := ⟨_, List.getElem?_eq_getElem (by rw [sl_len]; omega)⟩
          obtain ⟨v, hv⟩ : ∃ v, y ^^^ 1 = v := ⟨_, rfl⟩
          have hxr : bits .xor .u8 (y.toNat : Int) 1 = (v.toNat : Int) := by
            have := c_xor y 1
            rw [hv] at this; exact this
          have hkI : (k : Int) < 32 := by omega
          obtain ⟨hrow, hgr⟩ := row_set wb bs k v cc (by omega) (by omega)
          have HROW := Keep.mk (And.intro hrow (H4.out.2.trans hgr))
          have HBY : Keep ((Lib.bytesWorld wb 5 bs).cell? ⟨wb.heap.size, k, none⟩ = some (.int .u8 y.toNat)) := ⟨bytes_cells wb bs k y hy⟩
          have HFZ : Keep ((Lib.bytesWorld wb 5 bs).frozen? ⟨wb.heap.size, k, none⟩ = false) := ⟨bytes_frozen wb bs k (by omega)⟩
          have HC7 := Keep.mk c7
          clear hrow hgr hy hv
          go_wp2_with fail
          refine wp_region_held_drew (S := fun w' => w'.cell? ⟨w.heap.size, 7, none⟩ = some (.int .i64 o.turned)) (by kernel_rfl) HC7.out (fun hHeld => ?_)
          refine wpAnyH_take (i := 0) (oi := _) (v := ?_) rfl (by kernel_rfl) (by kernel_rfl) (by kernel_rfl) (fun _ _ _ h => h) (Or.inl ⟨by rfl, ?_⟩) (by assumption) ?_
          rotate_left
          · (intro w hSw; go_simp; first | done | (with_reducible rfl))
          simp only [Act.put, List.getElem_toArray, List.getElem_cons_zero, List.setIfInBounds_toArray, List.set_cons_zero, List.set_cons_succ]
          refine wpAnyH_take (i := 1) (oi := _) (v := ?_) rfl (by kernel_rfl) (by kernel_rfl) (by kernel_rfl) (fun _ _ _ h => h) (Or.inl ⟨by rfl, ?_⟩) (by assumption) ?_
          rotate_left
          · (intro w hSw; go_simp; first | done | (with_reducible rfl))
          simp only [Act.put, List.getElem_toArray, List.getElem_cons_succ, List.getElem_cons_zero, List.setIfInBounds_toArray, List.set_cons_zero, List.set_cons_succ]
          refine wpAnyH_take (i := 2) (oi := _) (v := ?_) rfl (by kernel_rfl) (by kernel_rfl) (by kernel_rfl) (fun _ _ _ h => h) (Or.inl ⟨by rfl, ?_⟩) (by assumption) ?_
          rotate_left
          · (intro w hSw; have y1 := hSw; go_simp; first | done | (with_reducible rfl))
          simp only [Act.put, List.getElem_toArray, List.getElem_cons_succ, List.getElem_cons_zero, List.setIfInBounds_toArray, List.set_cons_zero, List.set_cons_succ]
          refine wpAnyH_take (i := 3) (oi := _) (v := ?_) rfl (by kernel_rfl) (by kernel_rfl) (by kernel_rfl) (fun _ _ _ h => h) (Or.inl ⟨by rfl, ?_⟩) (by assumption) ?_
          rotate_left
          · (intro w hSw; go_simp; first | done | (with_reducible rfl))
          simp only [Act.put, List.getElem_toArray, List.getElem_cons_succ, List.getElem_cons_zero, List.setIfInBounds_toArray, List.set_cons_zero, List.set_cons_succ]
          refine wpAnyH_take (i := 4) (oi := _) (v := ?_) rfl (by kernel_rfl) (by kernel_rfl) (by kernel_rfl) (fun _ _ _ h => h) (Or.inl ⟨by rfl, ?_⟩) (by assumption) ?_
          rotate_left
          · (intro w hSw; go_simp; first | done | (with_reducible rfl))
          simp only [Act.put, List.getElem_toArray, List.getElem_cons_succ, List.getElem_cons_zero, List.setIfInBounds_toArray, List.set_cons_zero, List.set_cons_succ]
          refine wpAnyH_take (i := 5) (oi := _) (v := ?_) rfl (by kernel_rfl) (by kernel_rfl) (by kernel_rfl) (fun _ _ _ h => h) (Or.inl ⟨by rfl, ?_⟩) (by assumption) ?_
          rotate_left
          · (intro w hSw; go_simp; first | done | (with_reducible rfl))
          simp only [Act.put, List.getElem_toArray, List.getElem_cons_succ, List.getElem_cons_zero, List.setIfInBounds_toArray, List.set_cons_zero, List.set_cons_succ]
          refine wpAnyH_take (i := 6) (oi := _) (v := ?_) rfl (by kernel_rfl) (by kernel_rfl) (by kernel_rfl) (fun _ _ _ h => h) (Or.inl ⟨by rfl, ?_⟩) (by assumption) ?_
          rotate_left
          · (intro w hSw; have y1 := hSw; go_simp; first | done | (with_reducible rfl))
          simp only [Act.put, List.getElem_toArray, List.getElem_cons_succ, List.getElem_cons_zero, List.setIfInBounds_toArray, List.set_cons_zero, List.set_cons_succ]
          refine wpAnyH_take (i := 7) (oi := _) (v := ?_) rfl (by kernel_rfl) (by kernel_rfl) (by kernel_rfl) (fun _ _ _ h => h) (Or.inl ⟨by rfl, ?_⟩) (by assumption) ?_
          rotate_left
          · (intro w hSw; go_simp; first | done | (with_reducible rfl))
          simp only [Act.put, List.getElem_toArray, List.getElem_cons_succ, List.getElem_cons_zero, List.setIfInBounds_toArray, List.set_cons_zero, List.set_cons_succ]
          refine wpAnyH_take (i := 8) (oi := _) (v := ?_) rfl (by kernel_rfl) (by kernel_rfl) (by kernel_rfl) (fun _ _ _ h => h) (Or.inl ⟨by rfl, ?_⟩) (by assumption) ?_
          rotate_left
          · (intro w hSw; go_simp; first | done | (with_reducible rfl))
          simp only [Act.put, List.getElem_toArray, List.getElem_cons_succ, List.getElem_cons_zero, List.setIfInBounds_toArray, List.set_cons_zero, List.set_cons_succ]
          refine wpAnyH_ready (rs := [9]) (by kernel_rfl) (by simp) ?_
          refine AllReadyH.cons rfl (fun K hK => ?_) AllReadyH.nil
          have y2 : (Lib.bytesWorld wb 5 bs).drew.cell? ⟨wb.heap.size, k, none⟩ = some (.int .u8 y.toNat) := HBY.out
          go_simp
          go_wp2_with fail
          clear y2
          refine hK.out _ _ hHeld (fun hHeld => ?_)
          clear hK K
          refine wpAnyH_ready (rs := [10]) (by kernel_rfl) (by simp) ?_
          refine AllReadyH.cons rfl (fun K hK => ?_) AllReadyH.nil
          go_simp
          go_wp2_with fail
          refine hK.out _ _ hHeld (fun hHeld => ?_)
          clear hK K
          refine wpAnyH_take (i := 11) (oi := _) (v := ?_) rfl (by kernel_rfl) (by kernel_rfl) (by kernel_rfl) (fun _ _ _ h => h) (Or.inl ⟨by rfl, ?_⟩) (by assumption) ?_
          rotate_left
          · (intro w hSw; go_simp; first | done | (with_reducible rfl))
          simp only [Act.put, List.getElem_toArray, List.getElem_cons_succ, List.getElem_cons_zero, List.setIfInBounds_toArray, List.set_cons_zero, List.set_cons_succ]
          refine wpAnyH_ready (rs := [12]) (by kernel_rfl) (by simp) ?_
          refine AllReadyH.cons rfl (fun K hK => ?_) AllReadyH.nil
          have y2 : (Lib.bytesWorld wb 5 bs).drew.cell? ⟨wb.heap.size, k, none⟩ = some (.int .u8 y.toNat) := HBY.out
          have y3 : (Lib.bytesWorld wb 5 bs).drew.frozen? ⟨wb.heap.size, k, none⟩ = false := HFZ.out
          go_simp
          go_wp2_with fail
          clear y2 y3
          refine hK.out _ _ ((gr_set _ _ _ _).cell hHeld (by simp; omega)) (fun hHeld => ?_)
          clear hK K
          refine wpAnyH_done (by kernel_rfl) ?_ _
          clear hHeld
          have hby : BytesOf ((Lib.bytesWorld wb 5 bs).setCell ⟨wb.heap.size, k, none⟩ (.int .u8 v.toNat)).drew (some ⟨wb.heap.size, 0, none⟩) 32 cc ((sl bs).set k v) := by
            have h1 := HROW.out.1
            rw [hbs] at h1
            exact ⟨h1.len, h1.cap, h1.at_⟩
          have hcb := cvt_back _ _ _ _ _ hby (by simp)
          have HG := Keep.mk (HROW.out.2.trans (gr_drewN _ 1 none))
          clear hby
          go_wp2_with fail
          go_ret
          exact ⟨_, rfl, HG.out⟩
        · have hcb := cvt_cvt bs wb cc (by omega)
          rw [hbs] at hcb
          have HG := Keep.mk (H4.out.2.trans (gr_bytes wb bs))
          go_wp2_with fail
          go_ret
          exact ⟨_, rfl, HG.out⟩
end Go.Proofs.YtbmnlhmelbhjeaaDoor
