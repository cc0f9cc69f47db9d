/- the reference's jar: New, Epoch, baked, Bake, Check -/
import Derived.Test.YtbmnlhmelbhjeaaDoorCL3
import Derived.Test.YtbmnlhmelbhjeaaDoorMaR4
namespace Go.Proofs.YtbmnlhmelbhjeaaDoor
open Go Go.RowKit

/-- a reference's jar in block kb: the keys of all epochs -/
structure RV (w : World) (kb : Nat) (a : Option Addr) (c : Nat) (ks : List ByteArray) : Prop where
  h : Has w kb [.slice a ks.length c] 71
  s : Strs w a ks.length ks
theorem RV.kept {w w' : World} {kb : Nat} {a : Option Addr} {c : Nat} {ks : List ByteArray} (h : RV w kb a c ks) (g : w.grownBy w' none) : RV w' kb a c ks := ⟨h.h.kept g (by simp), h.s.kept g⟩
set_option maxRecDepth 100000 in
set_option maxHeartbeats 4000000 in
theorem rnew_c (seed : ByteArray) (w : World) (hk : RK w) (h3 : 3 ≤ w.heap.size) (hs : seed.size ≤ 2147483648) :
    Calls Tryd.prog 17 #[.string seed] w fun e w' => ∃ kb g, e = .returned (.pointer (some ⟨kb, 0, none⟩)) ∧ Has w' kb [.slice (some ⟨g, 0, none⟩) 1 1] 71 ∧ Has w' g [.string (deriveB seed cookieB [])] 9 ∧ w.grownBy w' none ∧ w.heap.size ≤ g ∧ g < kb := by
  have HK : Keep (RK w) := ⟨hk⟩
  clear hk
  go_enter Tryd.func17, Tryd.ntmps17
  go_wp2_with fail
  refine (rderive_any seed cookieB none 0 0 [] _ HK.out h3 (strs_nil _) hs (by decide)).mono ?_
  rintro e w1 ⟨rfl, g1⟩
  have G1 : Keep (w.grownBy w1 none) := ⟨g1⟩
  clear g1
  generalize hk0 : deriveB seed cookieB [] = k0
  have HK0 := Keep.mk hk0
  clear hk0
  go_wp2_with fail
  go_ret
  refine ⟨_, w1.heap.size, rfl, by have := Has.newA (w1.alloc (.cells #[.string k0] 9)) #[.slice (some ⟨w1.heap.size, 0, none⟩) 1 1] 71; rwa [heap1] at this, by rw [HK0.out]; exact (Has.newA w1 _ _).alloc _, (G1.out.trans (World.grownBy_alloc _ _ _)).trans (World.grownBy_alloc _ _ _), G1.out.size, ?_⟩
  omega

set_option maxRecDepth 100000 in
set_option maxHeartbeats 4000000 in
theorem repoch_c (kb : Nat) (a : Option Addr) (c : Nat) (ks : List ByteArray) (w : World) (h : RV w kb a c ks) (hl : ks.length ≤ 1000) :
    Calls Tryd.prog 19 #[.pointer (some ⟨kb, 0, none⟩)] w fun e w' => e = .returned (.int .u64 (ks.length : Nat)) ∧ w.grownBy w' none := by
  have hc : w.cell? ⟨kb, 0, none⟩ = some (.slice a ks.length c) := h.h.cellv 0 _ rfl
  clear h
  generalize ks.length = n at *
  go_enter Tryd.func19, Tryd.ntmps19
  go_wp2_with fail
  go_ret
  exact ⟨rfl, World.grownBy.refl _ _⟩

theorem length_i (x : Nat) (xi : Int) (w : World) (hx : xi = (x : Int)) (hn : x < 18446744073709551616) :
    Calls Tryd.prog 44 #[.int .u64 xi] w fun e w' => e = .returned (.string (ba (Mac.len8 x))) ∧ w.grownBy w' none := by
  subst hx; exact length_any x w hn
theorem said3 (f n : ByteArray) (x : Nat) (hf : f.size ≤ 1073741000) (hn : n.size ≤ 1073741000) : (saidB cookieB [f, n, ba (Mac.len8 x)]).size ≤ 2147483648 := by
  rw [saidB_size]
  simp only [Mac.said, Mac.flat, List.map_cons, List.map_nil, List.flatMap_cons, List.flatMap_nil, List.length_append, List.length_cons, List.length_nil, Mac.len8_len, sl_len, ba_size]
  have : cookieB.size = 6 := rfl
  omega

set_option maxRecDepth 100000 in
set_option maxHeartbeats 4000000 in
theorem rbaked_c (kb : Nat) (a : Option Addr) (c : Nat) (ks : List ByteArray) (f n key : ByteArray) (x : Nat) (w : World) (h : RV w kb a c ks) (hk : RK w) (h3 : 3 ≤ w.heap.size) (hx : ks[x]? = some key) (hx2 : x < 1000) (hks : key.size = 32) (hf : f.size ≤ 1073741000) (hn : n.size ≤ 1073741000) :
    Calls Tryd.prog 38 #[.pointer (some ⟨kb, 0, none⟩), .string f, .string n, .int .u64 ((x : Int) + 1)] w fun e w' => e = .returned (.string (deriveB key cookieB [f, n, ba (Mac.len8 (x + 1))])) ∧ w.grownBy w' none := by
  have hxl := (List.getElem?_eq_some_iff.1 hx).1
  obtain ⟨B, o, ea, hat⟩ := h.s.at_ (by omega)
  subst ea
  have HC : Keep (w.cell? ⟨kb, 0, none⟩ = some (.slice (some ⟨B, o, none⟩) ks.length c) ∧ w.cell? ⟨B, o + x, none⟩ = some (.string key)) := ⟨h.h.cellv 0 _ rfl, hat x key hx⟩
  have HK : Keep (RK w) := ⟨hk⟩
  have HS := Keep.mk (said3 f n (x + 1) hf hn)
  have hxn : (x : Int) < (ks.length : Int) := by omega
  have hwk : IntKind.u64.wrap (x : Int) = (x : Int) := by show (x : Int) % 18446744073709551616 = _; omega
  clear h hat hk hx
  generalize ks.length = nk at *
  go_enter Tryd.func38, Tryd.ntmps38
  go_wp2_with fail
  have gg := gr_drewN w 1 none
  refine wp_region_held_drew (S := fun w' => w.grownBy w' none) (by kernel_rfl) gg (fun hHeld => ?_)
  generalize w.drew = w1 at hHeld ⊢
  clear gg
  refine wpAnyH_take (i := 0) (oi := _) (v := ?_) rfl (by kernel_rfl) (by kernel_rfl) (by kernel_rfl) (fun _ _ _ h => h) (Or.inl ⟨by rfl, ?_⟩) (by assumption) ?_
  rotate_left
  · (intro w hSw; go_simp; first | done | (with_reducible rfl))
  simp only [Act.put, List.getElem_toArray, List.getElem_cons_zero, List.setIfInBounds_toArray, List.set_cons_zero, List.set_cons_succ]
  refine wpAnyH_take (i := 1) (oi := _) (v := ?_) rfl (by kernel_rfl) (by kernel_rfl) (by kernel_rfl) (fun _ _ _ h => h) (Or.inl ⟨by rfl, ?_⟩) (by assumption) ?_
  rotate_left
  · (intro w hSw; go_simp; first | done | (with_reducible rfl))
  simp only [Act.put, List.getElem_toArray, List.getElem_cons_succ, List.getElem_cons_zero, List.setIfInBounds_toArray, List.set_cons_zero, List.set_cons_succ]
  refine wpAnyH_take (i := 2) (oi := _) (v := ?_) rfl (by kernel_rfl) (by kernel_rfl) (by kernel_rfl) (fun _ _ _ h => h) (Or.inl ⟨by rfl, ?_⟩) (by assumption) ?_
  rotate_left
  · (intro w hSw; go_simp; first | done | (with_reducible rfl))
  simp only [Act.put, List.getElem_toArray, List.getElem_cons_succ, List.getElem_cons_zero, List.setIfInBounds_toArray, List.set_cons_zero, List.set_cons_succ]
  refine wpAnyH_take (i := 3) (oi := _) (v := ?_) rfl (by kernel_rfl) (by kernel_rfl) (by kernel_rfl) (fun _ _ _ h => h) (Or.inl ⟨by rfl, ?_⟩) (by assumption) ?_
  rotate_left
  · (intro w hSw; have y1 := hSw.cell HC.out.1 (by simp); have y2 := hSw.cell HC.out.2 (by simp); clear hSw; go_simp; first | done | (with_reducible rfl))
  simp only [Act.put, List.getElem_toArray, List.getElem_cons_succ, List.getElem_cons_zero, List.setIfInBounds_toArray, List.set_cons_zero, List.set_cons_succ]
  refine wpAnyH_take (i := 4) (oi := _) (v := ?_) rfl (by kernel_rfl) (by kernel_rfl) (by kernel_rfl) (fun _ _ _ h => h) (Or.inl ⟨by rfl, ?_⟩) (by assumption) ?_
  rotate_left
  · (intro w hSw; go_simp; first | done | (with_reducible rfl))
  simp only [Act.put, List.getElem_toArray, List.getElem_cons_succ, List.getElem_cons_zero, List.setIfInBounds_toArray, List.set_cons_zero, List.set_cons_succ]
  refine wpAnyH_take (i := 5) (oi := _) (v := ?_) rfl (by kernel_rfl) (by kernel_rfl) (by kernel_rfl) (fun _ _ _ h => h) (Or.inl ⟨by rfl, ?_⟩) (by assumption) ?_
  rotate_left
  · (intro w hSw; go_simp; first | done | (with_reducible rfl))
  simp only [Act.put, List.getElem_toArray, List.getElem_cons_succ, List.getElem_cons_zero, List.setIfInBounds_toArray, List.set_cons_zero, List.set_cons_succ]
  refine wpAnyH_take (i := 6) (oi := _) (v := ?_) rfl (by kernel_rfl) (by kernel_rfl) (by kernel_rfl) (fun _ _ _ h => h) (Or.inl ⟨by rfl, ?_⟩) (by assumption) ?_
  rotate_left
  · (intro w hSw; go_simp; first | done | (with_reducible rfl))
  simp only [Act.put, List.getElem_toArray, List.getElem_cons_succ, List.getElem_cons_zero, List.setIfInBounds_toArray, List.set_cons_zero, List.set_cons_succ]
  refine wpAnyH_take (i := 7) (oi := _) (v := ?_) rfl (by kernel_rfl) (by kernel_rfl) (by kernel_rfl) (fun _ _ _ h => h) (Or.inl ⟨by rfl, ?_⟩) (by assumption) ?_
  rotate_left
  · (intro w hSw; have y1 := hSw.cell HC.out.1 (by simp); have y2 := hSw.cell HC.out.2 (by simp); clear hSw; go_simp; first | done | (with_reducible rfl))
  simp only [Act.put, List.getElem_toArray, List.getElem_cons_succ, List.getElem_cons_zero, List.setIfInBounds_toArray, List.set_cons_zero, List.set_cons_succ]
  refine wpAnyH_take (i := 8) (oi := _) (v := ?_) rfl (by kernel_rfl) (by kernel_rfl) (by kernel_rfl) (fun _ _ _ h => h) (Or.inl ⟨by rfl, ?_⟩) (by assumption) ?_
  rotate_left
  · (intro w hSw; go_simp; first | done | (with_reducible rfl))
  simp only [Act.put, List.getElem_toArray, List.getElem_cons_succ, List.getElem_cons_zero, List.setIfInBounds_toArray, List.set_cons_zero, List.set_cons_succ]
  refine wpAnyH_take (i := 9) (oi := _) (v := ?_) rfl (by kernel_rfl) (by kernel_rfl) (by kernel_rfl) (fun _ _ _ h => h) (Or.inl ⟨by rfl, ?_⟩) (by assumption) ?_
  rotate_left
  · (intro w hSw; go_simp; first | done | (with_reducible rfl))
  simp only [Act.put, List.getElem_toArray, List.getElem_cons_succ, List.getElem_cons_zero, List.setIfInBounds_toArray, List.set_cons_zero, List.set_cons_succ]
  refine wpAnyH_take (i := 10) (oi := _) (v := ?_) rfl (by kernel_rfl) (by kernel_rfl) (by kernel_rfl) (fun _ _ _ h => h) (Or.inl ⟨by rfl, ?_⟩) (by assumption) ?_
  rotate_left
  · (intro w hSw; go_simp; first | done | (with_reducible rfl))
  simp only [Act.put, List.getElem_toArray, List.getElem_cons_succ, List.getElem_cons_zero, List.setIfInBounds_toArray, List.set_cons_zero, List.set_cons_succ]
  refine wpAnyH_ready (rs := [11]) (by kernel_rfl) (by simp) ?_
  refine AllReadyH.cons rfl (fun K hK => ?_) AllReadyH.nil
  go_simp
  go_wp2_with fail
  refine (length_i (x + 1) _ _ (by omega) (by omega)).mono ?_
  rintro e w2 ⟨rfl, g2⟩
  refine hK.out _ _ (World.grownBy.trans hHeld g2) (fun hHeld => ?_)
  clear hK K g2
  refine wpAnyH_ready (rs := [12]) (by kernel_rfl) (by simp) ?_
  refine AllReadyH.cons rfl (fun K hK => ?_) AllReadyH.nil
  go_simp
  go_wp2_with fail
  have hT := strs3 w2 f n (ba (Mac.len8 (x + 1)))
  have gg := World.grownBy_alloc w2 (.cells #[.string f, .string n, .string (ba (Mac.len8 (x + 1)))] 9) none
  generalize w2.alloc (.cells #[.string f, .string n, .string (ba (Mac.len8 (x + 1)))] 9) = w3 at hT gg ⊢
  have HT := Keep.mk hT
  clear hT
  refine hK.out _ _ (World.grownBy.trans hHeld gg) (fun hHeld => ?_)
  clear hK K gg
  refine wpAnyH_ready (rs := [13]) (by kernel_rfl) (by simp) ?_
  refine AllReadyH.cons rfl (fun K hK => ?_) AllReadyH.nil
  go_simp
  go_wp2_with fail
  refine (rderive_any key cookieB _ 3 3 [f, n, ba (Mac.len8 (x + 1))] _ (HK.out.kept hHeld) (Nat.le_trans h3 (World.grownBy.size hHeld)) HT.out (by omega) HS.out).mono ?_
  rintro e w4 ⟨rfl, g4⟩
  refine hK.out _ _ (World.grownBy.trans hHeld g4) (fun hHeld => ?_)
  clear hK K g4
  refine wpAnyH_ready (rs := [14]) (by kernel_rfl) (by simp) ?_
  refine AllReadyH.cons rfl (fun K hK => ?_) AllReadyH.nil
  go_simp
  go_wp2_with fail
  refine hK.out _ _ hHeld (fun hHeld => ?_)
  clear hK K
  refine wpAnyH_done (by kernel_rfl) ?_ _
  have HH := Keep.mk hHeld
  clear hHeld
  go_wp2_with fail
  go_ret
  exact ⟨rfl, HH.out⟩

set_option maxRecDepth 100000 in
set_option maxHeartbeats 4000000 in
theorem rbake_c (kb : Nat) (a : Option Addr) (c : Nat) (ks : List ByteArray) (f n key : ByteArray) (x : Nat) (w : World) (h : RV w kb a c ks) (hk : RK w) (h3 : 3 ≤ w.heap.size) (hl : ks.length = x + 1) (hx : ks[x]? = some key) (hx2 : x < 999) (hks : key.size = 32) (hf : f.size ≤ 1073741000) (hn : n.size ≤ 1073741000) :
    Calls Tryd.prog 20 #[.pointer (some ⟨kb, 0, none⟩), .string f, .string n] w fun e w' => e = .returned (.string (deriveB key cookieB [f, n, ba (Mac.len8 (x + 1))])) ∧ w.grownBy w' none := by
  have HH := Keep.mk (And.intro h (And.intro hk hx))
  have HN : Keep (((ks.length : Nat) : Int) = (x : Int) + 1) := ⟨by omega⟩
  clear h hk hx
  go_enter Tryd.func20, Tryd.ntmps20
  go_wp2_with fail
  refine (repoch_c kb a c ks _ HH.out.1 (by omega)).mono ?_
  rintro e w1 ⟨rfl, g1⟩
  rw [HN.out]
  have G1 := Keep.mk g1
  clear g1
  go_wp2_with fail
  refine (rbaked_c kb a c ks f n key x _ (HH.out.1.kept G1.out) (HH.out.2.1.kept G1.out) (Nat.le_trans h3 G1.out.size) HH.out.2.2 (by omega) hks hf hn).mono ?_
  rintro e w2 ⟨rfl, g2⟩
  have G2 := Keep.mk (G1.out.trans g2)
  clear g2 G1
  generalize hr : deriveB key cookieB _ = r
  have HQ := Keep.mk hr
  clear hr
  go_wp2_with fail
  go_ret
  exact ⟨by rw [HQ.out]; rfl, G2.out⟩

/-- what the reference's Check answers -/
def rchk (ks : List ByteArray) (f n : ByteArray) (x : Nat) (c : ByteArray) : Int :=
  if x = 0 ∨ ks.length < x ∨ x + 1 < ks.length then 100 else if c = deriveB (ks.getD (x - 1) ⟨#[]⟩) cookieB [f, n, ba (Mac.len8 x)] then 0 else 101
set_option maxRecDepth 100000 in
set_option maxHeartbeats 4000000 in
theorem rcheck_c (kb : Nat) (a : Option Addr) (c : Nat) (ks : List ByteArray) (f n q : ByteArray) (x : Nat) (w : World) (h : RV w kb a c ks) (hk : RK w) (h3 : 3 ≤ w.heap.size) (hl : ks.length < 1000) (hx2 : x < 18446744073709551616) (hks : ∀ k ∈ ks, k.size = 32) (hf : f.size ≤ 1073741000) (hn : n.size ≤ 1073741000) :
    Calls Tryd.prog 37 #[.pointer (some ⟨kb, 0, none⟩), .string f, .string n, .int .u64 x, .string q] w fun e w' => e = .returned (.int .i64 (rchk ks f n x q)) ∧ w.grownBy w' none := by
  have HH := Keep.mk (And.intro h (And.intro hk hks))
  have HV : Keep (rchk ks f n x q = if x = 0 ∨ ks.length < x ∨ x + 1 < ks.length then 100 else if q = deriveB (ks.getD (x - 1) ⟨#[]⟩) cookieB [f, n, ba (Mac.len8 x)] then 0 else 101) := ⟨rfl⟩
  clear h hk hks
  go_enter Tryd.func37, Tryd.ntmps37
  go_wp2_with fail
  refine (repoch_c kb a c ks _ HH.out.1 (by omega)).mono ?_
  rintro e w1 ⟨rfl, g1⟩
  have G1 := Keep.mk g1
  clear g1
  obtain ⟨m, hm⟩ : ∃ m, m = ks.length := ⟨_, rfl⟩
  rw [← hm] at HV hl ⊢
  have HM := Keep.mk hm
  clear hm
  by_cases h0 : x = 0
  · have HE : Keep (rchk ks f n x q = 100) := ⟨by rw [HV.out, if_pos (.inl h0)]⟩
    clear HV
    subst h0
    go_wp2_with fail
    go_ret
    exact ⟨by rw [HE.out]; rfl, G1.out⟩
  · by_cases h1 : m < x
    · have HE : Keep (rchk ks f n x q = 100) := ⟨by rw [HV.out, if_pos (.inr (.inl h1))]⟩
      clear HV
      go_wp2_with fail
      go_ret
      exact ⟨by rw [HE.out]; rfl, G1.out⟩
    · by_cases h2 : x + 1 < m
      · have HE : Keep (rchk ks f n x q = 100) := ⟨by rw [HV.out, if_pos (.inr (.inr h2))]⟩
        clear HV
        go_wp2_with fail
        go_ret
        exact ⟨by rw [HE.out]; rfl, G1.out⟩
      · obtain ⟨y, rfl⟩ : ∃ y, x = y + 1 := ⟨x - 1, by omega⟩
        obtain ⟨key, hkey⟩ : ∃ key, ks[y]? = some key := ⟨_, List.getElem?_eq_getElem (by have := HM.out; omega)⟩
        have HE : Keep (rchk ks f n (y + 1) q = if q = deriveB key cookieB [f, n, ba (Mac.len8 (y + 1))] then 0 else 101) := ⟨by
          rw [HV.out, if_neg (by omega), Nat.add_sub_cancel, List.getD_eq_getElem?_getD, hkey]; rfl⟩
        have HKY := Keep.mk (And.intro hkey (HH.out.2.2 key (List.mem_of_getElem? hkey)))
        have hz : ((y : Int) + 1 == 0) = false := by rw [beq_eq_false_iff_ne]; omega
        clear HV hkey
        go_wp2_with fail
        refine (rbaked_c kb a c ks f n key y _ (HH.out.1.kept G1.out) (HH.out.2.1.kept G1.out) (Nat.le_trans h3 G1.out.size) HKY.out.1 (by omega) HKY.out.2 hf hn).mono ?_
        rintro e w2 ⟨rfl, g2⟩
        have G2 := Keep.mk (G1.out.trans g2)
        clear g2 G1
        generalize deriveB key cookieB _ = r at HE ⊢
        by_cases hq : q = r
        · have hq1 : (q.toList == r.toList) = true := by rw [beqA]; exact decide_eq_true hq
          have HE2 : Keep (rchk ks f n (y + 1) q = 0) := ⟨by rw [HE.out, if_pos hq]⟩
          clear hq HE
          go_wp2_with fail
          go_ret
          exact ⟨by rw [HE2.out]; rfl, G2.out⟩
        · have hq1 : (q.toList == r.toList) = false := by rw [beqA]; exact decide_eq_false hq
          have HE2 : Keep (rchk ks f n (y + 1) q = 101) := ⟨by rw [HE.out, if_neg hq]⟩
          clear HE
          go_wp2_with fail
          go_ret
          exact ⟨by rw [HE2.out]; rfl, G2.out⟩
end Go.Proofs.YtbmnlhmelbhjeaaDoor
