/- mac.pad -/
import Derived.Test.YtbmnlhmelbhjeaaDoorMaM2
namespace Go.Proofs.YtbmnlhmelbhjeaaDoor
open Go Go.RowKit

def zl64 : List Value := (List.replicate 64 (0 : UInt8)).map bv
def zero64 : Array Value := zl64.toArray
theorem zero47 : ∀ W : World, (zeroValue 61).run Tryd.prog W = .ok (.agg zero64) W :=
  (zero_of_info (P := Tryd.prog) (t := 61) (v := .agg zero64) (n := 64) (by kernel_rfl)).1
theorem zero64_list : zero64.toList = (List.replicate 64 (0 : UInt8)).map bv := rfl

/-- two new pads -/
structure PD (w w' : World) (q : List UInt8) : Prop where
  r : Has w' w.heap.size ((List.replicate 64 (0 : UInt8)).map bv) 61
  p : Has w' (w.heap.size + 1) (q.map bv) 61
  g : w.grownBy w' none
theorem PD.start (w : World) : PD w ((w.alloc (.cells zero64 61)).alloc (.cells zero64 61)) (List.replicate 64 0) :=
  ⟨(Has.newA w zero64 61).alloc _, by have := Has.newA (w.alloc (.cells zero64 61)) zero64 61; rw [heap1] at this; exact this, (World.grownBy_alloc _ _ _).trans (World.grownBy_alloc _ _ _)⟩
theorem PD.grow {w w' w2 : World} {q : List UInt8} (h : PD w w' q) (hg : w'.grownBy w2 none) : PD w w2 q := ⟨h.r.kept hg (by simp), h.p.kept hg (by simp), h.g.trans hg⟩
theorem PD.sets {w w' : World} (h : PD w w' (List.replicate 64 0)) (q : List UInt8) (hq : q.length ≤ 64) : PD w (w'.setCells (w.heap.size + 1) 0 (q.map bv)) (q ++ List.replicate (64 - q.length) 0) := by
  refine ⟨h.r.kept (gr_sets _ _ _ _) (by simp), ?_, gr_new h.g (gr_sets _ _ _ _) (by omega)⟩
  have := h.p.setCells (q.map bv) 0
  rw [over_eq _ _ _ (by simp <;> omega), ← List.map_take, ← List.map_drop, ← List.map_append, ← List.map_append] at this
  rw [List.take_zero, List.nil_append, List.drop_replicate, List.length_map, Nat.zero_add] at this
  exact this
theorem PD.copied {w w' : World} (h : PD w w' (List.replicate 64 0)) (key : ByteArray) (hq : key.size ≤ 64) :
    ∃ w2, (Builtin.copy_ #[67, 9] 3 #[.slice (some ⟨w.heap.size + 1, 0, none⟩) 64 64, .string key]).run Tryd.prog w' = .ok (.int .i64 key.size) w2 ∧ PD w w2 (Mac.keyOf (sl key)) := by
  refine ⟨_, copy_str w' 3 (w.heap.size + 1) 0 64 64 key.size key (Nat.min_eq_left hq).symm (h.p.there 0 _ (by simp <;> omega)), ?_⟩
  rw [List.take_of_length_le (by rw [sl_len]; omega), Mac.keyOf, if_pos (by rw [sl_len]; omega)]
  exact h.sets (sl key) (by rw [sl_len]; exact hq)
theorem PD.copied2 {w w' : World} (h : PD w w' (List.replicate 64 0)) (B : Nat) (S : List UInt8) (hS : S.length = 32) (hb : Has w' B (S.map bv) 76) :
    ∃ w2, (Builtin.copy_ #[67, 67] 3 #[.slice (some ⟨w.heap.size + 1, 0, none⟩) 64 64, .slice (some ⟨B, 0, none⟩) 32 32]).run Tryd.prog w' = .ok (.int .i64 32) w2 ∧ PD w w2 (S ++ List.replicate 32 0) := by
  have hl : (S.map bv).length = 32 := by rw [List.length_map, hS]
  have hth := h.p.there 0 32 (by simp)
  have := run_copy_cells (P := Tryd.prog) w' 67 67 3 5 (w.heap.size + 1) 0 64 64 ⟨B, 0, none⟩ 32 32 (S.map bv) under28 (by kernel_rfl) (by rw [hl]; rfl)
    (fun j v hv => by rw [Addr.add_mid]; exact hb.cellv _ _ (by rw [Nat.zero_add]; exact hv)) (fun j hj => (hth j (by omega)).1) (fun j hj => (hth j (by omega)).2)
    (fun v hv => by obtain ⟨x, _, rfl⟩ := List.mem_map.1 hv; rfl)
  rw [hl] at this
  refine ⟨_, this, ?_⟩
  have h2 := h.sets S (by omega)
  rw [hS] at h2
  exact h2

/-- a new variable that holds a sum -/
theorem sumVar (w3 : World) (C : Array Value) (hC : C.size = 32) (S : List UInt8) (hS : S.length = 32) (w4 : World) (h : (w3.alloc (.cells C 76)).setCells w3.heap.size 0 (S.map bv) = w4) : Has w4 w3.heap.size (S.map bv) 76 ∧ w3.grownBy w4 none := by
  subst h
  refine ⟨(Has.newA w3 C 76).setAll _ (by simp [hC, hS]), gr_new (World.grownBy_alloc _ _ _) (gr_sets _ _ _ _) (Nat.le_refl _)⟩
theorem info36 (S : List UInt8) (hS : S.length = 32) : (Tryd.prog.info? 76).map (·.size) = some (S.map bv).toArray.size := by
  rw [List.size_toArray, List.length_map, hS]; exact size25

set_option maxRecDepth 100000 in
set_option maxHeartbeats 4000000 in
theorem mpad_any (key : ByteArray) (w : World) (hk : Kc w) (hsz : key.size ≤ 4611686018427387904) :
    Calls Tryd.prog 27 #[.string key] w fun e w' => e = .returned (.agg ((Mac.keyOf (sl key)).map bv).toArray) ∧ w.grownBy w' none := by
  have HK : Keep (Kc w) := ⟨hk⟩
  have hz := zero47
  have HL : Keep (((Mac.keyOf (sl key)).map bv).length = 64 ∧ (Tryd.prog.info? 61).map (·.size) = some ((Mac.keyOf (sl key)).map bv).length) := ⟨by
    have : ((Mac.keyOf (sl key)).map bv).length = 64 := by rw [List.length_map, Mac.keyOf_len]
    rw [this]; exact ⟨rfl, size41⟩⟩
  clear hk
  go_enter Tryd.func27, Tryd.ntmps27
  by_cases hl : key.size ≤ 64
  · obtain ⟨w2, hcp, h2⟩ := (PD.start w).copied key hl
    have H2 : Keep (PD w w2 (Mac.keyOf (sl key))) := ⟨h2⟩
    generalize Mac.keyOf (sl key) = q at H2 HL ⊢
    clear h2
    go_wp2_with (first
      | (refine wpList_load_mid rfl 61 _ rfl _ _ rfl _ _ H2.out.p.range under41 rfl HL.out.2 ?_)
      | (refine wpList_store_mid rfl 61 _ _ rfl _ _ _ rfl rfl (H2.out.r.there 0 _ (by rw [List.size_toArray, HL.out.1]; simp)) HL.out.2 (bytes_one _) ?_))
    refine ret_cell (b := w.heap.size) (cs := q.map bv) (t := 61) rfl rfl ?_ under41 rfl HL.out.2 rfl ⟨rfl, ?_⟩
    · exact H2.out.r.setAll _ (by rw [HL.out.1]; simp)
    · exact gr_new H2.out.g (gr_sets _ _ _ _) (Nat.le_refl _)
  · go_wp2_with (first
      | (go_at_call 39; refine (new_any _).mono ?_; rintro e w1 ⟨rfl, h1, g1⟩
         rw [heap1, heap1] at h1 ⊢
         have H1 : Keep (HashOf w1 (w.heap.size + 1 + 1) [] ∧ PD w w1 (List.replicate 64 0) ∧ Kc w1 ∧ 0 ≠ w.heap.size + 1 + 1) := ⟨h1, (PD.start w).grow g1, HK.out.kept ((PD.start w).grow g1).g (by simp), by have := HK.out.lt; omega⟩
         clear h1 g1)
      | (go_at_call 29; refine (mwrite_any _ [] key _ H1.out.1 H1.out.2.2.1 H1.out.2.2.2 (by simpa using hsz)).mono ?_; rintro e w2 ⟨rfl, h2, g2⟩
         have H2 : Keep (HashOf w2 (w.heap.size + 1 + 1) (sl key) ∧ PD w w2 (List.replicate 64 0) ∧ Kc w2) := ⟨h2, ⟨H1.out.2.1.r.kept g2 (by simp <;> omega), H1.out.2.1.p.kept g2 (by simp), gr_new H1.out.2.1.g g2 (by omega)⟩, H1.out.2.2.1.kept g2 (by simp)⟩
         clear h2 g2)
      | (go_at_call 40; refine (sum_any _ (sl key) _ H2.out.1 H2.out.2.2 (by rw [sl_len]; omega)).mono ?_; rintro e w3 ⟨rfl, g3⟩
         have H3 : Keep (PD w w3 (List.replicate 64 0)) := ⟨H2.out.2.1.grow g3⟩
         have HQ : Keep (Mac.keyOf (sl key) = Sha.sha (sl key) ++ List.replicate 32 0 ∧ (Sha.sha (sl key)).length = 32) := ⟨by rw [Mac.keyOf, if_neg (by rw [sl_len]; omega)], Mac.sha_len _⟩
         generalize Sha.sha (sl key) = S at HQ ⊢
         clear g3)
      | (refine wpList_store_mid rfl 76 _ _ rfl _ _ _ rfl rfl ((Has.newA w3 _ 76).there 0 _ (by rw [List.size_toArray, List.length_map, HQ.out.2]; decide)) (info36 S HQ.out.2) (bytes_one _) ?_
         generalize hw4 : World.setCells _ _ _ _ = w4
         obtain ⟨h4, g4⟩ := sumVar w3 _ rfl S HQ.out.2 w4 hw4
         obtain ⟨w5, hcp, h5⟩ := PD.copied2 (w' := w4.drew) (H3.out.grow (g4.trans (gr_drewN w4 1 none))) w3.heap.size S HQ.out.2 h4
         have H5 : Keep (PD w w5 (Mac.keyOf (sl key))) := ⟨by rw [HQ.out.1]; exact h5⟩
         clear h4 g4 h5 hw4
         generalize hqq : Mac.keyOf (sl key) = q at H5 HL HQ
         have HQQ : Keep (Mac.keyOf (sl key) = q) := ⟨hqq⟩
         clear hqq))
    go_region
    go_wp2_with (first
      | (refine wpList_load_mid rfl 61 _ rfl _ _ rfl _ _ H5.out.p.range under41 rfl HL.out.2 ?_)
      | (refine wpList_store_mid rfl 61 _ _ rfl _ _ _ rfl rfl (H5.out.r.there 0 _ (by rw [List.size_toArray, HL.out.1]; simp)) HL.out.2 (bytes_one _) ?_))
    refine ret_cell (b := w.heap.size) (cs := q.map bv) (t := 61) rfl rfl ?_ under41 rfl HL.out.2 rfl ⟨by rw [HQQ.out], ?_⟩
    · exact H5.out.r.setAll _ (by rw [HL.out.1]; simp)
    · exact gr_new H5.out.g (gr_sets _ _ _ _) (Nat.le_refl _)
end Go.Proofs.YtbmnlhmelbhjeaaDoor
