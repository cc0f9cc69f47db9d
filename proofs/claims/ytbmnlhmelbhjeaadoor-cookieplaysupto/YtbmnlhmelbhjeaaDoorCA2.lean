/- cookie: a secret's cookie (bake) -/
import Derived.Test.YtbmnlhmelbhjeaaDoorCA1
import Derived.Deep.RegionHeld
namespace Go.Proofs.YtbmnlhmelbhjeaaDoor
open Go Go.RowKit

def cookieB : ByteArray := { data := #[99, 111, 111, 107, 105, 101] }
def turnB : ByteArray := { data := #[116, 117, 114, 110] }
def ba (l : List UInt8) : ByteArray := ⟨l.toArray⟩
theorem ba_sl (l : List UInt8) : sl (ba l) = l := sl_mk l
theorem ba_size (l : List UInt8) : (ba l).size = l.length := by rw [← sl_len, ba_sl]
theorem sl_ba (s : ByteArray) : ba (sl s) = s := sl_back s
/-- what a secret bakes -/
def bakeS (s : List UInt8) (f n : ByteArray) : ByteArray := deriveB (ba (s.drop 8)) cookieB [f, n, ba (s.take 8)]
theorem deriveB_size (k u : ByteArray) (ps : List ByteArray) : (deriveB k u ps).size = 32 := by
  rw [← sl_len, deriveB, sl_mk, Mac.hmac_len]
/-- a new row of strings -/
theorem strs_new (w : World) (ps : List ByteArray) : Strs (w.alloc (.cells (ps.map Value.string).toArray 9)) (some ⟨w.heap.size, 0, none⟩) ps.length ps :=
  ⟨rfl, fun _ => ⟨_, 0, rfl, fun j p hp => by
    rw [Nat.zero_add]
    exact (Has.new w (ps.map Value.string) 9).cellv j _ (by rw [List.getElem?_map, hp]; rfl)⟩⟩
theorem strs_nil (w : World) : Strs w none 0 [] := ⟨rfl, fun h => by omega⟩

set_option maxRecDepth 100000 in
set_option maxHeartbeats 4000000 in
theorem bake_c (s : List UInt8) (A : Array Value) (f n : ByteArray) (w : World) (hA : Keep (A = (s.map bv).toArray)) (h40 : s.length = 40) (hk : Kc w) (hf : f.size ≤ 9223372036854775807) (hn : n.size ≤ 9223372036854775807) :
    Calls Tryd.prog 22 #[.agg A, .string f, .string n] w fun e w' => e = .returned (.string (bakeS s f n)) ∧ w.grownBy w' none := by
  have HK : Keep (Kc w) := ⟨hk⟩
  have HB : Keep (Has (w.alloc (.cells A 52)) w.heap.size (s.map bv) 52 ∧ w.grownBy (w.alloc (.cells A 52)) none) := ⟨by rw [hA.out]; exact Has.new _ _ _, World.grownBy_alloc _ _ _⟩
  have HP : Keep (∀ (j : Nat) (p : ByteArray), [f, n, ba (s.take 8)][j]? = some p → p.size ≤ 9223372036854775807) := ⟨fun j p hp => by
    match j, hp with
    | 0, hp => obtain rfl : f = p := by simpa using hp
               exact hf
    | 1, hp => obtain rfl : n = p := by simpa using hp
               exact hn
    | 2, hp => obtain rfl : ba (s.take 8) = p := by simpa using hp
               rw [ba_size, List.length_take]; omega
    | j + 3, hp => simp at hp⟩
  have HS : Keep (∀ W : World, Has W w.heap.size (s.map bv) 52 → (convert 67 9 (.slice (some ⟨w.heap.size, 0, none⟩) 8 40)).run Tryd.prog W = .ok (.string (ba (s.take 8))) W) := ⟨fun W hW => cvt_back W _ 8 40 (s.take 8) (has_bytes hW _ rfl (by omega) (by omega)) (by simp)⟩
  have hs := slice52l w.heap.size
  have HKS : Keep ((ba (s.drop 8)).size ≤ 2305843009213693952) := ⟨by rw [ba_size, List.length_drop]; omega⟩
  have HI : Keep ((Tryd.prog.info? 52).map (·.size) = some (s.map bv).length) := ⟨info52 s h40⟩
  clear hk hf hn
  go_enter Tryd.func22, Tryd.ntmps22
  go_wp2_with fail
  refine wp_region_held_drew (S := fun w' => Has w' w.heap.size (s.map bv) 52 ∧ w.grownBy w' none) (by kernel_rfl) ⟨HB.out.1, HB.out.2.trans (gr_drewN _ 1 none)⟩ (fun hHeld => ?_)
  generalize (w.alloc (.cells A 52)).drew = w1 at hHeld ⊢
  clear HB
  refine wpAnyH_take (i := 0) (oi := _) (v := _) rfl (by kernel_rfl) (by kernel_rfl) (by kernel_rfl) (fun _ _ _ h => h) (yieldsIf_load_mid (by rfl) 52 _ rfl _ _ rfl _ _ (fun _ h => h.1.range) under52 rfl (HI.out)) (by assumption) ?_
  simp only [Act.put, List.getElem_toArray, List.getElem_cons_zero, List.setIfInBounds_toArray, List.set_cons_zero, List.set_cons_succ]
  refine wpAnyH_take (i := 2) (oi := _) (v := ?_) rfl (by kernel_rfl) (by kernel_rfl) (by kernel_rfl) (fun _ _ _ h => h) (Or.inl ⟨by rfl, ?_⟩) (by assumption) ?_
  rotate_left
  · (intro w hSw; go_simp; first | done | (with_reducible rfl))
  simp only [Act.put, List.getElem_toArray, List.getElem_cons_succ, List.getElem_cons_zero, List.setIfInBounds_toArray, List.set_cons_zero, List.set_cons_succ]
  refine wpAnyH_take (i := 3) (oi := _) (v := ?_) rfl (by kernel_rfl) (by kernel_rfl) (by kernel_rfl) (fun _ _ _ h => h) (Or.inl ⟨by rfl, ?_⟩) (by assumption) ?_
  rotate_left
  · (intro w hSw; go_simp; first | done | (with_reducible rfl))
  simp only [Act.put, List.getElem_toArray, List.getElem_cons_succ, List.getElem_cons_zero, List.setIfInBounds_toArray, List.set_cons_zero, List.set_cons_succ]
  refine wpAnyH_take (i := 4) (oi := _) (v := ?_) rfl (by kernel_rfl) (by kernel_rfl) (by kernel_rfl) (fun _ _ _ h => h) (Or.inl ⟨by rfl, ?_⟩) (by assumption) ?_
  rotate_left
  · (intro w hSw; go_simp; first | done | (with_reducible rfl))
  simp only [Act.put, List.getElem_toArray, List.getElem_cons_succ, List.getElem_cons_zero, List.setIfInBounds_toArray, List.set_cons_zero, List.set_cons_succ]
  refine wpAnyH_take (i := 5) (oi := _) (v := ?_) rfl (by kernel_rfl) (by kernel_rfl) (by kernel_rfl) (fun _ _ _ h => h) (Or.inl ⟨by rfl, ?_⟩) (by assumption) ?_
  rotate_left
  · (intro w hSw; have x1 := HS.out w hSw.1; go_simp; first | done | (with_reducible rfl))
  simp only [Act.put, List.getElem_toArray, List.getElem_cons_succ, List.getElem_cons_zero, List.setIfInBounds_toArray, List.set_cons_zero, List.set_cons_succ]
  refine wpAnyH_ready (rs := [1, 6]) (by kernel_rfl) (by simp) ?_
  refine AllReadyH.cons rfl (fun K hK => ?_) ?_
  · go_simp
    go_wp2_with (go_at_call 26; refine (key_c s _ _ ⟨rfl⟩ h40).mono ?_; rintro e w2 ⟨rfl, g2⟩)
    refine hK.out _ _ ⟨hHeld.1.kept g2 (by simp), hHeld.2.trans g2⟩ (fun hHeld => ?_)
    clear hK K g2
    refine wpAnyH_ready (rs := [6]) (by kernel_rfl) (by simp) ?_
    refine AllReadyH.cons rfl (fun K hK => ?_) AllReadyH.nil
    go_simp
    go_wp2_with fail
    have HT : Keep (Strs (w2.alloc (.cells #[.string f, .string n, .string (ba (s.take 8))] 9)) (some ⟨w2.heap.size, 0, none⟩) 3 [f, n, ba (s.take 8)]) := ⟨strs_new w2 [f, n, ba (s.take 8)]⟩
    have hH3 : Has (w2.alloc (.cells #[.string f, .string n, .string (ba (s.take 8))] 9)) w.heap.size (s.map bv) 52 ∧ w.grownBy (w2.alloc (.cells #[.string f, .string n, .string (ba (s.take 8))] 9)) none := ⟨hHeld.1.alloc _, hHeld.2.trans (World.grownBy_alloc _ _ _)⟩
    refine hK.out _ _ hH3 (fun hHeld => ?_)
    clear hK K hH3
    refine wpAnyH_ready (rs := [7]) (by kernel_rfl) (by simp) ?_
    refine AllReadyH.cons rfl (fun K hK => ?_) AllReadyH.nil
    go_simp
    go_wp2_with (go_at_call 14; refine (derive_gen (ba (s.drop 8)) cookieB _ 3 3 _ _ (HK.out.kept hHeld.2 (by simp)) HT.out HKS.out (by decide) (by decide) HP.out).mono ?_; rintro e wz ⟨rfl, gz⟩; have HZ : Keep (w.grownBy wz none) := ⟨World.grownBy.trans hHeld.2 gz⟩)
    refine hK.out _ _ ⟨Has.kept hHeld.1 gz (by simp), HZ.out⟩ (fun hHeld => ?_)
    clear hK K gz
    refine wpAnyH_ready (rs := [8]) (by kernel_rfl) (by simp) ?_
    refine AllReadyH.cons rfl (fun K hK => ?_) AllReadyH.nil
    go_simp
    go_wp2_with fail
    refine hK.out _ _ hHeld (fun hHeld => ?_)
    clear hK K
    refine wpAnyH_done (by kernel_rfl) ?_ _
    go_wp2_with fail
    go_ret
    exact ⟨rfl, HZ.out⟩
  refine AllReadyH.cons rfl (fun K hK => ?_) AllReadyH.nil
  go_simp
  go_wp2_with fail
  have hT : Strs (w1.alloc (.cells #[.string f, .string n, .string (ba (s.take 8))] 9)) (some ⟨w1.heap.size, 0, none⟩) 3 [f, n, ba (s.take 8)] := strs_new w1 [f, n, ba (s.take 8)]
  have hH3 : Has (w1.alloc (.cells #[.string f, .string n, .string (ba (s.take 8))] 9)) w.heap.size (s.map bv) 52 ∧ w.grownBy (w1.alloc (.cells #[.string f, .string n, .string (ba (s.take 8))] 9)) none := ⟨hHeld.1.alloc _, hHeld.2.trans (World.grownBy_alloc _ _ _)⟩
  refine hK.out _ _ hH3 (fun hHeld => ?_)
  clear hK K hH3
  refine wpAnyH_ready (rs := [1]) (by kernel_rfl) (by simp) ?_
  refine AllReadyH.cons rfl (fun K hK => ?_) AllReadyH.nil
  go_simp
  go_wp2_with (go_at_call 26; refine (key_c s _ _ ⟨rfl⟩ h40).mono ?_; rintro e w2 ⟨rfl, g2⟩; have HT := Keep.mk (hT.kept g2))
  refine hK.out _ _ ⟨hHeld.1.kept g2 (by simp), hHeld.2.trans g2⟩ (fun hHeld => ?_)
  clear hK K g2 hT
  refine wpAnyH_ready (rs := [7]) (by kernel_rfl) (by simp) ?_
  refine AllReadyH.cons rfl (fun K hK => ?_) AllReadyH.nil
  go_simp
  go_wp2_with (go_at_call 14; refine (derive_gen (ba (s.drop 8)) cookieB _ 3 3 _ _ (HK.out.kept hHeld.2 (by simp)) HT.out HKS.out (by decide) (by decide) HP.out).mono ?_; rintro e wz ⟨rfl, gz⟩; have HZ : Keep (w.grownBy wz none) := ⟨World.grownBy.trans hHeld.2 gz⟩)
  refine hK.out _ _ ⟨Has.kept hHeld.1 gz (by simp), HZ.out⟩ (fun hHeld => ?_)
  clear hK K gz
  refine wpAnyH_ready (rs := [8]) (by kernel_rfl) (by simp) ?_
  refine AllReadyH.cons rfl (fun K hK => ?_) AllReadyH.nil
  go_simp
  go_wp2_with fail
  refine hK.out _ _ hHeld (fun hHeld => ?_)
  clear hK K
  refine wpAnyH_done (by kernel_rfl) ?_ _
  go_wp2_with fail
  go_ret
  exact ⟨rfl, HZ.out⟩
end Go.Proofs.YtbmnlhmelbhjeaaDoor
