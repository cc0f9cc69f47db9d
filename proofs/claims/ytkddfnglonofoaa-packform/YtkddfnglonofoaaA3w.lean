/- pack: rows of bytes that pass 2^47 bytes. -/
import Derived.Test.YtkddfnglonofoaaA3
import Derived.Deep.DeepAppendWide
namespace Go.Proofs.Ytkddfnglonofoaa
open Go Go.RowKit

/-- there was room -/
theorem row_room {w : World} {g n cap m : Nat} {cur : Array Value} {xs news : List UInt8} (hg : w.heap[g]? = some (.cells cur 5 (0, 0))) (hcm : cap ≤ maxLen) (hcs : cur.size = cap) (htake : cur.toList.take n = xs.map bv) (hn : xs.length = n) (hm : news.length = m) (hroom : n + m ≤ cap) :
    Row (w.setRow g (cur.toList.take n ++ news.map bv ++ cur.toList.drop (n + m)).toArray) (.slice (some ⟨g, 0, none⟩) (n + m) cap) (xs ++ news) ∧ w.grownBy (w.setRow g (cur.toList.take n ++ news.map bv ++ cur.toList.drop (n + m)).toArray) (some g) := by
  have hlen : (xs ++ news).length = n + m := by rw [List.length_append, hn, hm]
  refine ⟨⟨by simp, .inr ⟨g, cap, _, by rw [hlen], Nat.zero_le _, setRow_heap w g cur _ 5 _ hg, by omega, hcm, ?_, ?_⟩⟩, ⟨rfl, rfl, rfl, by simp, fun k _ hk => setRow_other w g k _ (fun e => hk (by rw [e]))⟩⟩
  · simp only [List.size_toArray, List.length_append, List.length_take, List.length_drop, List.length_map, Array.length_toList]
    omega
  · rw [htake, ← List.map_append, hlen, Nat.mul_one]
    refine (List.take_append_of_le_length ?_).trans (List.take_of_length_le ?_) <;> rw [List.length_map, hlen] <;> exact Nat.le_refl _
/-- it has grown -/
theorem row_grown (w : World) (n m old : Nat) (xs news : List UInt8) (hn : xs.length = n) (hm : news.length = m) (h63 : n + m ≤ maxLen) (row : Option Nat) :
    Row (w.drew.alloc (.cells ((xs.map bv).toArray ++ (news.map bv).toArray ++ Builtin.zeroCells (Value.int .u8 0).cells (grownCap w (n + m) old 5 - (n + m))) 5)) (.slice (some ⟨w.heap.size, 0, none⟩) (n + m) (grownCap w (n + m) old 5)) (xs ++ news) ∧
    w.grownBy (w.drew.alloc (.cells ((xs.map bv).toArray ++ (news.map bv).toArray ++ Builtin.zeroCells (Value.int .u8 0).cells (grownCap w (n + m) old 5 - (n + m))) 5)) row := by
  have hlen : (xs ++ news).length = n + m := by rw [List.length_append, hn, hm]
  have hge := grownCap_ge w (n + m) old 5
  refine ⟨⟨by simp, .inr ⟨w.heap.size, _, _, by rw [hlen], Nat.zero_le _, heap_alloc_last w.drew _, by omega, grownCap_le_maxLen w (n + m) old 5 h63, ?_, ?_⟩⟩, (gr_drew w row).trans (World.grownBy_alloc _ _ _)⟩
  · have hz : (Value.int .u8 0).cells.size = 1 := rfl
    simp only [Array.size_append, List.size_toArray, List.length_map, size_zeroCells, hn, hm, hz]
    omega
  · simp only [Array.toList_append, hlen, Nat.mul_one]
    rw [← List.map_append]
    refine (List.take_append_of_le_length ?_).trans (List.take_of_length_le ?_) <;> rw [List.length_map, hlen] <;> exact Nat.le_refl _
theorem app_byte_w {w : World} {v : Value} {xs : List UInt8} (h : Row w v xs) (b : UInt8) (hsz : xs.length + 1 ≤ 180000000000000) :
    ∃ v' w', (Builtin.append_ #[53, 53] 53 #[v, .slice (some ⟨w.heap.size, 0, none⟩) 1 1]).run Try.prog (w.alloc (.cells #[.int .u8 b.toNat] 5)) = .ok v' w' ∧ Row w' v' (xs ++ [b]) ∧ w.grownBy w' v.ownBlock ∧ (v'.ownBlock = v.ownBlock ∨ ∃ k, v'.ownBlock = some k ∧ w.heap.size ≤ k) := by
  by_cases hsm : xs.length + 1 ≤ 140737488355328
  · exact app_byte h b hsm
  obtain ⟨i, h1, h2, h3, h4⟩ := info5
  have ga := World.grownBy_alloc w (.cells #[.int .u8 b.toNat] 5) none
  have h' : Row (w.alloc (.cells #[.int .u8 b.toNat] 5)) v xs := h.fr (S := fun _ => False) (Fr.ofNone ga) (fun _ _ e => e)
  have hnews : ∀ j u, ([b].map bv)[j]? = some u → (w.alloc (.cells #[.int .u8 b.toNat] 5)).cell? ((⟨w.heap.size, 0, none⟩ : Addr).add j) = some u := fun j u hu => by
    rw [Addr.add_mid, Nat.zero_add]
    exact (Has.newA w #[.int .u8 b.toNat] 5).cellv j _ hu
  have fin : ∀ w' : World, (w.alloc (.cells #[.int .u8 b.toNat] 5)).grownBy w' v.ownBlock → w.grownBy w' v.ownBlock := fun w' r3 =>
    ⟨r3.os.trans ga.os, r3.tape.trans ga.tape, r3.output.trans ga.output, Nat.le_trans ga.size r3.size, fun k hk hne => by rw [r3.block k (by have := ga.size; omega) hne, ga.block k hk (by simp)]⟩
  obtain ⟨hl, h5⟩ := h'
  rcases h5 with ⟨rfl, h0⟩ | ⟨g, cap, cur, rfl, hbg, hg, hnc, hcm, hcs, htake⟩
  · omega
  · have hcs' : cur.size = cap := by simpa using hcs
    have htk : cur.toList.take xs.length = xs.map bv := by simpa using htake
    by_cases hroom : xs.length + 1 ≤ cap
    · have hr := run_append_room (P := Try.prog) (w.alloc (.cells #[.int .u8 b.toNat] 5)) 53 53 5 i under53 h1 g xs.length cap cur hg ⟨w.heap.size, 0, none⟩ 1 1 ([b].map bv) (by rw [h2]; rfl) hnews (fun u hu => by simp at hu; subst hu; rfl) hroom (by rw [h2]; simp; omega)
      rw [h2, Nat.mul_one] at hr
      obtain ⟨r2, r3⟩ := row_room (news := [b]) (m := 1) hg hcm hcs' htk rfl rfl hroom
      exact ⟨_, _, hr, r2, fin _ r3, .inl rfl⟩
    · have holds : ∀ j u, (xs.map bv)[j]? = some u → (w.alloc (.cells #[.int .u8 b.toNat] 5)).cell? ((⟨g, 0, none⟩ : Addr).add j) = some u := World.ownsRow.cells (base := 0) (e := 5) (size := 1) ⟨hl, .inr ⟨g, cap, cur, rfl, hbg, hg, hnc, hcm, hcs, htake⟩⟩ (g := g) rfl
      have hr := run_append_grow (P := Try.prog) (w.alloc (.cells #[.int .u8 b.toNat] 5)) 53 53 5 i (.int .u8 0) under53 h1 h4 ⟨g, 0, none⟩ xs.length cap (xs.map bv) (by rw [h2]; simp) holds ⟨w.heap.size, 0, none⟩ 1 1 ([b].map bv) (by rw [h2]; rfl) hnews (by omega) (by omega) (by rw [h3]; exact growslice_fits_wide (by omega) (by omega))
      obtain ⟨r2, r3⟩ := row_grown (w.alloc (.cells #[.int .u8 b.toNat] 5)) xs.length 1 cap xs [b] rfl rfl (by unfold maxLen; omega) (some g)
      exact ⟨_, _, hr, r2, fin _ r3, .inr ⟨w.heap.size + 1, by simp [Value.ownBlock, World.size_alloc], by omega⟩⟩
theorem app_str_w {w : World} {v : Value} {xs : List UInt8} (h : Row w v xs) (s : ByteArray) (hsz : xs.length + s.size ≤ 180000000000000) (hs : s.size ≤ 140737488355328) :
    ∃ v' w', (Builtin.append_ #[53, 9] 53 #[v, .string s]).run Try.prog w = .ok v' w' ∧ Row w' v' (xs ++ sl s) ∧ w.grownBy w' v.ownBlock ∧ (v'.ownBlock = v.ownBlock ∨ ∃ k, v'.ownBlock = some k ∧ w.heap.size ≤ k) := by
  by_cases hsm : xs.length + s.size ≤ 140737488355328
  · exact app_str h s hsm
  obtain ⟨i, h1, h2, h3, h4⟩ := info5
  obtain ⟨hl, h5⟩ := h
  rcases h5 with ⟨rfl, h0⟩ | ⟨g, cap, cur, rfl, hbg, hg, hnc, hcm, hcs, htake⟩
  · omega
  · have hcs' : cur.size = cap := by simpa using hcs
    have htk : cur.toList.take xs.length = xs.map bv := by simpa using htake
    by_cases hroom : xs.length + s.size ≤ cap
    · have hr := Lib.run_append_room_string (P := Try.prog) w 53 9 53 5 i under53 under9 h1 h2 g xs.length cap cur hg s hroom (by omega)
      rw [sl_cells] at hr
      obtain ⟨r2, r3⟩ := row_room (news := sl s) (m := s.size) hg hcm hcs' htk rfl (sl_len s) hroom
      exact ⟨_, _, hr, r2, r3, .inl rfl⟩
    · have holds : ∀ j u, (xs.map bv)[j]? = some u → w.cell? ((⟨g, 0, none⟩ : Addr).add j) = some u := World.ownsRow.cells (w := w) (base := 0) (e := 5) (size := 1) ⟨hl, .inr ⟨g, cap, cur, rfl, hbg, hg, hnc, hcm, hcs, htake⟩⟩ (g := g) rfl
      have hr := Lib.run_append_grow_string (P := Try.prog) w 53 9 53 5 i (.int .u8 0) under53 under9 h1 h4 ⟨g, 0, none⟩ xs.length cap (xs.map bv) (by rw [h2]; simp) holds s (by omega) (by omega) (by rw [h3]; exact growslice_fits_wide (by omega) (by omega))
      rw [sl_cells] at hr
      obtain ⟨r2, r3⟩ := row_grown w xs.length s.size cap xs (sl s) rfl (sl_len s) (by unfold maxLen; omega) (some g)
      exact ⟨_, _, hr, r2, r3, .inr ⟨_, rfl, Nat.le_refl _⟩⟩
end Go.Proofs.Ytkddfnglonofoaa
