import Derived.Test.YtjbkoablleneeaaGreatDoorX21
/- rows that are written into; bytes of which one is turned -/
namespace Go.Proofs.YtjbkoablleneeaaGreatDoor
open Go Go.RowKit

theorem bytes_frozen (W : World) (s : ByteArray) (j : Nat) (hj : j < s.size) : (Lib.bytesWorld W 5 s).frozen? ⟨W.heap.size, j, none⟩ = false := by
  have h := Lib.bytesWorld_at_new W 5 s
  have hs : s.size ≤ (Lib.bytesCells W 5 s).size := by
    have e : s.data.size = s.size := rfl
    simp only [Lib.bytesCells, Array.size_append, Array.size_map, e]; omega
  simp only [World.frozen?, h]
  simp; omega
theorem row_set (W : World) (a : ByteArray) (i : Nat) (v : UInt8) (c : Nat) (hc : a.size ≤ c) (hi : i < a.size) : BytesOf ((Lib.bytesWorld W 5 a).setCell ⟨W.heap.size, i, none⟩ (bv v)) (some ⟨W.heap.size, 0, none⟩) a.size c ((sl a).set i v) ∧ W.grownBy ((Lib.bytesWorld W 5 a).setCell ⟨W.heap.size, i, none⟩ (bv v)) none := by
  refine ⟨⟨by rw [List.length_set, sl_len], hc, fun _ => ⟨_, 0, rfl, fun j x hx => ?_⟩⟩, gr_new (gr_bytes W a) (gr_set _ _ _ _) (Nat.le_refl _)⟩
  rw [Nat.zero_add]
  have h := Lib.bytesWorld_at_new W 5 a
  by_cases hj : i = j
  · subst hj
    rw [List.getElem?_set_self (by rw [sl_len]; exact hi)] at hx
    obtain rfl := Option.some.inj hx
    have hs : i < (Lib.bytesCells W 5 a).size := by
      have e : a.data.size = a.size := rfl
      simp only [Lib.bytesCells, Array.size_append, Array.size_map, e]; omega
    simp [World.cell?, World.setCell, Array.getElem?_modify, h, hs]
  · rw [List.getElem?_set_ne hj] at hx
    have := bytes_cells W a j x hx
    rw [← this]
    have hb : ∀ (W' : World) (b : Nat), i ≠ j → (W'.setCell ⟨b, i, none⟩ (bv v)).cell? ⟨b, j, none⟩ = W'.cell? ⟨b, j, none⟩ := fun W' b hij => by
      simp only [World.cell?, World.setCell, Array.getElem?_modify, if_true]
      cases hq : W'.heap[b]? with
      | none => rfl
      | some o => cases o <;> simp [hij]
    exact hb _ _ hj
theorem c_xor (x y : UInt8) : bits .xor .u8 (x.toNat : Int) (y.toNat : Int) = ((x ^^^ y).toNat : Int) := by
  rw [u8_xor_nat _ _ (by exact x.toNat_lt) (by exact y.toNat_lt), UInt8.toNat_xor]
namespace Pk
theorem ens_set : ∀ (M : List En) (i : Nat) (e : En), i < M.length → ens (M.set i e) = (ens M).take (i * 8) ++ en e ++ (ens M).drop (i * 8 + 8)
  | [], i, e, h => by simp at h
  | x :: r, 0, e, _ => by
    have h1 : ens (x :: r) = en x ++ ens r := rfl
    have h2 : ens (e :: r) = en e ++ ens r := rfl
    rw [List.set_cons_zero, h1, h2, Nat.zero_mul, List.take_zero, List.nil_append, Nat.zero_add, List.drop_append_of_le_length (by rw [en_len]; exact Nat.le_refl _), List.drop_of_length_le (by rw [en_len]; exact Nat.le_refl _), List.nil_append]
  | x :: r, i + 1, e, h => by
    have h1 : ens (x :: r) = en x ++ ens r := rfl
    have h2 : ens (x :: r.set i e) = en x ++ ens (r.set i e) := rfl
    have ih := ens_set r i e (by simpa using h)
    rw [List.set_cons_succ, h2, ih, h1]
    have e1 : (i + 1) * 8 = (en x).length + i * 8 := by rw [en_len]; omega
    rw [e1, List.take_length_add_append, show (en x).length + i * 8 + 8 = (en x).length + (i * 8 + 8) by omega, List.drop_length_add_append]
    simp only [List.append_assoc]
/-- an entry of a row of the call's own is written over -/
theorem Rw.put {W : World} {base g n c : Nat} {M : List En} (h : Rw W base (.slice (some ⟨g, 0, none⟩) n c) M) (i : Nat) (hi : i < M.length) (e : En) :
    W.there g (i * 8) 8 ∧ Rw (W.setCells g (i * 8) (en e)) base (.slice (some ⟨g, 0, none⟩) n c) (M.set i e) ∧ W.grownBy (W.setCells g (i * 8) (en e)) (some g) := by
  obtain ⟨h1, h2⟩ := h
  rcases h2 with ⟨q1, _⟩ | ⟨g', cap, cur, q1, hb, hheap, h3, h4, h5, h6⟩
  · cases q1
  injection q1 with z1 z2 z3
  injection z1 with z4
  injection z4 with z5
  subst z5 z2 z3
  have hh : Has W g cur.toList 35 := by unfold Has; simpa using hheap
  have hcl : cur.toList.length = c * 8 := by rw [← h5]; exact Array.length_toList
  have hlen : M.length * 8 ≤ cur.toList.length := by omega
  refine ⟨hh.there _ _ (by omega), ?_, gr_sets _ _ _ _⟩
  have hs := hh.setCells (en e) (i * 8)
  rw [over_eq _ _ _ (by rw [en_len]; omega), en_len] at hs
  unfold Rw
  rw [List.length_set]
  refine ⟨by rw [ens_len, List.length_set], .inr ⟨g, c, (cur.toList.take (i * 8) ++ en e ++ cur.toList.drop (i * 8 + 8)).toArray, rfl, hb, hs, h3, h4, ?_, ?_⟩⟩
  · simp only [List.size_toArray, List.length_append, List.length_take, List.length_drop, en_len]
    omega
  · rw [ens_set M i e hi, ← h6]
    show ((cur.toList.take (i * 8) ++ en e ++ cur.toList.drop (i * 8 + 8)).toArray.toList).take (M.length * 8) = _
    have e1 : M.length * 8 = (cur.toList.take (i * 8) ++ en e).length + (M.length * 8 - (i * 8 + 8)) := by
      rw [List.length_append, List.length_take, en_len]; omega
    rw [List.toList_toArray]
    conv => lhs; rw [e1, List.take_length_add_append]
    rw [List.take_take, List.drop_take, show min (i * 8) (M.length * 8) = i * 8 by omega]
def m5 : En := ⟨-5, 0, 0, 0, [], [], 0, []⟩
theorem set_upto (L : List En) (i : Nat) (hi : i < L.length) : (List.replicate i m5 ++ L.drop i).set i m5 = List.replicate (i + 1) m5 ++ L.drop (i + 1) := by
  rw [List.set_append_right _ _ (by simp), List.length_replicate, Nat.sub_self, List.drop_eq_getElem_cons hi, List.set_cons_zero, List.replicate_succ', List.append_assoc, List.singleton_append]
/-- where the loop that writes over what was read stands -/
structure Ov (w W : World) (vk : Value) (ba' : Nat) (va : Value) (L : List En) (i : Nat) : Prop where
  k : Rw W w.heap.size vk (List.replicate i m5 ++ L.drop i)
  a : Rw W ba' va L
  lt : ∀ g, vk.ownBlock = some g → g < ba'
  gr : w.grownBy W none
theorem Ov.step {w W : World} {g n c ba' : Nat} {va : Value} {L : List En} {i : Nat} (h : Ov w W (.slice (some ⟨g, 0, none⟩) n c) ba' va L i) (hi : i < L.length) : W.there g (i * 8) 8 ∧ Ov w (W.setCells g (i * 8) (en m5)) (.slice (some ⟨g, 0, none⟩) n c) ba' va L (i + 1) := by
  have hl : (List.replicate i m5 ++ L.drop i).length = L.length := by simp; omega
  obtain ⟨h1, h2, h3⟩ := h.k.put i (by omega) m5
  rw [set_upto L i hi] at h2
  exact ⟨h1, h2, h.a.fr (Fr.of h3) (fun k hk q => by have := (h.a.own hk).1; have := Option.some.inj q; have := h.lt g rfl; omega), h.lt, gr_new h.gr h3 (h.k.own rfl).1⟩
theorem Ov.form {w W : World} {a : Option Addr} {n c ba' : Nat} {va : Value} {L : List En} {i : Nat} (h : Ov w W (.slice a n c) ba' va L i) (hi : i < L.length) : ∃ g, a = some ⟨g, 0, none⟩ := by
  have hl : (List.replicate i m5 ++ L.drop i).length = L.length := by simp; omega
  obtain ⟨g, c', e, _⟩ := own_any h.k (by rw [hl]; omega)
  injection e with e1
  exact ⟨g, e1⟩
set_option maxRecDepth 100000 in
/-- one more, and what came of the others -/
theorem Ov.app {w W : World} {vk : Value} {ba' : Nat} {va : Value} {L : List En} (h : Ov w W vk ba' va L L.length) (hb : w.heap.size ≤ W.heap.size) (hn : L.length ≤ 10000000) :
    ∃ g c W', (Builtin.append_ #[22, 22] 22 #[vk, .slice (some ⟨W.heap.size, 0, none⟩) 1 1]).run Tryz.prog (W.alloc (.cells #[Value.int IntKind.i64 (-5), Value.int IntKind.u64 0, Value.int IntKind.u64 0, Value.int IntKind.i64 0, Value.string { data := #[] }, Value.string { data := #[] }, Value.int IntKind.u64 0, Value.string { data := #[] }] 35)) = .ok (.slice (some ⟨g, 0, none⟩) (L.length + 1) c) W' ∧ W'.cell? ⟨g, L.length * 8, none⟩ = some (iv (-5)) ∧ Rw W' ba' va L ∧ w.grownBy W' none := by
  have hk := h.k
  rw [List.drop_length, List.append_nil] at hk
  obtain ⟨g, c, W', r1, r2, r3⟩ := app35 m5 hk hb (by rw [List.length_replicate]; omega)
  rw [List.length_replicate] at r1 r2
  refine ⟨g, c, W', r1, ?_, h.a.fr (Fr.of r3) (fun k hk' q => by have := (h.a.own hk').1; have := h.lt k q; omega), fr_mine h.gr (Fr.of r3) (fun i q => (h.k.own q).1)⟩
  obtain ⟨a1, c1, e1, es, _⟩ := r2.es
  have hl : (List.replicate L.length m5 ++ [m5]).length = L.length + 1 := by simp
  rw [hl] at e1 es
  injection e1 with z1 z2 z3
  subst z1
  have := es.cells (i := L.length) (x := m5) (by rw [List.getElem?_append_right (by simp), List.length_replicate, Nat.sub_self]; rfl) 0 _ rfl
  rwa [Nat.zero_add, Nat.add_zero] at this
theorem reads_b (T : ByteArray) (W : World) (hk : Kc W) (hr : RK W) (h4 : 4 ≤ W.heap.size) (ht : T.size ≤ 1073741824) :
    Calls Tryz.prog 13 #[.string T] W fun e w' => e = .returned (.bool true) ∧ W.grownBy w' none := by
  have := reads_c (sl T) W hk hr h4 (by rw [sl_len]; exact ht)
  rwa [ba_sl] at this
/-- what all calls of the law need -/
structure Wk (W : World) : Prop where
  k : Kc W
  r : RK W
  h : 4 ≤ W.heap.size
theorem Wk.kept {W W' : World} (h : Wk W) (g : W.grownBy W' none) : Wk W' := ⟨h.k.kept g (by simp), h.r.kept g, Nat.le_trans h.h g.size⟩
end Pk
end Go.Proofs.YtjbkoablleneeaaGreatDoor

