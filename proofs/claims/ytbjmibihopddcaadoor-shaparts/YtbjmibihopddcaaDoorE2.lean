import Derived.Test.YtbjmibihopddcaaDoorE1
namespace Go.Proofs.YtbjmibihopddcaaDoor
open Go Go.RowKit

theorem add_zero' (a : Addr) : a.add 0 = a := by
  unfold Addr.add
  split <;> simp_all
theorem sl_h (a : Option Addr) (n c p : Nat) (hp : p ≤ c) (W : World) : (Instr.slice 28 (.slice a n c) none (some (.int .i64 (p : Int))) none).run Tryd.prog W = .ok (.slice a p c) W := by
  have z : (sizeOf (Tryd.prog.elem 28)).run Tryd.prog W = .ok 1 W := by kernel_rfl
  rw [run_slice_h W 28 a n c (by kernel_rfl) .i64 p (by omega) (by omega), z]
  have e : a.map (·.add (0 * 1)) = a := by cases a <;> simp [add_zero']
  simp only [Result.andThen, sliced, e, Int.toNat_natCast, Nat.sub_zero, ite_self]
theorem sl_l (a : Option Addr) (n c p : Nat) (hp : p ≤ n) (hc : n ≤ c) : ∃ A1, (∀ W : World, (Instr.slice 28 (.slice a n c) (some (.int .i64 (p : Int))) none none).run Tryd.prog W = .ok (.slice A1 (n - p) (c - p)) W) ∧ ∀ (w : World) (q : List UInt8), BytesOf w a n c q → BytesOf w A1 (n - p) (c - p) (q.drop p) := by
  refine ⟨if c = p then a else a.map (·.add (p * 1)), fun W => ?_, fun w q h => ⟨by rw [List.length_drop, h.len], by omega, fun hn => ?_⟩⟩
  · have z : (sizeOf (Tryd.prog.elem 28)).run Tryd.prog W = .ok 1 W := by kernel_rfl
    rw [run_slice_l W 28 a n c (by kernel_rfl) .i64 p (by omega) (by omega), z]
    simp only [Result.andThen, sliced, Int.toNat_natCast]
  · obtain ⟨B, o, rfl, h3⟩ := h.at_ (by omega)
    rw [if_neg (by omega)]
    refine ⟨B, o + p, by simp [Addr.add_mid], fun j x hx => ?_⟩
    rw [List.getElem?_drop] at hx
    rw [Nat.add_assoc]; exact h3 _ _ hx
theorem bytes_take {w : World} {a : Option Addr} {n c p : Nat} {q : List UInt8} (h : BytesOf w a n c q) (hp : p ≤ n) : BytesOf w a p c (q.take p) := by
  refine ⟨by rw [List.length_take, h.len]; omega, by have := h.cap; omega, fun hn => ?_⟩
  obtain ⟨B, o, e, h3⟩ := h.at_ (by omega)
  refine ⟨B, o, e, fun j x hx => ?_⟩
  rw [List.getElem?_take] at hx
  split at hx
  · exact h3 j x hx
  · cases hx
theorem new_rowb (w1 : World) (L : List UInt8) (C : Array Value) (hC : C.size = 32) (hL : L.length = 32) (w2 : World) (h2 : (w1.alloc (.cells C 25)).setCells w1.heap.size 0 (L.map bv) = w2) :
    Has w2 w1.heap.size (L.map bv) 25 ∧ w1.grownBy w2 none := by
  subst h2
  refine ⟨(Has.newA w1 C 25).setAll _ (by simp [hC, hL]), ?_⟩
  exact gr_new (World.grownBy_alloc _ _ _) (gr_sets _ _ _ _) (Nat.le_refl _)
theorem gr_ad (w : World) (o : Obj) : w.grownBy (w.alloc o).drew none := (World.grownBy_alloc w o none).trans (gr_drewN _ 1 none)
theorem parts3 (w : World) (a0 A1 : Option Addr) (p c0 n1 c1 : Nat) (q1 q3 : List UInt8) (hA : BytesOf w a0 p c0 q1) (hB : BytesOf w A1 n1 c1 q3) : Parts ((w.alloc (.cells #[.slice a0 p c0, .slice none 0 0, .slice A1 n1 c1] 28)).drew) (some ⟨w.heap.size, 0, none⟩) 3 [q1, [], q3] :=
  parts_three _ _ a0 none A1 p 0 n1 c0 0 c1 28 q1 [] q3 (Has.newA w #[.slice a0 p c0, .slice none 0 0, .slice A1 n1 c1] 28) (hA.kept (gr_ad _ _)) (bytes_none _ _ _) (hB.kept (gr_ad _ _))
theorem Parts.kept {w w' : World} {a : Option Addr} {n : Nat} {ps : List (List UInt8)} (h : Parts w a n ps) (hg : w.grownBy w' none) : Parts w' a n ps := by
  refine ⟨h.len, fun hn => ?_⟩
  obtain ⟨B, o, e, h3⟩ := h.at_ hn
  refine ⟨B, o, e, fun j q hq => ?_⟩
  obtain ⟨a', n', c', h4, h5⟩ := h3 j q hq
  exact ⟨a', n', c', hg.cell h4 (by simp), h5.kept hg⟩
theorem range_kept {w w' : World} {b : Nat} {cs : List Value} (h : w.rangeAt b 0 cs) (hg : w.grownBy w' none) : w'.rangeAt b 0 cs := fun j v hv => hg.cell (h j v hv) (by simp)
theorem PS.app {w w' : World} {X bh bk : Nat} {S : List UInt8} {T1 T2 : List UInt8} (q : PS w w' X bh bk S (.slice none 0 0) T1 T2 []) (a : Option Addr) (p c : Nat) (xs : List UInt8) (hb : BytesOf w' a p c xs) (hnil : a = none → c = 0) (hp : p ≤ 140737488355328) :
    ∃ ax cx w8, (Builtin.append_ #[28, 28] 28 #[.slice none 0 0, .slice a p c]).run Tryd.prog w' = .ok (.slice ax p cx) w8 ∧ Keep (PS w w8 X bh bk S (.slice ax p cx) T1 T2 xs) := by
  obtain ⟨v', w8, hap, hown, hgr⟩ := app28 w' w'.heap.size (.slice none 0 0) 0 [] a p c xs (World.ownsRow_nil _ _ _ _) hb hnil (by omega) (Nat.le_refl _)
  simp only [List.nil_append, Nat.zero_add] at hown
  obtain ⟨ax, cx, rfl, hby, _⟩ := own_bytes hown
  have hgr' : w'.grownBy w8 none := hgr
  have q2 := q.grow hgr'
  have hlt := hown.lt
  have hne : ∀ j, j < w'.heap.size → (Value.slice ax p cx).ownBlock ≠ some j := fun j hj e => by have := (hlt j e).1; omega
  have hX := q.whole.lt
  have hh := q.h.lt
  have hk := q.k.lt
  refine ⟨ax, cx, w8, hap, ⟨q2.whole, q2.g, q2.kc, q2.h, q2.k, ?_, q2.hX, q2.hbh, q2.hbk, q2.n1, q2.n2, q2.n3, hne _ hX, hne _ hh, hne _ hk⟩⟩
  rw [hby.len]
  obtain ⟨e1, e2⟩ := hown
  refine ⟨e1, ?_⟩
  rcases e2 with e2 | ⟨g, cap, cur, e, hb', r⟩
  · exact .inl e2
  · exact .inr ⟨g, cap, cur, e, by have := q.g.size; omega, r⟩

theorem ps_and {w w' w2 : World} {X bh bk : Nat} {S : List UInt8} {vx : Value} {T1 T2 xs : List UInt8} (h : PS w w' X bh bk S vx T1 T2 xs ∧ w'.rangeAt X 0 (S.map bv)) (hg : w'.grownBy w2 none) : PS w w2 X bh bk S vx T1 T2 xs ∧ w2.rangeAt X 0 (S.map bv) :=
  ⟨h.1.grow hg, range_kept h.2 hg⟩
theorem parts2 (w : World) (a2 ax : Option Addr) (n2 c2 p cx : Nat) (q1 q2 : List UInt8) (hA : BytesOf w a2 n2 c2 q1) (hB : BytesOf w ax p cx q2) : Parts (w.alloc (.cells #[.slice a2 n2 c2, .slice ax p cx] 28)) (some ⟨w.heap.size, 0, none⟩) 2 [q1, q2] :=
  parts_two _ _ a2 ax n2 p c2 cx 28 q1 q2 (Has.newA w #[.slice a2 n2 c2, .slice ax p cx] 28) (hA.kept (World.grownBy_alloc _ _ _)) (hB.kept (World.grownBy_alloc _ _ _))
/-- the first i bytes turned -/
def xTo (xs : List UInt8) (i : Nat) : List UInt8 := (xs.take i).map (· ^^^ 255) ++ xs.drop i
theorem xTo_len (xs : List UInt8) (i : Nat) : (xTo xs i).length = xs.length := by
  simp only [xTo, List.length_append, List.length_map, List.length_take, List.length_drop]; omega
theorem xTo_get (xs : List UInt8) (i : Nat) (hi : i < xs.length) : (xTo xs i).getD i 0 = xs.getD i 0 := by
  simp only [xTo, List.getD]
  rw [List.getElem?_append_right (by simp; omega)]
  simp only [List.length_map, List.length_take, List.getElem?_drop]
  congr 2
  omega
theorem xTo_step (xs : List UInt8) (i : Nat) (hi : i < xs.length) (y : UInt8) (hy : xs.getD i 0 = y) : (xTo xs i).set i (y ^^^ 255) = xTo xs (i + 1) := by
  have e : xs.take (i + 1) = xs.take i ++ [y] := by
    rw [List.take_succ_eq_append_getElem hi, ← hy]; simp [List.getD, hi]
  have l : ((xs.take i).map (· ^^^ (255 : UInt8))).length = i := by simp; omega
  have e2 : xs.drop i = y :: xs.drop (i + 1) := by
    rw [List.drop_eq_getElem_cons hi, ← hy]; simp [List.getD, hi]
  rw [xTo, xTo, List.set_append_right _ _ (by omega), l, Nat.sub_self, e2, List.set_cons_zero, e, List.map_append]
  simp
theorem xor255 (y : UInt8) : bits .xor .u8 (y.toNat : Int) 255 = ((y ^^^ 255).toNat : Int) := by
  have := u8_xor_nat y.toNat 255 y.toNat_lt (by decide)
  rw [UInt8.toNat_xor]
  exact this
theorem PS.xcell {w w' : World} {X bh bk n c : Nat} {a : Option Addr} {S : List UInt8} {T1 T2 xs : List UInt8} (q : PS w w' X bh bk S (.slice a n c) T1 T2 xs) (i : Nat) (hi : i < n) : ∃ g, a = some ⟨g, 0, none⟩ ∧ w'.cell? ⟨g, i, none⟩ = some (.int .u8 (xs.getD i 0).toNat) ∧ w'.frozen? ⟨g, i, none⟩ = false := by
  have hx := q.xbytes
  rcases q.x.2 with ⟨e, h0⟩ | ⟨g, cap, cur, e, _, hheap, _⟩
  · injection e with _ e2 _; omega
  · injection e with e1 e2 e3
    subst e1
    obtain ⟨B, o, h1, h3⟩ := hx.2.1.at_ (by omega)
    have e' : g = B ∧ 0 = o := by simpa using h1
    obtain ⟨rfl, rfl⟩ := e'
    refine ⟨g, rfl, ?_, by simp [World.frozen?, hheap]⟩
    have hl : i < xs.length := by rw [hx.1]; exact hi
    have := h3 i xs[i] (List.getElem?_eq_getElem hl)
    rw [Nat.zero_add] at this
    rw [this]; simp [List.getD, hl]

set_option maxRecDepth 100000 in
set_option maxHeartbeats 40000000 in
theorem parts_any (a0 : Option Addr) (n0 c0 : Nat) (at_ : Int) (a2 : Option Addr) (n2 c2 : Nat) (text other : List UInt8) (w : World) (ht : BytesOf w a0 n0 c0 text) (hnil : a0 = none → c0 = 0) (ho : BytesOf w a2 n2 c2 other) (hk : Kc w) (hn0 : n0 ≤ 140737488355328) (hn2 : n2 ≤ 140737488355328) :
    Calls Tryd.prog 4 #[.slice a0 n0 c0, .int .i64 at_, .slice a2 n2 c2] w fun e w' => e = .returned (.bool true) ∧ w.grownBy w' none := by
  have H0 : Keep (BytesOf w a0 n0 c0 text ∧ (a0 = none → c0 = 0) ∧ BytesOf w a2 n2 c2 other ∧ Kc w) := ⟨ht, hnil, ho, hk⟩
  have hc0 := ht.cap
  clear ht hnil ho hk
  obtain ⟨d, hd⟩ : ∃ d, at_.tmod ((n0 : Int) + 1) = d := ⟨_, rfl⟩
  have hd1 : -(n0 : Int) ≤ d ∧ d ≤ n0 := by
    have h1 := Int.tmod_lt_of_pos at_ (b := (n0 : Int) + 1) (by omega)
    have h2 := Int.tmod_lt_of_pos (-at_) (b := (n0 : Int) + 1) (by omega)
    rw [Int.neg_tmod] at h2
    omega
  by_cases hneg : d < 0
  all_goals
    obtain ⟨p, hs0, hpn⟩ : ∃ p : Nat, (if d < 0 then d + n0 + 1 else d) = (p : Int) ∧ p ≤ n0 := ⟨(if d < 0 then d + n0 + 1 else d).toNat, by split <;> omega, by split <;> omega⟩
    have hB : decide (d < 0) = decide (d < 0) := rfl
    first | (rw [if_pos hneg] at hs0; replace hB : decide (d < 0) = true := by simpa using hneg) | (rw [if_neg hneg] at hs0; replace hB : decide (d < 0) = false := by simpa using hneg)
    go_enter Tryd.func4, Tryd.ntmps4
    go_wp2_with fail
    refine (alive_any _ H0.out.2.2.2).mono ?_
    rintro e w1 ⟨rfl, g1⟩
    have H1 : Keep (w.grownBy w1 none ∧ Kc w1) := ⟨g1, H0.out.2.2.2.kept g1 (by simp)⟩
    clear g1
    go_wp2_with fail
    have hsA := sl_h a0 n0 c0 p (by omega)
    obtain ⟨A1, hsB, hdrop⟩ := sl_l a0 n0 c0 p hpn hc0
    have HP : Keep (p ≤ n0 ∧ n0 ≤ 140737488355328 ∧ n2 ≤ 140737488355328 ∧ n0 ≤ c0) := ⟨hpn, hn0, hn2, hc0⟩
    have HD : Keep (∀ (w : World) (q : List UInt8), BytesOf w a0 n0 c0 q → BytesOf w A1 (n0 - p) (c0 - p) (q.drop p)) := ⟨hdrop⟩
    clear hpn hn0 hn2 hc0 hdrop hd1 hneg
    generalize n0 - p = n1 at hsB HD
    generalize c0 - p = c1 at hsB HD
    refine (of_any _ 1 1 [text] _ (parts_one w1 _ _ _ _ (H0.out.1.kept H1.out.1)) (H1.out.2.kept (World.grownBy_alloc _ _ none) (by simp)) (by decide) (by have := H0.out.1.len; have := HP.out; simp; omega)).mono ?_
    rintro e w3 ⟨rfl, g3⟩
    rw [show ([text] : List (List UInt8)).flatten = text by simp]
    have hsl := sha_len text
    generalize hSq : Sha.sha text = S at hsl ⊢
    have HSQ : Keep (Sha.sha text = S ∧ S.length = 32) := ⟨hSq, hsl⟩
    have heq := eq25 S hsl
    have H3 : Keep (w.grownBy w3 none ∧ Kc w3) := ⟨(H1.out.1.trans (World.grownBy_alloc _ _ _)).trans g3, (H1.out.2.kept (World.grownBy_alloc _ _ none) (by simp)).kept g3 (by simp)⟩
    clear g3 hSq hsl H1
    go_wp2_with (refine wpList_store_mid rfl 25 _ _ rfl _ _ _ rfl rfl ((Has.newA w3 _ 25).there 0 _ (by rw [List.size_toArray, List.length_map, HSQ.out.2]; decide)) (by rw [List.size_toArray, List.length_map, HSQ.out.2]; exact size25) (bytes_one _) ?_)
    generalize hw4 : World.setCells _ _ _ _ = w4
    have H4 : Keep (Has w4 w3.heap.size (S.map bv) 25 ∧ w.grownBy w4 none ∧ Kc w4 ∧ w.heap.size ≤ w3.heap.size) := ⟨by
      have h := new_rowb w3 S _ rfl HSQ.out.2 w4 hw4
      exact ⟨h.1, H3.out.1.trans h.2, H3.out.2.kept h.2 (by simp), H3.out.1.size⟩⟩
    clear hw4 H3
    generalize w3.heap.size = X at H4 ⊢
    have hrg := H4.out.1.range
    have hu25 := under25
    have hi25 : (Tryd.prog.info? 25).map (·.size) = some (S.map bv).length := by rw [List.length_map, HSQ.out.2]; exact size25
    have HT3 : Keep (([text.take p, [], text.drop p] : List (List UInt8)).flatten = text) := ⟨by simp⟩
    simp only [Act.put]
    have HB4 : Keep (BytesOf w4 a0 p c0 (text.take p) ∧ BytesOf w4 A1 n1 c1 (text.drop p)) := ⟨bytes_take (H0.out.1.kept H4.out.2.1) HP.out.1, HD.out _ _ (H0.out.1.kept H4.out.2.1)⟩
    have HLN : Keep (text.length ≤ 140737488355328) := ⟨by rw [H0.out.1.len]; exact HP.out.2.1⟩
    go_region_held (fun w' => w'.rangeAt X 0 (S.map bv)) (first | assumption | (exact World.rangeAt_alloc (by assumption) _) | (simp only [World.rangeAt_drew]; assumption))
      ((go_at_call 10
        clear hu25 hi25
        refine (of_any _ 3 3 [text.take p, [], text.drop p] _ (parts3 w4 a0 A1 p c0 n1 c1 _ _ HB4.out.1 HB4.out.2) (H4.out.2.2.1.kept (gr_ad _ _) (by simp)) (by decide) (by rw [HT3.out]; have := HLN.out; omega)).mono ?_
        rintro e w5 ⟨rfl, g5⟩
        rw [HT3.out, HSQ.out.1]
        have hrg5 := range_kept (range_kept hrg (gr_ad _ _)) g5))
    have H5 : Keep (Has w5 X (S.map bv) 25 ∧ w.grownBy w5 none ∧ Kc w5 ∧ w.heap.size ≤ X) := ⟨by
      have g := (gr_ad w4 _).trans g5
      exact ⟨H4.out.1.kept g (by simp), H4.out.2.1.trans g, H4.out.2.2.1.kept g (by simp), H4.out.2.2.2⟩⟩
    clear g5 hrg5 hrg H4 HB4
    go_wp2_with fail
    refine (new_any _).mono ?_
    rintro e w6 ⟨rfl, h6, g6⟩
    go_wp2_with fail
    refine (new_any _).mono ?_
    rintro e w7 ⟨rfl, h7, g7⟩
    have H7 : Keep (PS w w7 X w5.heap.size w6.heap.size S (.slice none 0 0) [] [] []) := ⟨by
      have hx := H5.out.1.lt
      have hl := h6.lt
      have g57 := g6.trans g7
      have h5s := H5.out.2.1.size
      have h6s := g6.size
      exact ⟨H5.out.1.kept g57 (by simp), H5.out.2.1.trans g57, H5.out.2.2.1.kept g57 (by simp), h6.kept g7 (by simp), h7, World.ownsRow_nil _ _ _ _, H5.out.2.2.2, h5s, by omega, by omega, by omega, by omega, (fun e => by cases e), (fun e => by cases e), (fun e => by cases e)⟩⟩
    clear h6 g6 h7 g7 H5
    generalize w5.heap.size = bh at H7 ⊢
    generalize w6.heap.size = bk at H7 ⊢
    have hw0 : 0 < w.heap.size := H0.out.2.2.2.lt
    have hbh : (0 : Nat) ≠ bh := by have := H7.out.hbh; omega
    have hbk : (0 : Nat) ≠ bk := by have := H7.out.hbk; omega
    obtain ⟨ax, cx, w8, hap, H8⟩ := H7.out.app a0 p c0 (text.take p) (bytes_take (H0.out.1.kept H7.out.g) HP.out.1) H0.out.2.1 (by have := HP.out; omega)
    have HAP : Keep ((Builtin.append_ #[28, 28] 28 #[.slice none 0 0, .slice a0 p c0]).run Tryd.prog w7 = .ok (.slice ax p cx) w8) := ⟨hap⟩
    clear hap H7
    go_wp2_with (at_builtin; refine wpList_append_run _ rfl _ _ 28 rfl _ _ rfl rfl HAP.out ?_)
    have HTL : Keep ((text.take p).length = p) := ⟨by rw [List.length_take, H0.out.1.len]; have := HP.out.1; omega⟩
    refine (write_any bh ax p cx [] (text.take p) w8 H8.out.h H8.out.kc hbh (H8.out.xbytes.2.2.2 bh H8.out.n5) (by rw [HTL.out]; have := HP.out; simp; omega)).mono ?_
    rintro e w9 ⟨rfl, h9, g9⟩
    have H9 : Keep (PS w w9 X bh bk S (.slice ax p cx) (text.take p) [] (text.take p)) := ⟨H8.out.wh hw0 h9 g9⟩
    clear h9 g9 H8 HAP
    go_wp2_with fail
    refine (write_any bk a2 n2 c2 [] other w9 H9.out.k H9.out.kc hbk (H0.out.2.2.1.apart H9.out.g H9.out.hbk) (by rw [H0.out.2.2.1.len]; have := HP.out; simp; omega)).mono ?_
    rintro e w10 ⟨rfl, h10, g10⟩
    have H10 : Keep (PS w w10 X bh bk S (.slice ax p cx) (text.take p) other (text.take p)) := ⟨H9.out.wk hw0 h10 g10⟩
    clear h10 g10 H9
    go_wp2_with fail
    obtain ⟨S1, hS1⟩ : ∃ x, Sha.sha (text.take p) = x := ⟨_, rfl⟩
    have HS1 : Keep (Sha.sha (text.take p) = S1) := ⟨hS1⟩
    have heq1 := eq25 S1 (by rw [← hS1]; exact sha_len _)
    have HF1 : Keep (([text.take p] : List (List UInt8)).flatten = text.take p) := ⟨by simp⟩
    have hP10 : PS w w10 X bh bk S (.slice ax p cx) (text.take p) other (text.take p) := H10.out
    clear hS1
    go_region_held (fun w' => PS w w' X bh bk S (.slice ax p cx) (text.take p) other (text.take p))
      (first | assumption | (exact PS.grow (by assumption) (gr_drewN _ 1 none)) | (exact PS.grow (by assumption) (World.grownBy_alloc _ _ none)) | (exact PS.grow (by assumption) (gr_ad _ _)))
      (first
        | (go_at_call 9
           have hp := ‹PS w _ X bh bk S (.slice ax p cx) (text.take p) other (text.take p)›
           refine (sum_any bh (text.take p) _ hp.h hp.kc (by rw [HTL.out]; have := HP.out; omega)).mono ?_
           rintro e w12 ⟨rfl, gS⟩
           rw [HS1.out]
           have hp2 := hp.grow gS
           clear hp)
        | (go_at_call 10
           have hp := ‹PS w _ X bh bk S (.slice ax p cx) (text.take p) other (text.take p)›
           refine (of_any _ 1 1 [text.take p] _ ?_ hp.kc (by decide) (by rw [HF1.out, HTL.out]; have := HP.out; omega)).mono ?_
           · first
               | exact parts_one _ _ _ _ _ (bytes_take (H0.out.1.kept hp2.g) HP.out.1)
               | exact (parts_one _ _ _ _ _ (bytes_take (H0.out.1.kept hp2.g) HP.out.1)).kept (gr_drewN _ 1 none)
               | exact (parts_one _ _ _ _ _ (bytes_take (H0.out.1.kept H10.out.g) HP.out.1)).kept gS
               | exact ((parts_one _ _ _ _ _ (bytes_take (H0.out.1.kept H10.out.g) HP.out.1)).kept (gr_drewN _ 1 none)).kept gS
           rintro e w13 ⟨rfl, g13⟩
           rw [HF1.out, HS1.out]
           have hp3 := hp.grow g13
           have H13 : Keep (PS w w13 X bh bk S (.slice ax p cx) (text.take p) other (text.take p)) := ⟨hp3⟩
           clear g13 hp))
    all_goals
      clear hp2 hp3 hP10 gS H10 heq1
      go_wp2_with fail
      go_loopw [11] (fun t w' => ∃ i : Nat, i ≤ p ∧ t = .int .i64 i ∧ Keep (PS w w' X bh bk S (.slice ax p cx) (text.take p) other (xTo (text.take p) i))) (fun t _ => p - (intOf t).toNat)
      case atStart => exact ⟨0, by omega, rfl, ⟨by have h := H13.out; simpa [xTo] using h⟩⟩
      case round =>
        obtain ⟨i, hi, rfl, hrel⟩ := hrel
        by_cases hli : i < p
        · obtain ⟨g, rfl, hc, hf⟩ := hrel.out.xcell i hli
          rw [xTo_get _ i (by rw [HTL.out]; exact hli)] at hc
          obtain ⟨y, hy⟩ : ∃ y, (text.take p).getD i 0 = y := ⟨_, rfl⟩
          rw [hy] at hc
          have HY : Keep ((text.take p).getD i 0 = y) := ⟨hy⟩
          have hx5 := xor255 y
          have hpb : p ≤ 140737488355328 := by have := HP.out; omega
          clear hy
          go_wp2
          refine ⟨⟨i + 1, by omega, by go_num, ⟨?_⟩⟩, ?_⟩
          · rw [← xTo_step _ i (by rw [HTL.out]; exact hli) y HY.out]
            exact hrel.out.setx hw0 i (y ^^^ 255) _ rfl
          · simp [intOf]; omega
        · obtain ⟨xs, hxs⟩ : ∃ x, xTo (text.take p) p = x := ⟨_, rfl⟩
          have H14 : Keep (PS w wr X bh bk S (.slice ax p cx) (text.take p) other xs ∧ xs.length = p) := ⟨by
            have hip : i = p := by omega
            have h := hrel.out
            rw [hip, hxs] at h
            exact h, by rw [← hxs, xTo_len, HTL.out]⟩
          clear hrel hxs
          go_wp2_with fail
          refine (write_any bk ax p cx other xs _ H14.out.1.k H14.out.1.kc hbk (H14.out.1.xbytes.2.2.2 bk H14.out.1.n6) (by rw [H14.out.2, H0.out.2.2.1.len]; have := HP.out; omega)).mono ?_
          rintro e w15 ⟨rfl, h15, g15⟩
          have H15 : Keep (PS w w15 X bh bk S (.slice ax p cx) (text.take p) (other ++ xs) xs) := ⟨H14.out.1.wk hw0 h15 g15⟩
          clear h15 g15
          go_wp2_with fail
          refine (write_any bh none 0 0 (text.take p) [] _ H15.out.h H15.out.kc hbh ⟨rfl, Nat.le_refl _, fun h => by omega⟩ (by rw [HTL.out]; have := HP.out; simp; omega)).mono ?_
          rintro e w16 ⟨rfl, h16, g16⟩
          have H16 : Keep (PS w w16 X bh bk S (.slice ax p cx) (text.take p ++ []) (other ++ xs) xs) := ⟨H15.out.wh hw0 h16 g16⟩
          clear h16 g16
          go_wp2_with fail
          refine (write_any bh A1 n1 c1 (text.take p ++ []) (text.drop p) _ H16.out.h H16.out.kc hbh ((HD.out _ _ H0.out.1).apart H16.out.g H16.out.hbh) (by have := HLN.out; simp; omega)).mono ?_
          rintro e w17 ⟨rfl, h17, g17⟩
          have H17 : PS w w17 X bh bk S (.slice ax p cx) text (other ++ xs) xs := by
            have h := H16.out.wh hw0 h17 g17
            have e : text.take p ++ [] ++ text.drop p = text := by simp
            rwa [e] at h
          clear h17 g17 H13 H15 H16
          go_wp2_with fail
          obtain ⟨S2, hS2⟩ : ∃ x, Sha.sha (other ++ xs) = x := ⟨_, rfl⟩
          have HS2 : Keep (Sha.sha (other ++ xs) = S2) := ⟨hS2⟩
          have heq2 := eq25 S2 (by rw [← hS2]; exact sha_len _)
          have HF2 : Keep (([other, xs] : List (List UInt8)).flatten = other ++ xs ∧ (other ++ xs).length ≤ 4611686018427387904) := ⟨by simp, by rw [List.length_append, H14.out.2, H0.out.2.2.1.len]; have := HP.out; omega⟩
          have hPR : PS w w17 X bh bk S (.slice ax p cx) text (other ++ xs) xs ∧ w17.rangeAt X 0 (S.map bv) := ⟨H17, H17.whole.range⟩
          have HI25 : Keep ((Tryd.prog.info? 25).map (·.size) = some (S.map bv).length) := ⟨by rw [List.length_map, HSQ.out.2]; exact size25⟩
          clear hS2 H17 H14
          refine wp_region_held_drew (S := fun w' => PS w w' X bh bk S (.slice ax p cx) text (other ++ xs) xs ∧ w'.rangeAt X 0 (S.map bv)) (by kernel_rfl) (ps_and hPR (gr_drewN _ 1 none)) (fun hHeld => ?_)
          refine wpAnyH_take (i := 0) (oi := _) (v := ?_) rfl (by kernel_rfl) (by kernel_rfl) (by kernel_rfl) (fun _ _ _ h => h) (Or.inl ⟨by rfl, ?_⟩) (by assumption) ?_
          rotate_left
          · (intro w hSw; go_simp; first | done | (with_reducible rfl))
          simp only [Act.put]
          refine wpAnyH_take (i := 2) (oi := _) (v := _) rfl (by kernel_rfl) (by kernel_rfl) (by kernel_rfl) (fun _ _ _ h => h) (yieldsIf_load_mid (by rfl) _ _ rfl _ _ rfl _ _ (fun _ h => h.2) under25 rfl HI25.out) (by assumption) ?_
          simp only [Act.put]
          refine wpAnyH_ready (rs := [1]) (by kernel_rfl) (by simp) ?_
          refine AllReadyH.cons rfl (fun K hK => ?_) AllReadyH.nil
          go_simp
          go_wp2_with (go_at_call 9; refine (sum_any bh text _ hHeld.1.h hHeld.1.kc (by have := HLN.out; omega)).mono ?_; rintro e w18 ⟨rfl, gS⟩; rw [HSQ.out.1]; replace hHeld := ps_and hHeld gS; clear gS)
          refine hK.out _ _ hHeld (fun _ => ?_)
          clear hK K
          refine wpAnyH_take (i := 3) (oi := _) (v := ?_) rfl (by kernel_rfl) (by kernel_rfl) (by kernel_rfl) (fun _ _ _ h => h) (Or.inl ⟨by rfl, ?_⟩) (by assumption) ?_
          rotate_left
          · (intro w hSw; go_simp; first | done | (with_reducible rfl))
          simp only [Act.put]
          refine wpAnyH_take (i := 4) (oi := _) (v := ?_) rfl (by kernel_rfl) (by kernel_rfl) (by kernel_rfl) (fun _ _ _ h => h) (Or.inl ⟨by rfl, ?_⟩) (by assumption) ?_
          rotate_left
          · (intro w hSw; go_simp; first | done | (with_reducible rfl))
          simp only [Act.put]
          refine wpAnyH_take (i := 5) (oi := _) (v := ?_) rfl (by kernel_rfl) (by kernel_rfl) (by kernel_rfl) (fun _ _ _ h => h) (Or.inl ⟨by rfl, ?_⟩) (by assumption) ?_
          rotate_left
          · (intro w hSw; go_simp; first | done | (with_reducible rfl))
          simp only [Act.put]
          refine wpAnyH_take (i := 7) (oi := _) (v := _) rfl (by kernel_rfl) (by kernel_rfl) (by kernel_rfl) (fun _ _ _ h => h) (yieldsIf_load_mid (by rfl) _ _ rfl _ _ rfl _ _ (fun _ h => h.2) under25 rfl HI25.out) (by assumption) ?_
          simp only [Act.put]
          refine wpAnyH_ready (rs := [6]) (by kernel_rfl) (by simp) ?_
          refine AllReadyH.cons rfl (fun K hK => ?_) AllReadyH.nil
          go_simp
          go_wp2_with (go_at_call 9; refine (sum_any bh text _ hHeld.1.h hHeld.1.kc (by have := HLN.out; omega)).mono ?_; rintro e w19 ⟨rfl, gS⟩; rw [HSQ.out.1]; replace hHeld := ps_and hHeld gS; clear gS)
          refine hK.out _ _ hHeld (fun _ => ?_)
          clear hK K
          refine wpAnyH_take (i := 8) (oi := _) (v := ?_) rfl (by kernel_rfl) (by kernel_rfl) (by kernel_rfl) (fun _ _ _ h => h) (Or.inl ⟨by rfl, ?_⟩) (by assumption) ?_
          rotate_left
          · (intro w hSw; go_simp; first | done | (with_reducible rfl))
          simp only [Act.put]
          refine wpAnyH_take (i := 9) (oi := _) (v := ?_) rfl (by kernel_rfl) (by kernel_rfl) (by kernel_rfl) (fun _ _ _ h => h) (Or.inl ⟨by rfl, ?_⟩) (by assumption) ?_
          rotate_left
          · (intro w hSw; go_simp; first | done | (with_reducible rfl))
          simp only [Act.put]
          refine wpAnyH_take (i := 10) (oi := _) (v := ?_) rfl (by kernel_rfl) (by kernel_rfl) (by kernel_rfl) (fun _ _ _ h => h) (Or.inl ⟨by rfl, ?_⟩) (by assumption) ?_
          rotate_left
          · (intro w hSw; go_simp; first | done | (with_reducible rfl))
          simp only [Act.put]
          refine wpAnyH_take (i := 11) (oi := _) (v := ?_) rfl (by kernel_rfl) (by kernel_rfl) (by kernel_rfl) (fun _ _ _ h => h) (Or.inl ⟨by rfl, ?_⟩) (by assumption) ?_
          rotate_left
          · (intro w hSw; go_simp; first | done | (with_reducible rfl))
          simp only [Act.put]
          refine wpAnyH_take (i := 13) (oi := _) (v := ?_) rfl (by kernel_rfl) (by kernel_rfl) (by kernel_rfl) (fun _ _ _ h => h) (Or.inl ⟨by rfl, ?_⟩) (by assumption) ?_
          rotate_left
          · (intro w hSw; go_simp; first | done | (with_reducible rfl))
          simp only [Act.put]
          refine wpAnyH_take (i := 14) (oi := _) (v := ?_) rfl (by kernel_rfl) (by kernel_rfl) (by kernel_rfl) (fun _ _ _ h => h) (Or.inl ⟨by rfl, ?_⟩) (by assumption) ?_
          rotate_left
          · (intro w hSw; go_simp; first | done | (with_reducible rfl))
          simp only [Act.put]
          refine wpAnyH_ready (rs := [12, 15]) (by kernel_rfl) (by simp) ?_
          refine AllReadyH.cons rfl (fun K hK => ?_) (AllReadyH.cons rfl (fun K hK => ?_) AllReadyH.nil)
          · go_simp
            go_wp2_with (go_at_call 9; refine (sum_any bk (other ++ xs) _ hHeld.1.k hHeld.1.kc (by have := HF2.out.2; omega)).mono ?_; rintro e w20 ⟨rfl, gT⟩; rw [HS2.out]; replace hHeld := ps_and hHeld gT; clear gT)
            refine hK.out _ _ hHeld (fun _ => ?_)
            clear hK K
            refine wpAnyH_ready (rs := [15]) (by kernel_rfl) (by simp) ?_
            refine AllReadyH.cons rfl (fun K hK => ?_) AllReadyH.nil
            go_simp
            refine hK.out _ _ (ps_and hHeld (World.grownBy_alloc _ _ none)) (fun hH2 => ?_)
            clear hK K
            refine wpAnyH_ready (rs := [16]) (by kernel_rfl) (by simp) ?_
            refine AllReadyH.cons rfl (fun K hK => ?_) AllReadyH.nil
            go_simp
            go_wp2_with (go_at_call 10; refine (of_any _ 2 2 [other, xs] _ (parts2 _ _ _ _ _ _ _ _ _ (H0.out.2.2.1.kept hHeld.1.g) hHeld.1.xbytes.2.1) hH2.1.kc (by decide) (by rw [HF2.out.1]; exact HF2.out.2)).mono ?_; rintro e w21 ⟨rfl, g21⟩; rw [HF2.out.1, HS2.out]; have hH3 := ps_and hH2 g21; clear g21)
            refine hK.out _ _ hH3 (fun _ => ?_)
            clear hK K
            refine wpAnyH_take (i := 17) (oi := _) (v := ?_) rfl (by kernel_rfl) (by kernel_rfl) (by kernel_rfl) (fun _ _ _ h => h) (Or.inl ⟨by rfl, ?_⟩) (by assumption) ?_
            rotate_left
            · (intro w hSw; go_simp; first | done | (with_reducible rfl))
            simp only [Act.put, List.getElem_toArray, List.getElem_cons_succ, List.getElem_cons_zero, List.setIfInBounds_toArray, List.set_cons_zero, List.set_cons_succ]
            refine wpAnyH_take (i := 18) (oi := _) (v := ?_) rfl (by kernel_rfl) (by kernel_rfl) (by kernel_rfl) (fun _ _ _ h => h) (Or.inl ⟨by rfl, ?_⟩) (by assumption) ?_
            rotate_left
            · (intro w hSw; go_simp; first | done | (with_reducible rfl))
            simp only [Act.put, List.getElem_toArray, List.getElem_cons_succ, List.getElem_cons_zero, List.setIfInBounds_toArray, List.set_cons_zero, List.set_cons_succ]
            refine wpAnyH_take (i := 19) (oi := _) (v := ?_) rfl (by kernel_rfl) (by kernel_rfl) (by kernel_rfl) (fun _ _ _ h => h) (Or.inl ⟨by rfl, ?_⟩) (by assumption) ?_
            rotate_left
            · (intro w hSw; go_simp; first | done | (with_reducible rfl))
            simp only [Act.put, List.getElem_toArray, List.getElem_cons_succ, List.getElem_cons_zero, List.setIfInBounds_toArray, List.set_cons_zero, List.set_cons_succ]
            refine wpAnyH_done (by kernel_rfl) ?_ _
            go_wp2
            go_ret
            exact ⟨rfl, hH3.1.g⟩
          · go_simp
            refine hK.out _ _ (ps_and hHeld (World.grownBy_alloc _ _ none)) (fun hH2 => ?_)
            clear hK K
            refine wpAnyH_ready (rs := [12]) (by kernel_rfl) (by simp) ?_
            refine AllReadyH.cons rfl (fun K hK => ?_) AllReadyH.nil
            go_simp
            go_wp2_with (go_at_call 9; refine (sum_any bk (other ++ xs) _ hH2.1.k hH2.1.kc (by have := HF2.out.2; omega)).mono ?_; rintro e w20 ⟨rfl, gT⟩; rw [HS2.out]; have hH4 := ps_and hH2 gT)
            refine hK.out _ _ hH4 (fun _ => ?_)
            clear hK K
            refine wpAnyH_ready (rs := [16]) (by kernel_rfl) (by simp) ?_
            refine AllReadyH.cons rfl (fun K hK => ?_) AllReadyH.nil
            go_simp
            go_wp2_with (go_at_call 10; refine (of_any _ 2 2 [other, xs] _ ((parts2 _ _ _ _ _ _ _ _ _ (H0.out.2.2.1.kept hHeld.1.g) hHeld.1.xbytes.2.1).kept gT) hH4.1.kc (by decide) (by rw [HF2.out.1]; exact HF2.out.2)).mono ?_; rintro e w21 ⟨rfl, g21⟩; rw [HF2.out.1, HS2.out]; have hH3 := ps_and hH4 g21; clear g21)
            refine hK.out _ _ hH3 (fun _ => ?_)
            clear hK K
            refine wpAnyH_take (i := 17) (oi := _) (v := ?_) rfl (by kernel_rfl) (by kernel_rfl) (by kernel_rfl) (fun _ _ _ h => h) (Or.inl ⟨by rfl, ?_⟩) (by assumption) ?_
            rotate_left
            · (intro w hSw; go_simp; first | done | (with_reducible rfl))
            simp only [Act.put, List.getElem_toArray, List.getElem_cons_succ, List.getElem_cons_zero, List.setIfInBounds_toArray, List.set_cons_zero, List.set_cons_succ]
            refine wpAnyH_take (i := 18) (oi := _) (v := ?_) rfl (by kernel_rfl) (by kernel_rfl) (by kernel_rfl) (fun _ _ _ h => h) (Or.inl ⟨by rfl, ?_⟩) (by assumption) ?_
            rotate_left
            · (intro w hSw; go_simp; first | done | (with_reducible rfl))
            simp only [Act.put, List.getElem_toArray, List.getElem_cons_succ, List.getElem_cons_zero, List.setIfInBounds_toArray, List.set_cons_zero, List.set_cons_succ]
            refine wpAnyH_take (i := 19) (oi := _) (v := ?_) rfl (by kernel_rfl) (by kernel_rfl) (by kernel_rfl) (fun _ _ _ h => h) (Or.inl ⟨by rfl, ?_⟩) (by assumption) ?_
            rotate_left
            · (intro w hSw; go_simp; first | done | (with_reducible rfl))
            simp only [Act.put, List.getElem_toArray, List.getElem_cons_succ, List.getElem_cons_zero, List.setIfInBounds_toArray, List.set_cons_zero, List.set_cons_succ]
            refine wpAnyH_done (by kernel_rfl) ?_ _
            go_wp2
            go_ret
            exact ⟨rfl, hH3.1.g⟩
end Go.Proofs.YtbjmibihopddcaaDoor
