/- TableScript: each of an empty table; a step's Each. -/
import Derived.Test.YtkaakbldkicnaaaT6
import Derived.Test.YtkaakbldkicnaaaT2
import Derived.Test.YtkaakbldkicnaaaT3
namespace Go.Proofs.Ytkaakbldkicnaaa
open Go Go.RowKit Go.Maps

set_option maxRecDepth 100000 in
set_option maxHeartbeats 16000000 in
theorem each_no (w0 W : World) (b : Bool) (pb t t' d d' s s' a : Nat) (L L' : KV) (tv wv : Value) (n c : Nat) (R : List As) (ok oa : Int) (okey : ByteArray) (X : Int) (a0 : Option Addr) (ni ci : Nat) (dp : Int)
    (h : Sep w0 W (stB b pb t t' d d' s s' L L' tv wv n R)) (hab : bn b = a) (ha2 : a < 2)
    (hpos : L = []) :
    Calls Try.prog 45 #[pt pb, iv (a : Nat), opv ok oa okey X a0 ni ci, iv dp] W (StP w0 b pb t t' d d' s s' n c R) := by
  subst hpos
  have S1 := h.newBox #[pt pb] 52
  obtain ⟨px, hpx⟩ : ∃ px, W.heap.size = px := ⟨_, rfl⟩
  obtain ⟨W1, hW1⟩ : ∃ W1, W.alloc (.cells #[pt pb] 52) = W1 := ⟨_, rfl⟩
  rw [hpx, hW1] at S1
  have S2 := S1.newBox #[iv ok, iv oa, .string okey, iv X, .slice a0 ni ci] 62
  obtain ⟨ob, hob⟩ : ∃ ob, W1.heap.size = ob := ⟨_, rfl⟩
  obtain ⟨W2, hW2⟩ : ∃ W2, W1.alloc (.cells #[iv ok, iv oa, .string okey, iv X, .slice a0 ni ci] 62) = W2 := ⟨_, rfl⟩
  rw [hob, hW2] at S2
  have S3 := S2.newBox #[iv dp] 3
  obtain ⟨eb, heb⟩ : ∃ eb, W2.heap.size = eb := ⟨_, rfl⟩
  obtain ⟨W3, hW3⟩ : ∃ W3, W2.alloc (.cells #[iv dp] 3) = W3 := ⟨_, rfl⟩
  rw [heb, hW3] at S3
  have S4 := S3.newBox #[pt d] 54
  obtain ⟨dx, hdx⟩ : ∃ dx, W3.heap.size = dx := ⟨_, rfl⟩
  obtain ⟨W4, hW4⟩ : ∃ W4, W3.alloc (.cells #[pt d] 54) = W4 := ⟨_, rfl⟩
  rw [hdx, hW4] at S4
  change Sep w0 W4 (boxA dx [pt d] 54 :: boxA eb [iv dp] 3 :: boxA ob (opL ok oa okey X a0 ni ci) 62 :: boxA px [pt pb] 52 :: stB b pb t t' d d' s s' [] L' tv wv n R) at S4
  have p3 : W3.cell? ⟨px, 0, none⟩ = some (pt pb) := (S3.boxGet k2m).cellv 0 _ rfl
  have pl := S3.plc k3m
  rw [hab] at pl
  obtain ⟨pt0, pd0, _, _, _, _⟩ := pl
  have c4 : W4.cell? ⟨dx, 0, none⟩ = some (pt d) := (S4.boxGet k0m).cellv 0 _ rfl
  have hK := rkeys_s (fr1 [_, _, _, _, _, _] S4) (by simp)
  have ha0 : (0 : Int) ≤ (a : Int) := by omega
  have ha1 : (a : Int) < 2 := by omega
  have hat : ((a : Nat) : Int).toNat = a := by omega
  clear h S1 S2 S3 S4 hab ha2
  go_enter Try.func45, Try.ntmps45
  go_wp2_with fail
  refine hK.mono ?_
  rintro r w5 ⟨vk, rfl, S5⟩
  change Sep w0 w5 (rowA vk [] :: refA d s [] :: boxA dx [pt d] 54 :: boxA eb [iv dp] 3 :: boxA ob (opL ok oa okey X a0 ni ci) 62 :: boxA px [pt pb] 52 :: boxA pb (pcb b t t' d d' tv wv) 58 :: tabA t s [] :: tabA t' s' L' :: refA d' s' L' :: bookA tv wv n :: R) at S5
  clear hK p3 pt0 pd0 c4 hW1 hW2 hW3 hW4 hpx hob heb hdx
  obtain ⟨ka, kc, e⟩ := (S5.row k0m).slice
  rw [show ([] : List ByteArray).length = 0 from rfl] at e
  subst e
  have S6 := S5.newBox #[.slice ka 0 kc] 22
  obtain ⟨kb, hkb⟩ : ∃ kb, w5.heap.size = kb := ⟨_, rfl⟩
  obtain ⟨W6, hW6⟩ : ∃ W6, w5.alloc (.cells #[.slice ka 0 kc] 22) = W6 := ⟨_, rfl⟩
  rw [hkb, hW6] at S6
  have S7a := S6.newBox #[iv 0] 3
  obtain ⟨nb, hnb⟩ : ∃ nb, W6.heap.size = nb := ⟨_, rfl⟩
  obtain ⟨W7a, hW7a⟩ : ∃ W7, W6.alloc (.cells #[iv 0] 3) = W7 := ⟨_, rfl⟩
  rw [hnb, hW7a] at S7a
  have d7 : W7a.cell? ⟨nb, 0, none⟩ = some (iv 0) := (S7a.boxGet k0m).cellv 0 _ rfl
  have f7 : W7a.frozen? ⟨nb, 0, none⟩ = false := (S7a.boxGet k0m).frozen 0
  have S7 := S7a.boxPut 0 (iv 0)
  obtain ⟨W7, hW7⟩ : ∃ W7, W7a.setCell ⟨nb, 0, none⟩ (iv 0) = W7 := ⟨_, rfl⟩
  rw [hW7] at S7
  have S8a := S7.newBox #[iv 0] 3
  obtain ⟨sb, hsb⟩ : ∃ sb, W7.heap.size = sb := ⟨_, rfl⟩
  obtain ⟨W8a, hW8a⟩ : ∃ W8, W7.alloc (.cells #[iv 0] 3) = W8 := ⟨_, rfl⟩
  rw [hsb, hW8a] at S8a
  have d8 : W8a.cell? ⟨sb, 0, none⟩ = some (iv 0) := (S8a.boxGet k0m).cellv 0 _ rfl
  have f8 : W8a.frozen? ⟨sb, 0, none⟩ = false := (S8a.boxGet k0m).frozen 0
  have S8 := S8a.boxPut 0 (iv 0)
  obtain ⟨W8, hW8⟩ : ∃ W8, W8a.setCell ⟨sb, 0, none⟩ (iv 0) = W8 := ⟨_, rfl⟩
  rw [hW8] at S8
  have S9 := S8.newBox #[.bool true] 4
  obtain ⟨gb, hgb⟩ : ∃ gb, W8.heap.size = gb := ⟨_, rfl⟩
  obtain ⟨W9, hW9⟩ : ∃ W9, W8.alloc (.cells #[.bool true] 4) = W9 := ⟨_, rfl⟩
  rw [hgb, hW9] at S9
  have HS := Keep.mk (each_order S9)
  clear S5 S6 S7 S8 S9 S7a S8a
  go_wp2_with fail
  refine (each_nil w0 W9 t s _ _ HS.out).mono ?_
  rintro r w10 ⟨rfl, S10⟩
  have H10 := Keep.mk S10
  clear HS S10 hW6 hW7 hW8 hW9 hkb hnb hsb hgb hW7a hW8a d7 d8 f7 f8
  go_wp2_with fail
  go_loopw [] (fun wr => Keep (Sep w0 wr (tabA t s [] :: eaL b pb t t' d d' s s' [] L' tv wv n (.slice ka 0 kc) [] (bxs nb kb dx gb sb ob px eb 0 (.slice ka 0 kc) d 0 (opL ok oa okey X a0 ni ci) pb dp) R))) (fun _ => 0)
  case atStart => exact H10
  case round =>
    clear H10
    have hR := hrel
    obtain ⟨b1, b2, b3, b4, b5, b6, b7, b8, b9⟩ := hR.out.bxc ea_bx
    have HF := Keep.mk (ea_st hR.out)
    clear hR hrel
    go_wp2_with fail
    go_ret
    exact ⟨rfl, _, _, _, _, n, by omega, HF.out⟩
theorem st_push {w0 W : World} {b : Bool} {pb t t' d d' s s' : Nat} {L L' : KV} {tv wv : Value} {n : Nat} {R : List As} {x : As} (h : Sep w0 W (x :: stB b pb t t' d d' s s' L L' tv wv n R)) : Sep w0 W (stB b pb t t' d d' s s' L L' tv wv n (x :: R)) := bk1 [_, _, _, _, _, _] h
theorem st_pop {w0 W : World} {b : Bool} {pb t t' d d' s s' : Nat} {L L' : KV} {tv wv : Value} {n : Nat} {R : List As} {x : As} (h : Sep w0 W (stB b pb t t' d d' s s' L L' tv wv n (x :: R))) : Sep w0 W (stB b pb t t' d d' s s' L L' tv wv n R) := (fr1 [_, _, _, _, _, _] h).tail
theorem StP.pop {w0 : World} {b : Bool} {pb t t' d d' s s' n c : Nat} {R : List As} {x : As} {r : Ending} {W : World} (h : StP w0 b pb t t' d d' s s' n c (x :: R) r W) : StP w0 b pb t t' d d' s s' n c R r W := by
  obtain ⟨h1, M, M', tv, wv, n', h2, h3⟩ := h
  exact ⟨h1, M, M', tv, wv, n', h2, st_pop h3⟩
theorem StP.side {w0 : World} {b : Bool} {pb t t' d d' s s' n c : Nat} {R : List As} {r : Ending} {W : World} (h : StP w0 (!b) pb t' t d' d s' s n c R r W) : StP w0 b pb t t' d d' s s' n c R r W := by
  obtain ⟨h1, M, M', tv, wv, n', h2, h3⟩ := h
  have := h3.side
  rw [Bool.not_not] at this
  exact ⟨h1, M', M, tv, wv, n', h2, this⟩
set_option maxRecDepth 100000 in
set_option maxHeartbeats 8000000 in
theorem step_each (w0 W : World) (pb t t' d d' s s' : Nat) (b : Bool) (L L' : KV) (tv wv : Value) (n c : Nat) (R : List As) (a x dp : Int) (key : ByteArray) (a0 : Option Addr) (ni ci : Nat)
    (h : Sep w0 W (stB b pb t t' d d' s s' L L' tv wv n R)) (hpar : Par b a) 
    (heach : dp ≤ 2 → ∀ W1 R1 (a1 : Nat), bn b = a1 → Sep w0 W1 (stB b pb t t' d d' s s' L L' tv wv n R1) → Calls Try.prog 45 #[pt pb, iv (a1 : Nat), opv 6 a key x a0 ni ci, iv dp] W1 (StP w0 b pb t t' d d' s s' n c R1)) :
    Calls Try.prog 31 #[pt pb, opv 6 a key x a0 ni ci, iv dp] W (StP w0 b pb t t' d d' s s' n c R) := by
  have S1 := h.newBox #[iv 6, iv a, .string key, iv x, .slice a0 ni ci] 62
  have ok := h.tab k1m
  obtain ⟨ob, hob⟩ : ∃ ob, W.heap.size = ob := ⟨_, rfl⟩
  obtain ⟨W1, hW1⟩ : ∃ W1, W.alloc (.cells #[iv 6, iv a, .string key, iv x, .slice a0 ni ci] 62) = W1 := ⟨_, rfl⟩
  rw [hob, hW1] at S1
  change Sep w0 W1 (boxA ob (opL 6 a key x a0 ni ci) 62 :: stB b pb t t' d d' s s' L L' tv wv n R) at S1
  obtain ⟨o0, o1, o2, o3, o4⟩ := S1.opc k0m
  have HF := Keep.mk S1.tail
  have pl := S1.plc k1m
  rcases hpar with ⟨rfl, hp⟩ | ⟨rfl, hp⟩
  · obtain ⟨pt0, pd0, _, _, _, _⟩ := pl
    simp only [bn, if_false, Bool.false_eq_true, Nat.add_zero] at pt0 pd0
    by_cases hd : dp ≤ 2
    · have hE := heach hd W1 _ 0 rfl (st_push S1)
      change Calls Try.prog 45 #[pt pb, iv 0, opv 6 a key x a0 ni ci, iv dp] W1 _ at hE
      clear h S1 ok heach HF
      go_enter Try.func31, Try.ntmps31
      go_wp2_with fail
      refine hE.mono ?_
      intro r w2 h2
      obtain ⟨rfl, h3⟩ := h2.pop
      have HF := Keep.mk h3
      clear h2 h3 hE o0 o1 o2 o3 o4 pt0 pd0
      go_wp2_with fail
      go_ret
      exact ⟨rfl, HF.out⟩
    · have hd2 : decide (2 < dp) = true := by simp; omega
      clear h S1 ok heach hd
      go_enter Try.func31, Try.ntmps31
      go_wp2_with fail
      go_ret
      exact ⟨rfl, _, _, _, _, n, by omega, HF.out⟩
  · obtain ⟨pt0, pd0, _, _, _, _⟩ := pl
    simp only [bn, if_true] at pt0 pd0
    by_cases hd : dp ≤ 2
    · have hE := heach hd W1 _ 1 rfl (st_push S1)
      change Calls Try.prog 45 #[pt pb, iv 1, opv 6 a key x a0 ni ci, iv dp] W1 _ at hE
      clear h S1 ok heach HF
      go_enter Try.func31, Try.ntmps31
      go_wp2_with fail
      refine hE.mono ?_
      intro r w2 h2
      obtain ⟨rfl, h3⟩ := h2.pop
      have HF := Keep.mk h3
      clear h2 h3 hE o0 o1 o2 o3 o4 pt0 pd0
      go_wp2_with fail
      go_ret
      exact ⟨rfl, HF.out⟩
    · have hd2 : decide (2 < dp) = true := by simp; omega
      clear h S1 ok heach hd
      go_enter Try.func31, Try.ntmps31
      go_wp2_with fail
      go_ret
      exact ⟨rfl, _, _, _, _, n, by omega, HF.out⟩
end Go.Proofs.Ytkaakbldkicnaaa
