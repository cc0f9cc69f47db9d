/- TableScript: a step's Get, Peek, Put. -/
import Derived.Test.YtkaakbldkicnaaaR9
namespace Go.Proofs.Ytkaakbldkicnaaa
open Go Go.RowKit Go.Maps

/-- which table -/
def Par (b : Bool) (a : Int) : Prop := (b = false ∧ a.tmod 2 = 0) ∨ (b = true ∧ ¬ a.tmod 2 = 0)
abbrev opL (k a : Int) (key : ByteArray) (x : Int) (a0 : Option Addr) (ni ci : Nat) : List Value := [iv k, iv a, .string key, iv x, .slice a0 ni ci]
abbrev opv (k a : Int) (key : ByteArray) (x : Int) (a0 : Option Addr) (ni ci : Nat) : Value := .agg #[iv k, iv a, .string key, iv x, .slice a0 ni ci]
/-- what a walk reads of a step -/
structure OpC (W : World) (ob : Nat) (k a : Int) (key : ByteArray) (x : Int) (a0 : Option Addr) (ni ci : Nat) : Prop where
  k : W.cell? ⟨ob, 0, none⟩ = some (iv k)
  a : W.cell? ⟨ob, 1, none⟩ = some (iv a)
  key : W.cell? ⟨ob, 2, none⟩ = some (.string key)
  x : W.cell? ⟨ob, 3, none⟩ = some (iv x)
  i : W.cell? ⟨ob, 4, none⟩ = some (.slice a0 ni ci)
theorem Sep.opc {w0 W : World} {l : List As} {ob : Nat} {k a : Int} {key : ByteArray} {x : Int} {a0 : Option Addr} {ni ci : Nat} (h : Sep w0 W l) (hm : boxA ob (opL k a key x a0 ni ci) 62 ∈ l) : OpC W ob k a key x a0 ni ci := by
  have hb := h.boxGet hm
  exact ⟨hb.cellv 0 _ rfl, hb.cellv 1 _ rfl, hb.cellv 2 _ rfl, hb.cellv 3 _ rfl, hb.cellv 4 _ rfl⟩
/-- what a step leaves -/
def StP (w0 : World) (b : Bool) (pb t t' d d' s s' : Nat) (n c : Nat) (R : List As) (r : Ending) (W' : World) : Prop :=
  r = .returned (.bool true) ∧ ∃ M M' tv wv n', n' ≤ n + c ∧ Sep w0 W' (stB b pb t t' d d' s s' M M' tv wv n' R)
theorem back4 {w0 W : World} {b : Bool} {pb t t' d d' s s' ob : Nat} {L L' : KV} {cs : List Value} {u : TypeId} {tv wv : Value} {n : Nat} {R : List As} (h : Sep w0 W (refA d s L :: tabA t s L :: boxA ob cs u :: boxA pb (pcb b t t' d d' tv wv) 58 :: tabA t' s' L' :: refA d' s' L' :: bookA tv wv n :: R)) : Sep w0 W (stB b pb t t' d d' s s' L L' tv wv n R) := by
  have h1 := (fr1 [_, _] h).tail
  have h2 := fr1 [_, _] h1
  exact h2.perm (List.Perm.cons _ (List.Perm.swap _ _ _))
set_option maxRecDepth 100000 in
set_option maxHeartbeats 8000000 in
theorem step_get (w0 W : World) (pb t t' d d' s s' : Nat) (b : Bool) (L L' : KV) (tv wv : Value) (n c : Nat) (R : List As) (a x dp : Int) (key : ByteArray) (a0 : Option Addr) (ni ci : Nat)
    (h : Sep w0 W (stB b pb t t' d d' s s' L L' tv wv n R)) (hpar : Par b a) (hks : key.size ≤ 1048576) :
    Calls Try.prog 31 #[pt pb, opv 2 a key x a0 ni ci, iv dp] W (StP w0 b pb t t' d d' s s' n c R) := by
  have S1 := h.newBox #[iv 2, iv a, .string key, iv x, .slice a0 ni ci] 62
  have ok := h.tab k1m
  obtain ⟨ob, hob⟩ : ∃ ob, W.heap.size = ob := ⟨_, rfl⟩
  obtain ⟨W1, hW1⟩ : ∃ W1, W.alloc (.cells #[iv 2, iv a, .string key, iv x, .slice a0 ni ci] 62) = W1 := ⟨_, rfl⟩
  rw [hob, hW1] at S1
  change Sep w0 W1 (boxA ob (opL 2 a key x a0 ni ci) 62 :: stB b pb t t' d d' s s' L L' tv wv n R) at S1
  obtain ⟨o0, o1, o2, o3, o4⟩ := S1.opc k0m
  have hG := get_s key (fr1 [_, _] S1) (by omega)
  have pl := S1.plc k1m
  rcases hpar with ⟨rfl, hp⟩ | ⟨rfl, hp⟩
  all_goals
    obtain ⟨pt0, pd0, _, _, _, _⟩ := pl
    simp only [bn, if_true, if_false, Bool.false_eq_true, Nat.add_zero] at pt0 pd0
    have HOK := Keep.mk ok
    clear h S1 ok
    go_enter Try.func31, Try.ntmps31
    go_wp2_with fail
    refine hG.mono ?_
    rintro r w2 ⟨rfl, S2⟩
    clear hG o0 o1 o2 o3 o4 pt0 pd0
    have hR := rget_s key (fr1 [_, _, _] S2) HOK.out.four HOK.out.nk
    obtain ⟨o0, o1, o2, o3, o4⟩ := S2.opc k1m
    clear S2
    generalize (Tb.look L key).getD 0 = xv at *
    generalize (Tb.look L key).isSome = xb at *
    go_wp2_with fail
    refine hR.mono ?_
    rintro r w3 ⟨rfl, S3⟩
    have HF := Keep.mk (back4 S3)
    clear S3 hR o0 o1 o2 o3 o4
    go_wp2_with fail
    go_ret
    exact ⟨rfl, _, _, _, _, n, by omega, HF.out⟩
end Go.Proofs.Ytkaakbldkicnaaa
