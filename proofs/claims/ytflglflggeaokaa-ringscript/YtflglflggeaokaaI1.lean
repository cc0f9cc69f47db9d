/- ring: All. -/
import Derived.Test.YtflglflggeaokaaB1
import Derived.RangeFuncNested
import Derived.RangeFuncBound
import Derived.RangeFuncCalls
import Derived.RangeFuncLeaves
import Derived.Shelf.Abstract
import Derived.Shelf.RegionOpen
import Derived.OwnWalkIn
import Derived.TacticsInMore
import Derived.LoopNIn
import Derived.LoopIn
namespace Go.Proofs.Ytflglflggeaokaa
open Go Go.RowKit Go.Shelf
attribute [local go_sem] Oper.semAt_some

theorem all_c (rb : Nat) (w : World) :
    Calls Try.prog 21 #[.pointer (some ⟨rb, 0, none⟩)] w fun e w' => e = .returned (.func (.func 31) #[] #[.pointer (some ⟨w.heap.size, 0, none⟩)]) ∧ w' = w.alloc (.cells #[.pointer (some ⟨rb, 0, none⟩)] 24) := by
  go_enter Try.func21, Try.ntmps21
  go_wp2_with fail
  go_ret
  exact ⟨rfl, rfl⟩

/-- the blocks that a loop's body may turn: these, and those of the slices that lie in these cells -/
def Foot (fx : List Nat) (rf : List Addr) (W : World) (b : Nat) : Prop := b ∈ fx ∨ ∃ f ∈ rf, ∃ v, W.cell? f = some v ∧ Value.ownBlock v = some b
/-- what a round keeps -/
structure Kp (fx : List Nat) (rf : List Addr) (W W' : World) : Prop where
  size : W.heap.size ≤ W'.heap.size
  has : ∀ b cs t, Has W b cs t → ¬ Foot fx rf W b → Has W' b cs t ∧ ¬ Foot fx rf W' b
theorem Kp.trans {fx : List Nat} {rf : List Addr} {A B C : World} (h : Kp fx rf A B) (k : Kp fx rf B C) : Kp fx rf A C :=
  ⟨Nat.le_trans h.size k.size, fun b cs t hb hn => by obtain ⟨h1, h2⟩ := h.has b cs t hb hn; exact k.has b cs t h1 h2⟩
theorem Kp.refl (fx : List Nat) (rf : List Addr) (W : World) : Kp fx rf W W := ⟨Nat.le_refl _, fun _ _ _ h n => ⟨h, n⟩⟩
theorem cell_block {w w' : World} {a : Addr} (h : w'.heap[a.block]? = w.heap[a.block]?) : w'.cell? a = w.cell? a := by
  simp only [World.cell?]; rw [h]
/-- a step that leaves all but the footprint, and turns no cell that the footprint hangs on -/
theorem Kp.fr {fx : List Nat} {rf : List Addr} {S : Nat → Prop} {W W' : World} (f : Fr S W W') (hs : ∀ b, S b → Foot fx rf W b ∨ W.heap.size ≤ b) (hr : ∀ b, Foot fx rf W' b → Foot fx rf W b ∨ W.heap.size ≤ b) : Kp fx rf W W' :=
  ⟨f.size, fun b cs t hb hn => ⟨hb.fr f (fun e => by rcases hs b e with q | q; exact hn q; have := hb.lt; omega), fun e => by rcases hr b e with q | q; exact hn q; have := hb.lt; omega⟩⟩
theorem foot_same {fx : List Nat} {rf : List Addr} {W W' : World} (h : ∀ f ∈ rf, W'.cell? f = W.cell? f) (b : Nat) : Foot fx rf W' b → Foot fx rf W b := by
  rintro (e | ⟨f, hf, v, h1, h2⟩)
  · exact .inl e
  · exact .inr ⟨f, hf, v, by rw [← h f hf]; exact h1, h2⟩
theorem kp_b {fx : List Nat} {rf : List Addr} {w : World} (hrf : ∀ f ∈ rf, f.block < w.heap.size) (W : World) (l : Nat) (o o' : Obj) (hl : w.heap.size ≤ l) (h : W.heap[l]? = some o) (ho : o.isCells = false) (_ : o.isWalk = false) : Kp fx rf W (W.putObj l o') := by
  have hg := grownBy_putObj' W l o'
  have hll : l < W.heap.size := (Array.getElem?_eq_some_iff.1 h).1
  refine ⟨hg.size, fun b cs t hb hn => ?_⟩
  have hne : b ≠ l := fun e => by
    subst e
    unfold Has at hb
    rw [h] at hb
    cases hb
    simp [Obj.isCells] at ho
  refine ⟨hb.kept hg (by simpa using hne), fun e => hn (foot_same (fun f hf => cell_block ?_) b e)⟩
  have := hrf f hf
  by_cases hf2 : f.block < W.heap.size
  · exact hg.block f.block hf2 (by simp; omega)
  · omega

abbrev enc2 (L : List Int) (k : Nat) : Array Value := #[.int .i64 (k : Nat), .int .i64 (L[k]?.getD 0)]

set_option maxHeartbeats 1000000 in
theorem all_stops (n Bn rb : Nat) (v : Value) (sz : Nat) (L : List Int) (fx : List Nat) (rf : List Addr) (w : World) (hn : 1 ≤ n)
    (hBn : w.cell? ⟨Bn, 0, none⟩ = some (.pointer (some ⟨rb, 0, none⟩))) (hR : RingAt w rb v sz L)
    (hfx : ∀ b ∈ fx, b < w.heap.size) (hrf : ∀ f ∈ rf, f.block < w.heap.size ∧ ∀ u, w.cell? f = some u → ∀ b, Value.ownBlock u = some b → b < w.heap.size) :
    SeqStopsK Fence.wide n Try.prog 31 #[.pointer (some ⟨Bn, 0, none⟩)] (enc2 L) (Kp fx rf) (fun xs => xs = List.range L.length) (fun pre => pre = List.range pre.length ∧ pre.length ≤ L.length) L.length w := by
  intro l J Jx W hW hJ hJx hY h0
  have hg : w.grownBy W none := ⟨hW.os, hW.tape, hW.output, hW.size, fun k hk _ => hW.block k hk⟩
  have hb : Bn < w.heap.size := World.block_lt_of_cell? w ⟨Bn, 0, none⟩ hBn
  have hBW : W.cell? ⟨Bn, 0, none⟩ = some (.pointer (some ⟨rb, 0, none⟩)) := by
    rw [← hBn]; exact cell_block (hW.block Bn hb)
  have hl := list_c rb v sz L W (hR.kept hg)
  have hlen : L.length ≤ 4096 := by obtain ⟨f, P, _, _, h5, h6, _⟩ := hR.st; have := hR.hi; omega
  have HF : Keep (∀ W1, W.grownBy W1 none → ¬ Foot fx rf W1 W.heap.size) := by
    refine ⟨fun W1 g1 e => ?_⟩
    have g2 := hg.trans g1
    have := hg.size
    rcases e with e | ⟨f, hf, u, h1, h2⟩
    · have := hfx _ e; omega
    · have q := hrf f hf
      rw [cell_block (g2.block f.block q.1 (by simp))] at h1
      have := q.2 u h1 _ h2
      omega
  have HJ : Keep (∀ W1, W.grownBy W1 none → J [] W1) := ⟨fun W1 g1 => hJ [] W W1 none h0 g1 (fun r e => by cases e)⟩
  have HY : Keep (∀ pre x W1, J pre W1 → pre.length < L.length → YieldAt Fence.wide (n - 1) Try.prog l (enc2 L x) W1 fun e W' => (e = .returned (.bool true) ∧ J (pre ++ [x]) W' ∧ Kp fx rf W1 W') ∨ (e = .returned (.bool false) ∧ Jx (pre ++ [x]) W')) := ⟨hY⟩
  clear hY hJ hJx h0 hBn hR hfx hrf hW hg
  refine callsIn_of_wp Try.func31 rfl trivial ?_ rfl
  simp only [Try.ntmps31, List.size_toArray, List.length_cons, List.length_nil, Nat.reduceAdd, Nat.reduceSub, Array.replicate_succ, Array.replicate_zero, List.push_toArray, List.append_toArray, List.nil_append, List.cons_append]
  gi_wp2_with fail
  refine ⟨trivial, (callsIn_wide.2 hl).mono ?_⟩
  rintro e w1 ⟨rfl, h1, g1, _⟩
  have H1 : Keep (Has w1 W.heap.size (L.map iv) 3 ∧ ¬ Foot fx rf w1 W.heap.size ∧ J (List.range 0) w1) := ⟨h1, HF.out w1 g1, HJ.out w1 g1⟩
  clear h1 g1 hl HF HJ hBW
  generalize W.heap.size = LB at *
  obtain ⟨m, hm⟩ : ∃ m, L.length = m := ⟨_, rfl⟩
  rw [hm] at hlen ⊢
  have HM : Keep (L.length = m) := ⟨hm⟩
  clear hm
  gi_wp2_with fail
  gi_loopw [8] (fun u wr => ∃ i : Int, 0 ≤ i ∧ i ≤ m ∧ u = .int .i64 i ∧ Keep (Has wr LB (L.map iv) 3 ∧ ¬ Foot fx rf wr LB ∧ J (List.range i.toNat) wr)) (fun u _ => (m - (intOf u)).toNat)
  case atStart => exact ⟨0, by omega, by omega, rfl, H1⟩
  case round =>
    obtain ⟨i, hi0, hi1, rfl, hF⟩ := hrel
    by_cases hlt : i < m
    · obtain ⟨k, rfl⟩ : ∃ k : Nat, i = k := ⟨i.toNat, by omega⟩
      have hwi : IntKind.i64.wrap ((k : Int) + 1) = k + 1 := wi _ (by omega) (by omega)
      have hF2 := hF
      rw [Int.toNat_natCast] at hF2
      obtain ⟨x, hx⟩ : ∃ x, L[k]? = some x := ⟨_, List.getElem?_eq_getElem (by rw [HM.out]; omega)⟩
      have hc : wr.cell? ⟨LB, k, none⟩ = some (.int .i64 x) := hF2.out.1.cellv k _ (by rw [List.getElem?_map, hx]; rfl)
      obtain ⟨fn, tmps, assign, body, hy, hRd⟩ := HY.out (List.range k) k wr hF2.out.2.2 (by rw [List.length_range, HM.out]; omega)
      rw [show enc2 L k = #[.int .i64 (k : Nat), .int .i64 x] by simp [enc2, hx]] at hy
      clear hx
      gi_wp2_with fail
      refine hRd.mono ?_
      rintro e W3 (⟨rfl, hJ3, hk3⟩ | ⟨rfl, hJx3⟩)
      · have H3 : Keep (Has W3 LB (L.map iv) 3 ∧ ¬ Foot fx rf W3 LB ∧ J (List.range (k + 1)) W3) := by
          obtain ⟨q1, q2⟩ := hk3.has _ _ _ hF2.out.1 hF2.out.2.1
          exact ⟨q1, q2, by rw [List.range_succ]; exact hJ3⟩
        clear hJ3 hk3 hF hF2 hRd hy
        gi_wp2_with fail
        refine ⟨⟨(k : Int) + 1, by omega, by omega, rfl, ?_⟩, by simp only [intOf]; omega⟩
        rw [show ((k : Int) + 1).toNat = k + 1 by omega]
        exact H3
      · have H3 : Keep (Jx (List.range (k + 1)) W3) := ⟨by rw [List.range_succ]; exact hJx3⟩
        clear hJx3 hF hF2 hRd hy
        gi_wp2_with fail
        refine bodyPost_ret (results_none rfl _ _ _) rfl ?_
        refine ⟨⟨_, rfl⟩, .inr ⟨List.range (k + 1), ⟨by rw [List.length_range], by rw [List.length_range, HM.out]; omega⟩, H3.out⟩⟩
    · have hi : i = m := by omega
      subst hi
      have hF2 := hF
      rw [Int.toNat_natCast] at hF2
      gi_wp2_with fail
      go_end0
      exact ⟨⟨_, rfl⟩, .inl (by rw [HM.out]; exact hF2.out.2.2)⟩
end Go.Proofs.Ytflglflggeaokaa
