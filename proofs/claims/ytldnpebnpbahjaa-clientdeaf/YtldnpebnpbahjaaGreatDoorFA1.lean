import Derived.Test.YtldnpebnpbahjaaGreatDoorFP
import Derived.Defers
import Derived.Recover
/- frame.input: left, need, bytes, number, signed, text, allow, done, newInput -/
namespace Go.Proofs.YtldnpebnpbahjaaGreatDoor.Pk
open Go Go.RowKit

abbrev pv (b : Nat) : Value := .pointer (some ⟨b, 0, none⟩)
/-- where an input stands -/
structure In (w : World) (ib rb B : Nat) (L : List UInt8) (r : Bool) : Prop where
  h : Has w ib [pv rb, .bool r] 196
  a : RAt w rb B (L, 0)
  n1 : ib ≠ rb
  n2 : ib ≠ B
def IF (ib rb : Nat) (i : Nat) : Prop := i = ib ∨ i = rb
set_option maxRecDepth 100000 in
theorem In.lt {w : World} {ib rb B : Nat} {L : List UInt8} {r : Bool} (h : In w ib rb B L r) : ∀ i, IF ib rb i → i < w.heap.size := fun i hi => by
  obtain ⟨_, _, h2, _⟩ := h.a.h
  rcases hi with rfl | rfl
  · exact h.h.lt
  · exact h2.lt
set_option maxRecDepth 100000 in
theorem In.fr {S : Nat → Prop} {w w' : World} {ib rb B : Nat} {L : List UInt8} {r : Bool} (h : In w ib rb B L r) (f : Fr S w w') (h1 : ¬ S ib) (h2 : ¬ S rb) (h3 : ¬ S B) : In w' ib rb B L r :=
  ⟨h.h.fr f h1, h.a.fr f h2 h3, h.n1, h.n2⟩
set_option maxRecDepth 100000 in
theorem In.kept {w w' : World} {ib rb B : Nat} {L : List UInt8} {r : Bool} (h : In w ib rb B L r) (hg : w.grownBy w' none) : In w' ib rb B L r :=
  h.fr (S := fun _ => False) (Fr.ofNone hg) (fun e => e) (fun e => e) (fun e => e)
set_option maxRecDepth 100000 in
theorem In.did {w w' : World} {ib rb B : Nat} {L L' : List UInt8} {r : Bool} (h : In w ib rb B L r) (d : RDid w w' rb B (L', 0)) : In w' ib rb B L' r :=
  ⟨h.h.fr d.f (fun e => h.n1 e), d.a, h.n1, h.n2⟩

def give : List PanicEntry := [{ v := .iface 30 (.int .i64 72), recovered := false }]

set_option maxRecDepth 100000 in
theorem left_c (ib rb B : Nat) (L : List UInt8) (r : Bool) (w : World) (h : In w ib rb B L r) :
    Calls Tryz.prog 157 #[pv ib] w fun e w' => e = .returned (.int .i64 (L.length : Nat)) ∧ w' = w := by
  have c0 : w.cell? ⟨ib, 0, none⟩ = some (pv rb) := h.h.cellv 0 _ rfl
  have HA : Keep (RAt w rb B (L, 0)) := ⟨h.a⟩
  clear h
  go_enter Tryz.func157, Tryz.ntmps157
  go_wp2_with fail
  refine (rLeft_c rb B (L, 0) w HA.out).mono ?_
  rintro e w1 ⟨rfl, rfl⟩
  go_wp2
  go_ret
  exact ⟨rfl, rfl⟩

set_option maxHeartbeats 4000000 in
set_option maxRecDepth 100000 in
theorem need_ok (ib rb B : Nat) (L : List UInt8) (r : Bool) (n : Int) (w : World) (h : In w ib rb B L r) (h0 : 0 ≤ n) (h1 : n ≤ (L.length : Int)) :
    Calls Tryz.prog 183 #[pv ib, .int .i64 n] w fun e w' => e = .returned (.tuple #[]) ∧ w.grownBy w' none := by
  have HA : Keep (In w ib rb B L r) := ⟨h⟩
  have hd : decide (n < 0) = false := by simp; omega
  have hd2 : decide ((L.length : Int) < n) = false := by simp; omega
  clear h
  go_enter Tryz.func183, Tryz.ntmps183
  go_wp2_with fail
  refine (left_c ib rb B L r w HA.out).mono ?_
  rintro e w1 ⟨rfl, rfl⟩
  go_wp2
  go_end0
  exact ⟨rfl, World.grownBy.refl _ _⟩

set_option maxHeartbeats 4000000 in
set_option maxRecDepth 100000 in
theorem need_no (ib rb B : Nat) (L : List UInt8) (r : Bool) (n : Int) (w : World) (h : In w ib rb B L r) (hn : n < 0 ∨ (L.length : Int) < n) :
    Calls Tryz.prog 183 #[pv ib, .int .i64 n] w fun e w' => e = .panicked give ∧ w.grownBy w' none := by
  have HA : Keep (In w ib rb B L r) := ⟨h⟩
  clear h
  by_cases h0 : n < 0
  · have hd : decide (n < 0) = true := by simpa using h0
    clear h0 hn
    go_enter Tryz.func183, Tryz.ntmps183
    go_wp2
    exact ⟨rfl, rfl, World.grownBy.refl _ _⟩
  · have hd : decide (n < 0) = false := by simpa using h0
    have hd2 : decide ((L.length : Int) < n) = true := by simp; omega
    clear h0 hn
    go_enter Tryz.func183, Tryz.ntmps183
    go_wp2_with fail
    refine (left_c ib rb B L r w HA.out).mono ?_
    rintro e w1 ⟨rfl, rfl⟩
    go_wp2
    exact ⟨rfl, rfl, World.grownBy.refl _ _⟩

set_option maxRecDepth 100000 in
theorem need_some {L : List UInt8} {n : Int} {p : List UInt8 × List UInt8} (h : need L n = some p) : 0 ≤ n ∧ n ≤ (L.length : Int) ∧ p = (L.take n.toNat, L.drop n.toNat) := by
  unfold need at h
  split at h
  · cases h
  · rename_i hc
    injection h with h
    exact ⟨by omega, by omega, h.symm⟩
set_option maxRecDepth 100000 in
theorem need_none {L : List UInt8} {n : Int} (h : need L n = none) : n < 0 ∨ (L.length : Int) < n := by
  unfold need at h
  split at h
  · assumption
  · cases h
set_option maxRecDepth 100000 in
theorem rTake_need {L : List UInt8} {n : Int} {p : List UInt8 × List UInt8} (h : need L n = some p) : rTake (L, 0) n = (p.1, (p.2, 0)) := by
  obtain ⟨h0, h1, rfl⟩ := need_some h
  unfold rTake
  dsimp only
  rw [if_neg (by omega), if_neg (by omega)]
set_option maxRecDepth 100000 in
theorem rNumL_need {L : List UInt8} {n : Int} {p : List UInt8 × List UInt8} (hs : sized n) (h : need L n = some p) : rNumL (L, 0) n = (p.1, (p.2, 0)) := by
  unfold rNumL
  rw [if_pos hs, rTake_need h]

set_option maxHeartbeats 4000000 in
set_option maxRecDepth 100000 in
theorem bytes_ok (ib rb B : Nat) (L : List UInt8) (r : Bool) (n : Int) (p : List UInt8 × List UInt8) (w : World) (h : In w ib rb B L r) (hp : need L n = some p) :
    Calls Tryz.prog 134 #[pv ib, .int .i64 n] w fun e w' => e = .returned (.string (ba p.1)) ∧ RDid w w' rb B (p.2, 0) := by
  have HA : Keep (In w ib rb B L r ∧ need L n = some p) := ⟨h, hp⟩
  clear h hp
  go_enter Tryz.func134, Tryz.ntmps134
  go_wp2_with fail
  refine (need_ok ib rb B L r n w HA.out.1 (need_some HA.out.2).1 (need_some HA.out.2).2.1).mono ?_
  rintro e w1 ⟨rfl, g1⟩
  have c0 : w1.cell? ⟨ib, 0, none⟩ = some (pv rb) := (HA.out.1.kept g1).h.cellv 0 _ rfl
  have HB : Keep (w.grownBy w1 none ∧ RAt w1 rb B (L, 0)) := ⟨g1, (HA.out.1.kept g1).a⟩
  clear g1
  go_wp2_with fail
  refine (rBytes_c rb B (L, 0) n w1 HB.out.2).mono ?_
  rintro e w2 ⟨rfl, d2⟩
  rw [rTake_need HA.out.2] at d2 ⊢
  have HD : Keep (RDid w w2 rb B (p.2, 0)) := ⟨d2.ahead HB.out.1⟩
  clear d2
  go_wp2
  go_ret
  exact ⟨rfl, HD.out⟩
set_option maxHeartbeats 4000000 in
set_option maxRecDepth 100000 in
theorem bytes_no (ib rb B : Nat) (L : List UInt8) (r : Bool) (n : Int) (w : World) (h : In w ib rb B L r) (hp : need L n = none) :
    Calls Tryz.prog 134 #[pv ib, .int .i64 n] w fun e w' => e = .panicked give ∧ w.grownBy w' none := by
  go_enter Tryz.func134, Tryz.ntmps134
  go_wp2_with fail
  refine (need_no ib rb B L r n w h (need_none hp)).mono ?_
  rintro e w1 ⟨rfl, g1⟩
  exact ⟨rfl, rfl, g1⟩

set_option maxHeartbeats 4000000 in
set_option maxRecDepth 100000 in
theorem number_ok (ib rb B : Nat) (L : List UInt8) (r : Bool) (n : Int) (p : List UInt8 × List UInt8) (w : World) (h : In w ib rb B L r) (hs : sized n) (hp : need L n = some p) :
    Calls Tryz.prog 146 #[pv ib, .int .i64 n] w fun e w' => e = .returned (.int .u64 (val p.1 : Nat)) ∧ RDid w w' rb B (p.2, 0) := by
  have HA : Keep (In w ib rb B L r ∧ need L n = some p ∧ sized n) := ⟨h, hp, hs⟩
  clear h hp hs
  go_enter Tryz.func146, Tryz.ntmps146
  go_wp2_with fail
  refine (need_ok ib rb B L r n w HA.out.1 (need_some HA.out.2.1).1 (need_some HA.out.2.1).2.1).mono ?_
  rintro e w1 ⟨rfl, g1⟩
  have c0 : w1.cell? ⟨ib, 0, none⟩ = some (pv rb) := (HA.out.1.kept g1).h.cellv 0 _ rfl
  have HB : Keep (w.grownBy w1 none ∧ RAt w1 rb B (L, 0)) := ⟨g1, (HA.out.1.kept g1).a⟩
  clear g1
  go_wp2_with fail
  refine (rNumber_c rb B (L, 0) n w1 HB.out.2).mono ?_
  rintro e w2 ⟨rfl, d2⟩
  rw [rNum, rNumL_need HA.out.2.2 HA.out.2.1] at d2 ⊢
  have HD : Keep (RDid w w2 rb B (p.2, 0)) := ⟨d2.ahead HB.out.1⟩
  clear d2
  dsimp only
  generalize hq : val p.1 = q
  have HQ : Keep (val p.1 = q) := ⟨hq⟩
  clear hq
  go_wp2
  go_ret
  exact ⟨by rw [HQ.out]; rfl, HD.out⟩
set_option maxHeartbeats 4000000 in
set_option maxRecDepth 100000 in
theorem number_no (ib rb B : Nat) (L : List UInt8) (r : Bool) (n : Int) (w : World) (h : In w ib rb B L r) (hp : need L n = none) :
    Calls Tryz.prog 146 #[pv ib, .int .i64 n] w fun e w' => e = .panicked give ∧ w.grownBy w' none := by
  go_enter Tryz.func146, Tryz.ntmps146
  go_wp2_with fail
  refine (need_no ib rb B L r n w h (need_none hp)).mono ?_
  rintro e w1 ⟨rfl, g1⟩
  exact ⟨rfl, rfl, g1⟩

set_option maxHeartbeats 4000000 in
set_option maxRecDepth 100000 in
theorem signed_ok (ib rb B : Nat) (L : List UInt8) (r : Bool) (n : Int) (p : List UInt8 × List UInt8) (w : World) (h : In w ib rb B L r) (hs : sized n) (hp : need L n = some p) :
    Calls Tryz.prog 191 #[pv ib, .int .i64 n] w fun e w' => e = .returned (.int .i64 (sval p.1)) ∧ RDid w w' rb B (p.2, 0) := by
  have HA : Keep (In w ib rb B L r ∧ need L n = some p ∧ sized n) := ⟨h, hp, hs⟩
  clear h hp hs
  go_enter Tryz.func191, Tryz.ntmps191
  go_wp2_with fail
  refine (need_ok ib rb B L r n w HA.out.1 (need_some HA.out.2.1).1 (need_some HA.out.2.1).2.1).mono ?_
  rintro e w1 ⟨rfl, g1⟩
  have c0 : w1.cell? ⟨ib, 0, none⟩ = some (pv rb) := (HA.out.1.kept g1).h.cellv 0 _ rfl
  have HB : Keep (w.grownBy w1 none ∧ RAt w1 rb B (L, 0)) := ⟨g1, (HA.out.1.kept g1).a⟩
  clear g1
  go_wp2_with fail
  refine (rSigned_c rb B (L, 0) n w1 HB.out.2).mono ?_
  rintro e w2 ⟨rfl, d2⟩
  rw [rSig, rNumL_need HA.out.2.2 HA.out.2.1] at d2 ⊢
  have HD : Keep (RDid w w2 rb B (p.2, 0)) := ⟨d2.ahead HB.out.1⟩
  clear d2
  dsimp only
  generalize hq : sval p.1 = q
  have HQ : Keep (sval p.1 = q) := ⟨hq⟩
  clear hq
  go_wp2
  go_ret
  exact ⟨by rw [HQ.out]; rfl, HD.out⟩
set_option maxHeartbeats 4000000 in
set_option maxRecDepth 100000 in
theorem signed_no (ib rb B : Nat) (L : List UInt8) (r : Bool) (n : Int) (w : World) (h : In w ib rb B L r) (hp : need L n = none) :
    Calls Tryz.prog 191 #[pv ib, .int .i64 n] w fun e w' => e = .panicked give ∧ w.grownBy w' none := by
  go_enter Tryz.func191, Tryz.ntmps191
  go_wp2_with fail
  refine (need_no ib rb B L r n w h (need_none hp)).mono ?_
  rintro e w1 ⟨rfl, g1⟩
  exact ⟨rfl, rfl, g1⟩

set_option maxRecDepth 100000 in
theorem val1 {l : List UInt8} (h : l.length ≤ 1) : val l < 256 := by
  have := val_lt l
  have : 256 ^ l.length ≤ 256 ^ 1 := Nat.pow_le_pow_right (by decide) h
  omega
set_option maxRecDepth 100000 in
theorem need_len {L : List UInt8} {n : Int} {p : List UInt8 × List UInt8} (h : need L n = some p) : (p.1.length : Int) = n ∧ L = p.1 ++ p.2 := by
  obtain ⟨h0, h1, rfl⟩ := need_some h
  refine ⟨?_, (List.take_append_drop _ _).symm⟩
  rw [List.length_take]; omega

set_option maxHeartbeats 4000000 in
set_option maxRecDepth 100000 in
theorem text_ok (ib rb B : Nat) (L : List UInt8) (r : Bool) (p q : List UInt8 × List UInt8) (w : World) (h : In w ib rb B L r) (hp : need L 1 = some p) (hq : need p.2 (val p.1 : Nat) = some q) :
    Calls Tryz.prog 140 #[pv ib] w fun e w' => e = .returned (.string (ba q.1)) ∧ RDid w w' rb B (q.2, 0) := by
  have HA : Keep (In w ib rb B L r ∧ need L 1 = some p ∧ need p.2 (val p.1 : Nat) = some q) := ⟨h, hp, hq⟩
  have hv : val p.1 < 256 := val1 (by have := (need_len hp).1; omega)
  clear h hp hq
  go_enter Tryz.func140, Tryz.ntmps140
  go_wp2_with fail
  refine (number_ok ib rb B L r 1 p w HA.out.1 (by decide) HA.out.2.1).mono ?_
  rintro e w1 ⟨rfl, d1⟩
  have HB : Keep (RDid w w1 rb B (p.2, 0) ∧ In w1 ib rb B p.2 r) := ⟨d1, HA.out.1.did d1⟩
  clear d1
  generalize hm : val p.1 = m at hv HA
  go_wp2_with fail
  refine (bytes_ok ib rb B p.2 r (m : Nat) q w1 HB.out.2 HA.out.2.2).mono ?_
  rintro e w2 ⟨rfl, d2⟩
  have HD : Keep (RDid w w2 rb B (q.2, 0)) := ⟨HB.out.1.trans d2⟩
  clear d2
  generalize hq : ba q.1 = q1
  have HQ : Keep (ba q.1 = q1) := ⟨hq⟩
  clear hq
  go_wp2
  go_ret
  exact ⟨by rw [HQ.out]; rfl, HD.out⟩
set_option maxHeartbeats 4000000 in
set_option maxRecDepth 100000 in
theorem text_no (ib rb B : Nat) (L : List UInt8) (r : Bool) (w : World) (h : In w ib rb B L r) (hn : ((need L 1).bind fun p => need p.2 (val p.1 : Nat)) = none) :
    Calls Tryz.prog 140 #[pv ib] w fun e w' => e = .panicked give ∧ Fr (fun i => i = rb) w w' := by
  cases hp : need L 1 with
  | none =>
    go_enter Tryz.func140, Tryz.ntmps140
    go_wp2_with fail
    refine (number_no ib rb B L r 1 w h hp).mono ?_
    rintro e w1 ⟨rfl, g1⟩
    exact ⟨rfl, rfl, Fr.ofNone g1⟩
  | some p =>
    rw [hp] at hn
    have HA : Keep (In w ib rb B L r ∧ need L 1 = some p ∧ need p.2 (val p.1 : Nat) = none) := ⟨h, hp, hn⟩
    have hv : val p.1 < 256 := val1 (by have := (need_len hp).1; omega)
    clear h hp hn
    go_enter Tryz.func140, Tryz.ntmps140
    go_wp2_with fail
    refine (number_ok ib rb B L r 1 p w HA.out.1 (by decide) HA.out.2.1).mono ?_
    rintro e w1 ⟨rfl, d1⟩
    have HB : Keep (RDid w w1 rb B (p.2, 0) ∧ In w1 ib rb B p.2 r) := ⟨d1, HA.out.1.did d1⟩
    clear d1
    generalize hm : val p.1 = m at hv HA
    go_wp2_with fail
    refine (bytes_no ib rb B p.2 r (m : Nat) w1 HB.out.2 HA.out.2.2).mono ?_
    rintro e w2 ⟨rfl, g2⟩
    exact ⟨rfl, rfl, HB.out.1.f.trans (Fr.ofNone g2)⟩

set_option maxHeartbeats 4000000 in
set_option maxRecDepth 100000 in
theorem iallow_c (ib rb B : Nat) (L : List UInt8) (r ok : Bool) (w : World) (h : In w ib rb B L r) :
    Calls Tryz.prog 133 #[pv ib, .bool ok] w fun e w' => e = .returned (.tuple #[]) ∧ In w' ib rb B L (r || !ok) ∧ Fr (fun i => i = ib) w w' := by
  have c1 : w.cell? ⟨ib, 1, none⟩ = some (.bool r) := h.h.cellv 1 _ rfl
  have z1 : w.frozen? ⟨ib, 1, none⟩ = false := h.h.frozen 1
  have HA : Keep (∀ x, In (w.setCell ⟨ib, 1, none⟩ (.bool x)) ib rb B L x ∧ Fr (fun i => i = ib) w (w.setCell ⟨ib, 1, none⟩ (.bool x))) := ⟨fun x => by
    have f : Fr (fun i => i = ib) w (w.setCell ⟨ib, 1, none⟩ (.bool x)) := Fr.ofSome (gr_set w ib 1 (.bool x)) rfl
    exact ⟨⟨h.h.setCell 1 (.bool x), h.a.fr f (fun e => h.n1 e.symm) (fun e => h.n2 e.symm), h.n1, h.n2⟩, f⟩⟩
  clear h
  cases r
  all_goals
    go_enter Tryz.func133, Tryz.ntmps133
    go_wp2
    go_end0
    exact ⟨rfl, by simpa using HA.out _⟩
set_option maxHeartbeats 4000000 in
set_option maxRecDepth 100000 in
theorem idone_c (ib rb B : Nat) (L : List UInt8) (r : Bool) (w : World) (h : In w ib rb B L r) :
    Calls Tryz.prog 88 #[pv ib] w fun e w' => e = .returned (.int .i64 (if 0 < L.length then 72 else if r then 73 else 0)) ∧ w' = w := by
  have c1 : w.cell? ⟨ib, 1, none⟩ = some (.bool r) := h.h.cellv 1 _ rfl
  have HA : Keep (In w ib rb B L r) := ⟨h⟩
  clear h
  by_cases h0 : 0 < L.length
  · rw [if_pos h0]
    have hd : decide (0 < L.length) = true := decide_eq_true h0
    clear h0
    go_enter Tryz.func88, Tryz.ntmps88
    go_wp2_with fail
    refine (left_c ib rb B L r w HA.out).mono ?_
    rintro e w1 ⟨rfl, rfl⟩
    go_wp2
    go_ret
    exact ⟨rfl, rfl⟩
  · rw [if_neg h0]
    have hd : decide (0 < L.length) = false := decide_eq_false h0
    clear h0
    cases r
    all_goals
      go_enter Tryz.func88, Tryz.ntmps88
      go_wp2_with fail
      refine (left_c ib rb B L _ w HA.out).mono ?_
      rintro e w1 ⟨rfl, rfl⟩
      go_wp2
      go_ret
      exact ⟨rfl, rfl⟩
set_option maxHeartbeats 4000000 in
set_option maxRecDepth 100000 in
theorem newI_c (s : ByteArray) (w : World) :
    Calls Tryz.prog 87 #[.string s] w fun e w' => ∃ ib rb B, e = .returned (pv ib) ∧ In w' ib rb B (sl s) false ∧ w.grownBy w' none ∧ w.heap.size ≤ ib ∧ w.heap.size ≤ rb ∧ w.heap.size ≤ B := by
  go_enter Tryz.func87, Tryz.ntmps87
  go_wp2_with fail
  refine (newR_c s w).mono ?_
  rintro e w1 ⟨rb, B, rfl, a1, g1, h1, h2⟩
  have HB : Keep (RAt w1 rb B (sl s, 0) ∧ w.grownBy w1 none ∧ w.heap.size ≤ rb ∧ w.heap.size ≤ B) := ⟨a1, g1, h1, h2⟩
  clear a1 g1 h1 h2
  go_wp2
  go_ret
  obtain ⟨a1, g1, h1, h2⟩ := HB.out
  have g2 := World.grownBy_alloc w1 (.cells #[pv rb, .bool false] 196) none
  refine ⟨_, rb, B, rfl, ⟨Has.newA w1 _ 196, a1.kept g2, ?_, ?_⟩, g1.trans g2, g1.size, h1, h2⟩
  · obtain ⟨_, _, h3, _⟩ := a1.h
    have := h3.lt; omega
  · have := a1.lt; omega
end Go.Proofs.YtldnpebnpbahjaaGreatDoor.Pk
