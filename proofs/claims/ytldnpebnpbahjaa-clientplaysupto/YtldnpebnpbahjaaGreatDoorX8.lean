import Derived.Test.YtldnpebnpbahjaaGreatDoorX5
import Derived.Defers
import Derived.Recover
import Derived.Deep.RegionHeld
set_option maxRecDepth 100000
set_option maxHeartbeats 8000000
namespace Go.Proofs.YtldnpebnpbahjaaGreatDoor.Pk
open Go Go.RowKit
@[ext] structure Dg where
  kind : Int
  nonce : ByteArray
  epoch : Nat
  cookie : ByteArray
  name : ByteArray
  session : Nat
  player : Int
  salt : ByteArray
  seq : Nat
  thr : Int
  turn : Int
  fire : Bool
  boost : Bool
  data : ByteArray
  tag : ByteArray
def Dg.cells (d : Dg) : List Value := [.int .i64 d.kind, .string d.nonce, .int .u64 d.epoch, .string d.cookie, .string d.name, .int .u64 d.session, .int .i64 d.player, .string d.salt, .int .u64 d.seq, .int .i64 d.thr, .int .i64 d.turn, .bool d.fire, .bool d.boost, .string d.data, .string d.tag]
structure Dg.fine (d : Dg) : Prop where
  k : -9223372036854775808 ≤ d.kind ∧ d.kind < 9223372036854775808
  e : d.epoch < 18446744073709551616
  s : d.session < 18446744073709551616
  p : -9223372036854775808 ≤ d.player ∧ d.player < 9223372036854775808
  q : d.seq < 18446744073709551616
  h : -9223372036854775808 ≤ d.thr ∧ d.thr < 9223372036854775808
  t : -9223372036854775808 ≤ d.turn ∧ d.turn < 9223372036854775808
def nob : ByteArray := { data := #[] }
def Dg.zero (k : Int) : Dg := ⟨k, nob, 0, nob, nob, 0, 0, nob, 0, 0, 0, false, false, nob, nob⟩
inductive Fd where
  | nonce | zeros | epoch | cookie | name | tag | session | player | salt | seq | thr | turn | flags | view
def fieldsL (k : Int) : List Fd :=
  if k = 1 then [.nonce, .zeros] else if k = 2 then [.nonce, .epoch, .cookie] else if k = 3 then [.nonce, .epoch, .cookie, .name, .tag]
  else if k = 4 then [.nonce, .session, .player, .salt, .tag] else if k = 5 then [.session, .seq, .thr, .turn, .flags, .tag]
  else if k = 6 then [.session, .seq, .view, .tag] else if k = 7 then [.session, .seq, .tag] else []
abbrev TS := Dg × List UInt8 × Bool
def need (L : List UInt8) (n : Int) : Option (List UInt8 × List UInt8) := if n < 0 ∨ (L.length : Int) < n then none else some (L.take n.toNat, L.drop n.toNat)
abbrev ba (l : List UInt8) : ByteArray := ⟨l.toArray⟩
def zero76 : List UInt8 := List.replicate 76 0
def tk : Fd → TS → Option TS
  | .nonce, (d, L, r) => (need L 16).map fun p => ({ d with nonce := ba p.1 }, p.2, r)
  | .salt, (d, L, r) => (need L 16).map fun p => ({ d with salt := ba p.1 }, p.2, r)
  | .cookie, (d, L, r) => (need L 32).map fun p => ({ d with cookie := ba p.1 }, p.2, r)
  | .tag, (d, L, r) => (need L 32).map fun p => ({ d with tag := ba p.1 }, p.2, r)
  | .epoch, (d, L, r) => (need L 8).map fun p => ({ d with epoch := val p.1 }, p.2, r)
  | .session, (d, L, r) => (need L 8).map fun p => ({ d with session := val p.1 }, p.2, r)
  | .seq, (d, L, r) => (need L 8).map fun p => ({ d with seq := val p.1 }, p.2, r)
  | .thr, (d, L, r) => (need L 1).map fun p => ({ d with thr := sval p.1 }, p.2, r)
  | .turn, (d, L, r) => (need L 1).map fun p => ({ d with turn := sval p.1 }, p.2, r)
  | .player, (d, L, r) => (need L 1).map fun p => ({ d with player := (val p.1 : Nat) }, p.2, r)
  | .flags, (d, L, r) => (need L 1).map fun p => ({ d with fire := decide (val p.1 % 2 = 1), boost := decide (val p.1 / 2 % 2 = 1) }, p.2, r || !decide (val p.1 ≤ 3))
  | .name, (d, L, r) => (need L 1).bind fun p => (need p.2 (val p.1 : Nat)).map fun q => ({ d with name := ba q.1 }, q.2, r)
  | .view, (d, L, r) => (need L ((L.length : Int) - 32)).map fun p => ({ d with data := ba p.1 }, p.2, r)
  | .zeros, (d, L, r) => (need L 76).map fun p => (d, p.2, r || !decide (p.1 = zero76))
def takes : List Fd → TS → Option TS
  | [], s => some s
  | f :: fs, s => (tk f s).bind (takes fs)
def magic : List UInt8 := [74, 48, 49]
def kindL (s : List UInt8) : Int := if s.length < 4 ∨ s.take 3 ≠ magic then 0 else ((s.getD 3 0).toNat : Int)
def ended : Option TS → Dg × Int
  | none => (Dg.zero 0, 72)
  | some (d, L, r) => if 0 < L.length then (Dg.zero 0, 72) else if r then (Dg.zero 0, 73) else (d, 0)
def dec (s : List UInt8) : Dg × Int :=
  if 1200 < s.length then (Dg.zero 0, 72) else if s.take 3 ≠ magic then (Dg.zero 0, 70) else if fieldsL (kindL s) = [] then (Dg.zero 0, 71)
  else ended (takes (fieldsL (kindL s)) (Dg.zero (kindL s), s.drop 4, false))
abbrev LS := WS × Bool
def flagsN (d : Dg) : Nat := (if d.fire then 1 else 0) + (if d.boost then 2 else 0)
def ly (d : Dg) : Fd → LS → LS
  | .nonce, (st, r) => (wBytes st (sl d.nonce), r || !decide (d.nonce.size = 16))
  | .salt, (st, r) => (wBytes st (sl d.salt), r || !decide (d.salt.size = 16))
  | .cookie, (st, r) => (wBytes st (sl d.cookie), r || !decide (d.cookie.size = 32))
  | .tag, (st, r) => (wBytes st (sl d.tag), r || !decide (d.tag.size = 32))
  | .epoch, (st, r) => (wNum st d.epoch 8, r)
  | .session, (st, r) => (wNum st d.session 8, r)
  | .seq, (st, r) => (wNum st d.seq 8, r)
  | .thr, (st, r) => (wSig st d.thr 1, r)
  | .turn, (st, r) => (wSig st d.turn 1, r)
  | .player, (st, r) => (wNum st (Pk.u64 d.player) 1, r)
  | .flags, (st, r) => (wNum st (flagsN d) 1, r)
  | .name, (st, r) => (wText st (sl d.name), r)
  | .view, (st, r) => (wBytes st (sl d.data), r)
  | .zeros, (st, r) => (wBytes st zero76, r)
def lays (d : Dg) (fs : List Fd) (s : LS) : LS := fs.foldl (fun s f => ly d f s) s
def finish : LS → List UInt8 × Int
  | (none, _) => ([], 73)
  | (some L, r) => if r then ([], 73) else if 1200 < L.length then ([], 72) else (L, 0)
def headL (d : Dg) : List UInt8 := magic ++ [UInt8.ofNat (Pk.u64 d.kind % 256)]
def enc (d : Dg) : List UInt8 × Int := if fieldsL d.kind = [] then ([], 71) else finish (lays d (fieldsL d.kind) (some (headL d), false))
def bodyL (s : List UInt8) : List UInt8 := if s.length < 36 ∨ ¬ (3 ≤ kindL s ∧ kindL s ≤ 7) then [] else s.take (s.length - 32)
open Go.Proofs.Tryz
abbrev pv (b : Nat) : Value := .pointer (some ⟨b, 0, none⟩)
structure In (w : World) (ib rb B : Nat) (L : List UInt8) (r : Bool) : Prop where
  h : Has w ib [pv rb, .bool r] 196
  a : RAt w rb B (L, 0)
  n1 : ib ≠ rb
  n2 : ib ≠ B
def IF (ib rb : Nat) (i : Nat) : Prop := i = ib ∨ i = rb
theorem In.lt {w : World} {ib rb B : Nat} {L : List UInt8} {r : Bool} (h : In w ib rb B L r) : ∀ i, IF ib rb i → i < w.heap.size := fun i hi => by
  obtain ⟨_, _, h2, _⟩ := h.a.h; rcases hi with rfl | rfl
  · exact h.h.lt
  · exact h2.lt
theorem In.fr {S : Nat → Prop} {w w' : World} {ib rb B : Nat} {L : List UInt8} {r : Bool} (h : In w ib rb B L r) (f : Fr S w w') (h1 : ¬ S ib) (h2 : ¬ S rb) (h3 : ¬ S B) : In w' ib rb B L r :=
  ⟨h.h.fr f h1, h.a.fr f h2 h3, h.n1, h.n2⟩
theorem In.kept {w w' : World} {ib rb B : Nat} {L : List UInt8} {r : Bool} (h : In w ib rb B L r) (hg : w.grownBy w' none) : In w' ib rb B L r :=
  h.fr (S := fun _ => False) (Fr.ofNone hg) (fun e => e) (fun e => e) (fun e => e)
theorem In.did {w w' : World} {ib rb B : Nat} {L L' : List UInt8} {r : Bool} (h : In w ib rb B L r) (d : RDid w w' rb B (L', 0)) : In w' ib rb B L' r :=
  ⟨h.h.fr d.f (fun e => h.n1 e), d.a, h.n1, h.n2⟩
def give : List PanicEntry := [{ v := .iface 30 (.int .i64 72), recovered := false }]
theorem left_c (ib rb B : Nat) (L : List UInt8) (r : Bool) (w : World) (h : In w ib rb B L r) :
    CRs 157 #[pv ib] w (.int .i64 (L.length : Nat)) := by
  have c0 : w.cell? ⟨ib, 0, none⟩ = some (pv rb) := h.h.cellv 0 _ rfl; have HA : Kp (RAt w rb B (L, 0)) := ⟨h.a⟩; clear h; go_enter func157, ntmps157; go_wp2_with fail; refine (rLeft_c rb B (L, 0) w HA.out).mono ?_; rintro e w1 ⟨rfl, rfl⟩
  go_wp2
  go_ret; exact ⟨rfl, rfl⟩
theorem need_ok (ib rb B : Nat) (L : List UInt8) (r : Bool) (n : Int) (w : World) (h : In w ib rb B L r) (h0 : 0 ≤ n) (h1 : n ≤ (L.length : Int)) :
    CRt 183 #[pv ib, .int .i64 n] w (.tuple #[]) := by
  have HA : Kp (In w ib rb B L r) := ⟨h⟩; have hd : decide (n < 0) = false := by simp; omega
  have hd2 : decide ((L.length : Int) < n) = false := by simp; omega
  clear h; go_enter func183, ntmps183; go_wp2_with fail; refine (left_c ib rb B L r w HA.out).mono ?_; rintro e w1 ⟨rfl, rfl⟩
  go_wp2
  go_end0
  exact ⟨rfl, World.grownBy.refl _ _⟩
theorem need_no (ib rb B : Nat) (L : List UInt8) (r : Bool) (n : Int) (w : World) (h : In w ib rb B L r) (hn : n < 0 ∨ (L.length : Int) < n) :
    Calls prog 183 #[pv ib, .int .i64 n] w fun e w' => e = .panicked give ∧ w.grownBy w' none := by
  have HA : Kp (In w ib rb B L r) := ⟨h⟩; clear h; by_cases h0 : n < 0
  · (have hd : decide (n < 0) = true := by simpa using h0); clear h0 hn; go_enter func183, ntmps183
    go_wp2
    exact ⟨rfl, rfl, World.grownBy.refl _ _⟩
  · (have hd : decide (n < 0) = false := by simpa using h0); (have hd2 : decide ((L.length : Int) < n) = true := by simp; omega); clear h0 hn; go_enter func183, ntmps183; go_wp2_with fail; refine (left_c ib rb B L r w HA.out).mono ?_; rintro e w1 ⟨rfl, rfl⟩
    go_wp2
    exact ⟨rfl, rfl, World.grownBy.refl _ _⟩
theorem need_some {L : List UInt8} {n : Int} {p : List UInt8 × List UInt8} (h : need L n = some p) : 0 ≤ n ∧ n ≤ (L.length : Int) ∧ p = (L.take n.toNat, L.drop n.toNat) := by
  unfold need at h; split at h
  · cases h
  · rename_i hc; injection h with h
    exact ⟨by omega, by omega, h.symm⟩
theorem need_none {L : List UInt8} {n : Int} (h : need L n = none) : n < 0 ∨ (L.length : Int) < n := by
  unfold need at h; split at h
  · assumption
  · cases h
theorem rTake_need {L : List UInt8} {n : Int} {p : List UInt8 × List UInt8} (h : need L n = some p) : rTake (L, 0) n = (p.1, (p.2, 0)) := by
  obtain ⟨h0, h1, rfl⟩ := need_some h; unfold rTake; dsimp only; rw [if_neg (by omega), if_neg (by omega)]
theorem rNumL_need {L : List UInt8} {n : Int} {p : List UInt8 × List UInt8} (hs : sized n) (h : need L n = some p) : rNumL (L, 0) n = (p.1, (p.2, 0)) := by
  unfold rNumL; rw [if_pos hs, rTake_need h]
theorem bytes_ok (ib rb B : Nat) (L : List UInt8) (r : Bool) (n : Int) (p : List UInt8 × List UInt8) (w : World) (h : In w ib rb B L r) (hp : need L n = some p) :
    Calls prog 134 #[pv ib, .int .i64 n] w fun e w' => e = .returned (.string (ba p.1)) ∧ RDid w w' rb B (p.2, 0) := by
  have HA : Kp (In w ib rb B L r ∧ need L n = some p) := ⟨h, hp⟩; clear h hp; go_enter func134, ntmps134; go_wp2_with fail; refine (need_ok ib rb B L r n w HA.out.1 (need_some HA.out.2).1 (need_some HA.out.2).2.1).mono ?_; rintro e w1 ⟨rfl, g1⟩; have c0 : w1.cell? ⟨ib, 0, none⟩ = some (pv rb) := (HA.out.1.kept g1).h.cellv 0 _ rfl; have HB : Kp (w.grownBy w1 none ∧ RAt w1 rb B (L, 0)) := ⟨g1, (HA.out.1.kept g1).a⟩; clear g1; go_wp2_with fail; refine (rBytes_c rb B (L, 0) n w1 HB.out.2).mono ?_; rintro e w2 ⟨rfl, d2⟩; rw [rTake_need HA.out.2] at d2 ⊢; have HD : Kp (RDid w w2 rb B (p.2, 0)) := ⟨d2.ahead HB.out.1⟩; clear d2
  go_wp2
  go_ret; exact ⟨rfl, HD.out⟩
theorem bytes_no (ib rb B : Nat) (L : List UInt8) (r : Bool) (n : Int) (w : World) (h : In w ib rb B L r) (hp : need L n = none) :
    Calls prog 134 #[pv ib, .int .i64 n] w fun e w' => e = .panicked give ∧ w.grownBy w' none := by
  go_enter func134, ntmps134; go_wp2_with fail; refine (need_no ib rb B L r n w h (need_none hp)).mono ?_; rintro e w1 ⟨rfl, g1⟩; exact ⟨rfl, rfl, g1⟩
theorem number_ok (ib rb B : Nat) (L : List UInt8) (r : Bool) (n : Int) (p : List UInt8 × List UInt8) (w : World) (h : In w ib rb B L r) (hs : sized n) (hp : need L n = some p) :
    Calls prog 146 #[pv ib, .int .i64 n] w fun e w' => e = .returned (.int .u64 (val p.1 : Nat)) ∧ RDid w w' rb B (p.2, 0) := by
  have HA : Kp (In w ib rb B L r ∧ need L n = some p ∧ sized n) := ⟨h, hp, hs⟩; clear h hp hs; go_enter func146, ntmps146; go_wp2_with fail; refine (need_ok ib rb B L r n w HA.out.1 (need_some HA.out.2.1).1 (need_some HA.out.2.1).2.1).mono ?_; rintro e w1 ⟨rfl, g1⟩; have c0 : w1.cell? ⟨ib, 0, none⟩ = some (pv rb) := (HA.out.1.kept g1).h.cellv 0 _ rfl; have HB : Kp (w.grownBy w1 none ∧ RAt w1 rb B (L, 0)) := ⟨g1, (HA.out.1.kept g1).a⟩; clear g1; go_wp2_with fail; refine (rNumber_c rb B (L, 0) n w1 HB.out.2).mono ?_; rintro e w2 ⟨rfl, d2⟩; rw [rNum, rNumL_need HA.out.2.2 HA.out.2.1] at d2 ⊢; have HD : Kp (RDid w w2 rb B (p.2, 0)) := ⟨d2.ahead HB.out.1⟩; clear d2; dsimp only; generalize hq : val p.1 = q; have HQ : Kp (val p.1 = q) := ⟨hq⟩; clear hq
  go_wp2
  go_ret; exact ⟨by rw [HQ.out]; rfl, HD.out⟩
theorem number_no (ib rb B : Nat) (L : List UInt8) (r : Bool) (n : Int) (w : World) (h : In w ib rb B L r) (hp : need L n = none) :
    Calls prog 146 #[pv ib, .int .i64 n] w fun e w' => e = .panicked give ∧ w.grownBy w' none := by
  go_enter func146, ntmps146; go_wp2_with fail; refine (need_no ib rb B L r n w h (need_none hp)).mono ?_; rintro e w1 ⟨rfl, g1⟩; exact ⟨rfl, rfl, g1⟩
theorem signed_ok (ib rb B : Nat) (L : List UInt8) (r : Bool) (n : Int) (p : List UInt8 × List UInt8) (w : World) (h : In w ib rb B L r) (hs : sized n) (hp : need L n = some p) :
    Calls prog 191 #[pv ib, .int .i64 n] w fun e w' => e = .returned (.int .i64 (sval p.1)) ∧ RDid w w' rb B (p.2, 0) := by
  have HA : Kp (In w ib rb B L r ∧ need L n = some p ∧ sized n) := ⟨h, hp, hs⟩; clear h hp hs; go_enter func191, ntmps191; go_wp2_with fail; refine (need_ok ib rb B L r n w HA.out.1 (need_some HA.out.2.1).1 (need_some HA.out.2.1).2.1).mono ?_; rintro e w1 ⟨rfl, g1⟩; have c0 : w1.cell? ⟨ib, 0, none⟩ = some (pv rb) := (HA.out.1.kept g1).h.cellv 0 _ rfl; have HB : Kp (w.grownBy w1 none ∧ RAt w1 rb B (L, 0)) := ⟨g1, (HA.out.1.kept g1).a⟩; clear g1; go_wp2_with fail; refine (rSigned_c rb B (L, 0) n w1 HB.out.2).mono ?_; rintro e w2 ⟨rfl, d2⟩; rw [rSig, rNumL_need HA.out.2.2 HA.out.2.1] at d2 ⊢; have HD : Kp (RDid w w2 rb B (p.2, 0)) := ⟨d2.ahead HB.out.1⟩; clear d2; dsimp only; generalize hq : sval p.1 = q; have HQ : Kp (sval p.1 = q) := ⟨hq⟩; clear hq
  go_wp2
  go_ret; exact ⟨by rw [HQ.out]; rfl, HD.out⟩
theorem signed_no (ib rb B : Nat) (L : List UInt8) (r : Bool) (n : Int) (w : World) (h : In w ib rb B L r) (hp : need L n = none) :
    Calls prog 191 #[pv ib, .int .i64 n] w fun e w' => e = .panicked give ∧ w.grownBy w' none := by
  go_enter func191, ntmps191; go_wp2_with fail; refine (need_no ib rb B L r n w h (need_none hp)).mono ?_; rintro e w1 ⟨rfl, g1⟩; exact ⟨rfl, rfl, g1⟩
theorem val1 {l : List UInt8} (h : l.length ≤ 1) : val l < 256 := by
  have := val_lt l; have : 256 ^ l.length ≤ 256 ^ 1 := Nat.pow_le_pow_right (by decide) h; omega
theorem need_len {L : List UInt8} {n : Int} {p : List UInt8 × List UInt8} (h : need L n = some p) : (p.1.length : Int) = n ∧ L = p.1 ++ p.2 := by
  obtain ⟨h0, h1, rfl⟩ := need_some h; refine ⟨?_, (List.take_append_drop _ _).symm⟩; rw [List.length_take]; omega
theorem text_ok (ib rb B : Nat) (L : List UInt8) (r : Bool) (p q : List UInt8 × List UInt8) (w : World) (h : In w ib rb B L r) (hp : need L 1 = some p) (hq : need p.2 (val p.1 : Nat) = some q) :
    Calls prog 140 #[pv ib] w fun e w' => e = .returned (.string (ba q.1)) ∧ RDid w w' rb B (q.2, 0) := by
  have HA : Kp (In w ib rb B L r ∧ need L 1 = some p ∧ need p.2 (val p.1 : Nat) = some q) := ⟨h, hp, hq⟩; have hv : val p.1 < 256 := val1 (by have := (need_len hp).1; omega); clear h hp hq; go_enter func140, ntmps140; go_wp2_with fail; refine (number_ok ib rb B L r 1 p w HA.out.1 (by decide) HA.out.2.1).mono ?_; rintro e w1 ⟨rfl, d1⟩; have HB : Kp (RDid w w1 rb B (p.2, 0) ∧ In w1 ib rb B p.2 r) := ⟨d1, HA.out.1.did d1⟩; clear d1; generalize hm : val p.1 = m at hv HA; go_wp2_with fail; refine (bytes_ok ib rb B p.2 r (m : Nat) q w1 HB.out.2 HA.out.2.2).mono ?_; rintro e w2 ⟨rfl, d2⟩; have HD : Kp (RDid w w2 rb B (q.2, 0)) := ⟨HB.out.1.trans d2⟩; clear d2; generalize hq : ba q.1 = q1; have HQ : Kp (ba q.1 = q1) := ⟨hq⟩; clear hq
  go_wp2
  go_ret; exact ⟨by rw [HQ.out]; rfl, HD.out⟩
theorem text_no (ib rb B : Nat) (L : List UInt8) (r : Bool) (w : World) (h : In w ib rb B L r) (hn : ((need L 1).bind fun p => need p.2 (val p.1 : Nat)) = none) :
    Calls prog 140 #[pv ib] w fun e w' => e = .panicked give ∧ Fr (fun i => i = rb) w w' := by
  cases hp : need L 1 with
  | none =>
    go_enter func140, ntmps140; go_wp2_with fail; refine (number_no ib rb B L r 1 w h hp).mono ?_; rintro e w1 ⟨rfl, g1⟩; exact ⟨rfl, rfl, Fr.ofNone g1⟩
  | some p =>
    rw [hp] at hn; have HA : Kp (In w ib rb B L r ∧ need L 1 = some p ∧ need p.2 (val p.1 : Nat) = none) := ⟨h, hp, hn⟩; have hv : val p.1 < 256 := val1 (by have := (need_len hp).1; omega); clear h hp hn; go_enter func140, ntmps140; go_wp2_with fail; refine (number_ok ib rb B L r 1 p w HA.out.1 (by decide) HA.out.2.1).mono ?_; rintro e w1 ⟨rfl, d1⟩; have HB : Kp (RDid w w1 rb B (p.2, 0) ∧ In w1 ib rb B p.2 r) := ⟨d1, HA.out.1.did d1⟩; clear d1; generalize hm : val p.1 = m at hv HA; go_wp2_with fail; refine (bytes_no ib rb B p.2 r (m : Nat) w1 HB.out.2 HA.out.2.2).mono ?_; rintro e w2 ⟨rfl, g2⟩; exact ⟨rfl, rfl, HB.out.1.f.trans (Fr.ofNone g2)⟩
theorem iallow_c (ib rb B : Nat) (L : List UInt8) (r ok : Bool) (w : World) (h : In w ib rb B L r) :
    Calls prog 133 #[pv ib, .bool ok] w fun e w' => e = .returned (.tuple #[]) ∧ In w' ib rb B L (r || !ok) ∧ Fr (fun i => i = ib) w w' := by
  have c1 : w.cell? ⟨ib, 1, none⟩ = some (.bool r) := h.h.cellv 1 _ rfl; have z1 : w.frozen? ⟨ib, 1, none⟩ = false := h.h.frozen 1
  have HA : Kp (∀ x, In (w.setCell ⟨ib, 1, none⟩ (.bool x)) ib rb B L x ∧ Fr (fun i => i = ib) w (w.setCell ⟨ib, 1, none⟩ (.bool x))) := ⟨fun x => by
    have f : Fr (fun i => i = ib) w (w.setCell ⟨ib, 1, none⟩ (.bool x)) := Fr.ofSome (gr_set w ib 1 (.bool x)) rfl
    exact ⟨⟨h.h.setCell 1 (.bool x), h.a.fr f (fun e => h.n1 e.symm) (fun e => h.n2 e.symm), h.n1, h.n2⟩, f⟩⟩
  clear h; cases r
  all_goals
    go_enter func133, ntmps133
    go_wp2
    go_end0
    exact ⟨rfl, by simpa using HA.out _⟩
theorem idone_c (ib rb B : Nat) (L : List UInt8) (r : Bool) (w : World) (h : In w ib rb B L r) :
    CRs 88 #[pv ib] w (.int .i64 (if 0 < L.length then 72 else if r then 73 else 0)) := by
  have c1 : w.cell? ⟨ib, 1, none⟩ = some (.bool r) := h.h.cellv 1 _ rfl; have HA : Kp (In w ib rb B L r) := ⟨h⟩; clear h; by_cases h0 : 0 < L.length
  · rw [if_pos h0]; have hd : decide (0 < L.length) = true := decide_eq_true h0; clear h0; go_enter func88, ntmps88; go_wp2_with fail; refine (left_c ib rb B L r w HA.out).mono ?_; rintro e w1 ⟨rfl, rfl⟩
    go_wp2
    go_ret; exact ⟨rfl, rfl⟩
  · rw [if_neg h0]; have hd : decide (0 < L.length) = false := decide_eq_false h0; clear h0; cases r
    all_goals
      go_enter func88, ntmps88; go_wp2_with fail; refine (left_c ib rb B L _ w HA.out).mono ?_; rintro e w1 ⟨rfl, rfl⟩
      go_wp2
      go_ret; exact ⟨rfl, rfl⟩
theorem newI_c (s : ByteArray) (w : World) :
    Calls prog 87 #[.string s] w fun e w' => ∃ ib rb B, e = .returned (pv ib) ∧ In w' ib rb B (sl s) false ∧ w.grownBy w' none ∧ w.heap.size ≤ ib ∧ w.heap.size ≤ rb ∧ w.heap.size ≤ B := by
  go_enter func87, ntmps87; go_wp2_with fail; refine (newR_c s w).mono ?_; rintro e w1 ⟨rb, B, rfl, a1, g1, h1, h2⟩; have HB : Kp (RAt w1 rb B (sl s, 0) ∧ w.grownBy w1 none ∧ w.heap.size ≤ rb ∧ w.heap.size ≤ B) := ⟨a1, g1, h1, h2⟩; clear a1 g1 h1 h2
  go_wp2
  go_ret; obtain ⟨a1, g1, h1, h2⟩ := HB.out; have g2 := gAl w1 (.cells #[pv rb, .bool false] 196) none; refine ⟨_, rb, B, rfl, ⟨Has.newA w1 _ 196, a1.kept g2, ?_, ?_⟩, g1.trans g2, g1.size, h1, h2⟩
  · obtain ⟨_, _, h3, _⟩ := a1.h; have := h3.lt; omega
  · have := a1.lt; omega
abbrev Enters (f : Nat) : Prop := ∀ (a : Array Value) (W : World), (callFunc f a).run prog W = .ok (.enter f a) W
def Place (f o : Nat) : Prop := Enters f ∧ ∀ (db : Nat) (w : World), CRs f #[pv db] w (.pointer (some ⟨db, o, none⟩))
theorem p83 : Place 131 1 := ⟨fun _ _ => by kernel_rfl, fun db w => by
  go_enter func131, ntmps131
  go_wp2
  go_ret
  exact ⟨rfl, rfl⟩⟩
theorem p89 : Place 137 2 := ⟨fun _ _ => by kernel_rfl, fun db w => by
  go_enter func137, ntmps137
  go_wp2
  go_ret
  exact ⟨rfl, rfl⟩⟩
theorem p90 : Place 138 3 := ⟨fun _ _ => by kernel_rfl, fun db w => by
  go_enter func138, ntmps138
  go_wp2
  go_ret
  exact ⟨rfl, rfl⟩⟩
theorem p95 : Place 143 14 := ⟨fun _ _ => by kernel_rfl, fun db w => by
  go_enter func143, ntmps143
  go_wp2
  go_ret
  exact ⟨rfl, rfl⟩⟩
theorem p96 : Place 144 5 := ⟨fun _ _ => by kernel_rfl, fun db w => by
  go_enter func144, ntmps144
  go_wp2
  go_ret
  exact ⟨rfl, rfl⟩⟩
theorem p101 : Place 149 7 := ⟨fun _ _ => by kernel_rfl, fun db w => by
  go_enter func149, ntmps149
  go_wp2
  go_ret
  exact ⟨rfl, rfl⟩⟩
theorem p102 : Place 150 8 := ⟨fun _ _ => by kernel_rfl, fun db w => by
  go_enter func150, ntmps150
  go_wp2
  go_ret
  exact ⟨rfl, rfl⟩⟩
theorem p104 : Place 152 9 := ⟨fun _ _ => by kernel_rfl, fun db w => by
  go_enter func152, ntmps152
  go_wp2
  go_ret
  exact ⟨rfl, rfl⟩⟩
theorem p105 : Place 153 10 := ⟨fun _ _ => by kernel_rfl, fun db w => by
  go_enter func153, ntmps153
  go_wp2
  go_ret
  exact ⟨rfl, rfl⟩⟩
theorem long1_ok (f o db ib rb B kb : Nat) (d : List Value) (L : List UInt8) (r : Bool) (w : World) (hf : Place f o) (hk : Has w kb [fv f] 191) (hd : Has w db d 34) (ho : o < d.length) (hn : db ≠ ib ∧ db ≠ rb ∧ db ≠ B) (h : In w ib rb B L r) (p : List UInt8 × List UInt8) (hp : need L 8 = some p) :
    Calls prog 185 #[pv db, pv ib, pv kb] w fun e w' => e = .returned (.tuple #[]) ∧ Has w' db (d.set o (.int .u64 (val p.1 : Nat))) 34 ∧ In w' ib rb B p.2 r ∧ Fr (fun i => i = db ∨ i = rb) w w' := by
  have c0 : w.cell? ⟨kb, 0, none⟩ = some (fv f) := hk.cellv 0 _ rfl; obtain ⟨hcf, hf⟩ := hf; have HA : Kp (In w ib rb B L r ∧ need L 8 = some p ∧ Has w db d 34 ∧ o < d.length) := ⟨h, hp, hd, ho⟩; clear hk h hp hd ho; go_enter func185, ntmps185; go_wp2_with fail; refine (hf db w).mono ?_; rintro e w1 ⟨rfl, rfl⟩; go_wp2_with fail; refine (number_ok ib rb B L r 8 p w1 HA.out.1 (by decide) HA.out.2.1).mono ?_; rintro e w2 ⟨rfl, d2⟩; have h2 : Has w2 db d 34 := HA.out.2.2.1.fr d2.f (fun e => hn.2.1 e); have z1 : w2.frozen? ⟨db, o, none⟩ = false := h2.frozen o; obtain ⟨x, hx⟩ : ∃ x, w2.cell? ⟨db, o, none⟩ = some x := ⟨d[o]'HA.out.2.2.2, h2.cellv o _ (List.getElem?_eq_getElem HA.out.2.2.2)⟩; have HB : Kp (RDid w1 w2 rb B (p.2, 0) ∧ In w2 ib rb B p.2 r ∧ Has w2 db d 34) := ⟨d2, HA.out.1.did d2, h2⟩; clear d2 h2; generalize hq : val p.1 = q; have HQ : Kp (val p.1 = q) := ⟨hq⟩; clear hq
  go_wp2
  go_end0
  have f3 : Fr (fun i => i = db) w2 (w2.setCell ⟨db, o, none⟩ (.int .u64 q)) := Fr.ofSome (gr_set w2 db o _) rfl; rw [HQ.out]; refine ⟨rfl, HB.out.2.2.setCell o _, HB.out.2.1.fr f3 (fun e => hn.1 e.symm) (fun e => hn.2.1 e.symm) (fun e => hn.2.2 e.symm), (HB.out.1.f.mono (fun i e => .inl (.inr e))).trans (f3.mono (fun i e => .inl (.inl e)))⟩
theorem long1_no (f o db ib rb B kb : Nat) (L : List UInt8) (r : Bool) (w : World) (hf : Place f o) (hk : Has w kb [fv f] 191) (h : In w ib rb B L r) (hp : need L 8 = none) :
    Calls prog 185 #[pv db, pv ib, pv kb] w fun e w' => e = .panicked give ∧ w.grownBy w' none := by
  have c0 : w.cell? ⟨kb, 0, none⟩ = some (fv f) := hk.cellv 0 _ rfl; obtain ⟨hcf, hf⟩ := hf; clear hk; go_enter func185, ntmps185; go_wp2_with fail; refine (hf db w).mono ?_; rintro e w1 ⟨rfl, rfl⟩; go_wp2_with fail; refine (number_no ib rb B L r 8 w1 h hp).mono ?_; rintro e w2 ⟨rfl, g2⟩; exact ⟨rfl, rfl, g2⟩
theorem lever1_ok (f o db ib rb B kb : Nat) (d : List Value) (L : List UInt8) (r : Bool) (w : World) (hf : Place f o) (hk : Has w kb [fv f] 194) (hd : Has w db d 34) (ho : o < d.length) (hn : db ≠ ib ∧ db ≠ rb ∧ db ≠ B) (h : In w ib rb B L r) (p : List UInt8 × List UInt8) (hp : need L 1 = some p) :
    Calls prog 190 #[pv db, pv ib, pv kb] w fun e w' => e = .returned (.tuple #[]) ∧ Has w' db (d.set o (.int .i64 (sval p.1))) 34 ∧ In w' ib rb B p.2 r ∧ Fr (fun i => i = db ∨ i = rb) w w' := by
  have c0 : w.cell? ⟨kb, 0, none⟩ = some (fv f) := hk.cellv 0 _ rfl; obtain ⟨hcf, hf⟩ := hf; have HA : Kp (In w ib rb B L r ∧ need L 1 = some p ∧ Has w db d 34 ∧ o < d.length) := ⟨h, hp, hd, ho⟩; clear hk h hp hd ho; go_enter func190, ntmps190; go_wp2_with fail; refine (hf db w).mono ?_; rintro e w1 ⟨rfl, rfl⟩; go_wp2_with fail; refine (signed_ok ib rb B L r 1 p w1 HA.out.1 (by decide) HA.out.2.1).mono ?_; rintro e w2 ⟨rfl, d2⟩; have h2 : Has w2 db d 34 := HA.out.2.2.1.fr d2.f (fun e => hn.2.1 e); have z1 : w2.frozen? ⟨db, o, none⟩ = false := h2.frozen o; obtain ⟨x, hx⟩ : ∃ x, w2.cell? ⟨db, o, none⟩ = some x := ⟨d[o]'HA.out.2.2.2, h2.cellv o _ (List.getElem?_eq_getElem HA.out.2.2.2)⟩; have HB : Kp (RDid w1 w2 rb B (p.2, 0) ∧ In w2 ib rb B p.2 r ∧ Has w2 db d 34) := ⟨d2, HA.out.1.did d2, h2⟩; clear d2 h2; generalize hq : sval p.1 = q; have HQ : Kp (sval p.1 = q) := ⟨hq⟩; clear hq
  go_wp2
  go_end0
  have f3 : Fr (fun i => i = db) w2 (w2.setCell ⟨db, o, none⟩ (.int .i64 q)) := Fr.ofSome (gr_set w2 db o _) rfl; rw [HQ.out]; refine ⟨rfl, HB.out.2.2.setCell o _, HB.out.2.1.fr f3 (fun e => hn.1 e.symm) (fun e => hn.2.1 e.symm) (fun e => hn.2.2 e.symm), (HB.out.1.f.mono (fun i e => .inl (.inr e))).trans (f3.mono (fun i e => .inl (.inl e)))⟩
theorem lever1_no (f o db ib rb B kb : Nat) (L : List UInt8) (r : Bool) (w : World) (hf : Place f o) (hk : Has w kb [fv f] 194) (h : In w ib rb B L r) (hp : need L 1 = none) :
    Calls prog 190 #[pv db, pv ib, pv kb] w fun e w' => e = .panicked give ∧ w.grownBy w' none := by
  have c0 : w.cell? ⟨kb, 0, none⟩ = some (fv f) := hk.cellv 0 _ rfl; obtain ⟨hcf, hf⟩ := hf; clear hk; go_enter func190, ntmps190; go_wp2_with fail; refine (hf db w).mono ?_; rintro e w1 ⟨rfl, rfl⟩; go_wp2_with fail; refine (signed_no ib rb B L r 1 w1 h hp).mono ?_; rintro e w2 ⟨rfl, g2⟩; exact ⟨rfl, rfl, g2⟩
theorem fixed1_ok (f o n db ib rb B b1 b2 : Nat) (d : List Value) (L : List UInt8) (r : Bool) (w : World) (hf : Place f o) (h1 : Has w b1 [.int .i64 (n : Int)] 3) (h2 : Has w b2 [fv f] 186) (hb : b1 ≠ rb ∧ b2 ≠ rb ∧ b1 ≠ db ∧ b2 ≠ db) (hd : Has w db d 34) (ho : o < d.length) (hn : db ≠ ib ∧ db ≠ rb ∧ db ≠ B) (h : In w ib rb B L r) (p : List UInt8 × List UInt8) (hp : need L n = some p) :
    Calls prog 180 #[pv db, pv ib, pv b1, pv b2] w fun e w' => e = .returned (.tuple #[]) ∧ Has w' db (d.set o (.string (ba p.1))) 34 ∧ In w' ib rb B p.2 r ∧ Fr (fun i => i = db ∨ i = rb) w w' := by
  obtain ⟨hcf, hf⟩ := hf; have HA : Kp (In w.drew ib rb B L r ∧ need L n = some p ∧ Has w.drew db d 34 ∧ o < d.length) := ⟨h.kept (gr_drew _ _), hp, hd.kept (gr_drew _ none) (by simp), ho⟩; have HH : Kp (Has w.drew b1 [.int .i64 (n : Int)] 3 ∧ Has w.drew b2 [fv f] 186) := ⟨h1.kept (gr_drew _ none) (by simp), h2.kept (gr_drew _ none) (by simp)⟩; clear h hp hd ho h1 h2; go_enter func180, ntmps180; go_wp2_with fail; refine wp_region_held_drew (S := fun w' => Has w' b1 [.int .i64 (n : Int)] 3 ∧ Has w' b2 [fv f] 186) (by kernel_rfl) HH.out (fun hHeld => ?_); refine hk_ 0 rfl ?_ (fun w hSw => by have x1 := hSw.1.cellv 0 _ rfl; have x2 := hSw.2.cellv 0 _ rfl; clear hSw; go_simp; first | done | (with_reducible rfl)); refine hq 1 rfl ?_; refine hq 3 rfl ?_; refine hk_ 4 rfl ?_ (fun w hSw => by have x1 := hSw.1.cellv 0 _ rfl; have x2 := hSw.2.cellv 0 _ rfl; clear hSw; go_simp; first | done | (with_reducible rfl)); simp only [Act.put, uz]; refine ha 2 (fun K hK => ?_) (ho := rfl); go_simp; refine (hf db w.drew).mono ?_; rintro e w1 ⟨rfl, hw1⟩; subst hw1; refine hK.out _ _ HH.out (fun hHeld => ?_); clear hK K; refine ha 5 (fun K hK => ?_) (ho := rfl); go_simp; refine (bytes_ok ib rb B L r n p _ HA.out.1 HA.out.2.1).mono ?_; rintro e w2 ⟨rfl, d2⟩; have h2 : Has w2 db d 34 := HA.out.2.2.1.fr d2.f (fun e => hn.2.1 e); have z1 : w2.frozen? ⟨db, o, none⟩ = false := h2.frozen o; obtain ⟨x, hx⟩ : ∃ x, w2.cell? ⟨db, o, none⟩ = some x := ⟨d[o]'HA.out.2.2.2, h2.cellv o _ (List.getElem?_eq_getElem HA.out.2.2.2)⟩; have HB : Kp (RDid w w2 rb B (p.2, 0) ∧ In w2 ib rb B p.2 r ∧ Has w2 db d 34) := ⟨d2.ahead (gr_drew _ _), HA.out.1.did d2, h2⟩; refine hK.out _ _ ⟨HH.out.1.fr d2.f hb.1, HH.out.2.fr d2.f hb.2.1⟩ (fun hHeld => ?_); clear hK K; have f3 : Fr (fun i => i = db) w2 (w2.setCell ⟨db, o, none⟩ (.string (ba p.1))) := Fr.ofSome (gr_set w2 db o _) rfl; have HE : Kp (Has (w2.setCell ⟨db, o, none⟩ (.string (ba p.1))) db (d.set o (.string (ba p.1))) 34 ∧ In (w2.setCell ⟨db, o, none⟩ (.string (ba p.1))) ib rb B p.2 r ∧ Fr (fun i => i = db ∨ i = rb) w (w2.setCell ⟨db, o, none⟩ (.string (ba p.1)))) := ⟨HB.out.2.2.setCell o _, HB.out.2.1.fr f3 (fun e => hn.1 e.symm) (fun e => hn.2.1 e.symm) (fun e => hn.2.2 e.symm), (HB.out.1.f.mono (fun i e => .inl (.inr e))).trans (f3.mono (fun i e => .inl (.inl e)))⟩; clear d2 h2 f3 HB; have HH3 : Kp (Has (w2.setCell ⟨db, o, none⟩ (.string (ba p.1))) b1 [.int .i64 (n : Int)] 3 ∧ Has (w2.setCell ⟨db, o, none⟩ (.string (ba p.1))) b2 [fv f] 186) := ⟨hHeld.1.other _ _ (Ne.symm hb.2.2.1), hHeld.2.other _ _ (Ne.symm hb.2.2.2)⟩; refine hq 6 rfl ?_; simp only [Act.put, uz]; refine ha 7 (fun K hK => ?_) (ho := rfl); go_simp; refine hK.out _ _ HH3.out (fun hHeld => ?_); refine hd_ ?_; clear hK K; go_wp2_with fail
  go_end0
  exact ⟨rfl, HE.out⟩
theorem fixed1_no (f o n db ib rb B b1 b2 : Nat) (d : List Value) (L : List UInt8) (r : Bool) (w : World) (hf : Place f o) (h1 : Has w b1 [.int .i64 (n : Int)] 3) (h2 : Has w b2 [fv f] 186) (_hb : b1 ≠ rb ∧ b2 ≠ rb ∧ b1 ≠ db ∧ b2 ≠ db) (hd : Has w db d 34) (ho : o < d.length) (_hn : db ≠ ib ∧ db ≠ rb ∧ db ≠ B) (h : In w ib rb B L r) (hp : need L n = none) :
    Calls prog 180 #[pv db, pv ib, pv b1, pv b2] w fun e w' => e = .panicked give ∧ w.grownBy w' none := by
  obtain ⟨hcf, hf⟩ := hf; have HA : Kp (In w.drew ib rb B L r ∧ need L n = none ∧ Has w.drew db d 34 ∧ o < d.length) := ⟨h.kept (gr_drew _ _), hp, hd.kept (gr_drew _ none) (by simp), ho⟩; have HH : Kp (Has w.drew b1 [.int .i64 (n : Int)] 3 ∧ Has w.drew b2 [fv f] 186) := ⟨h1.kept (gr_drew _ none) (by simp), h2.kept (gr_drew _ none) (by simp)⟩; clear h hp hd ho h1 h2; go_enter func180, ntmps180; go_wp2_with fail; refine wp_region_held_drew (S := fun w' => Has w' b1 [.int .i64 (n : Int)] 3 ∧ Has w' b2 [fv f] 186) (by kernel_rfl) HH.out (fun hHeld => ?_); refine hk_ 0 rfl ?_ (fun w hSw => by have x1 := hSw.1.cellv 0 _ rfl; have x2 := hSw.2.cellv 0 _ rfl; clear hSw; go_simp; first | done | (with_reducible rfl)); refine hq 1 rfl ?_; refine hq 3 rfl ?_; refine hk_ 4 rfl ?_ (fun w hSw => by have x1 := hSw.1.cellv 0 _ rfl; have x2 := hSw.2.cellv 0 _ rfl; clear hSw; go_simp; first | done | (with_reducible rfl)); simp only [Act.put, uz]; refine ha 2 (fun K hK => ?_) (ho := rfl); go_simp; refine (hf db w.drew).mono ?_; rintro e w1 ⟨rfl, hw1⟩; subst hw1; refine hK.out _ _ HH.out (fun hHeld => ?_); clear hK K; refine ha 5 (fun K hK => ?_) (ho := rfl); go_simp; refine (bytes_no ib rb B L r n _ HA.out.1 HA.out.2.1).mono ?_; rintro e w2 ⟨rfl, g2⟩; exact ⟨rfl, rfl, (gr_drew _ none).trans g2⟩
theorem eqS (a b : ByteArray) : (a.toList == b.toList) = decide (a = b) := by
  rw [Bool.eq_iff_iff, beq_iff_eq, decide_eq_true_iff, ByteArray.toList_eq, ByteArray.toList_eq]; exact ⟨fun e => ByteArray.ext (Array.toList_inj.1 e), fun e => by rw [e]⟩
theorem player1_ok (db ib rb B : Nat) (d : List Value) (L : List UInt8) (r : Bool) (w : World) (hd : Has w db d 34) (ho : d.length = 15) (hn : db ≠ ib ∧ db ≠ rb ∧ db ≠ B) (h : In w ib rb B L r) (p : List UInt8 × List UInt8) (hp : need L 1 = some p) :
    Calls prog 145 #[pv db, pv ib] w fun e w' => e = .returned (.tuple #[]) ∧ Has w' db (d.set 6 (.int .i64 (val p.1 : Nat))) 34 ∧ In w' ib rb B p.2 r ∧ Fr (fun i => i = db ∨ i = rb) w w' := by
  have HA : Kp (In w ib rb B L r ∧ need L 1 = some p ∧ Has w db d 34 ∧ d.length = 15) := ⟨h, hp, hd, ho⟩; have hv : val p.1 < 256 := val1 (by have := (need_len hp).1; omega); clear h hp hd ho; go_enter func145, ntmps145; go_wp2_with fail; refine (number_ok ib rb B L r 1 p w HA.out.1 (by decide) HA.out.2.1).mono ?_; rintro e w2 ⟨rfl, d2⟩; have h2 : Has w2 db d 34 := HA.out.2.2.1.fr d2.f (fun e => hn.2.1 e); have z1 : w2.frozen? ⟨db, 6, none⟩ = false := h2.frozen 6; obtain ⟨x, hx⟩ : ∃ x, w2.cell? ⟨db, 6, none⟩ = some x := ⟨d[6]'(by rw [HA.out.2.2.2]; decide), h2.cellv 6 _ (List.getElem?_eq_getElem _)⟩; have HB : Kp (RDid w w2 rb B (p.2, 0) ∧ In w2 ib rb B p.2 r ∧ Has w2 db d 34) := ⟨d2, HA.out.1.did d2, h2⟩; clear d2 h2; generalize hq : val p.1 = q at hv; have HQ : Kp (val p.1 = q) := ⟨hq⟩; clear hq
  go_wp2
  go_end0
  have f3 : Fr (fun i => i = db) w2 (w2.setCell ⟨db, 6, none⟩ (.int .i64 (q : Nat))) := Fr.ofSome (gr_set w2 db 6 _) rfl
  try rw [HQ.out]
  refine ⟨rfl, HB.out.2.2.setCell 6 _, HB.out.2.1.fr f3 (fun e => hn.1 e.symm) (fun e => hn.2.1 e.symm) (fun e => hn.2.2 e.symm), (HB.out.1.f.mono (fun i e => .inl (.inr e))).trans (f3.mono (fun i e => .inl (.inl e)))⟩
theorem player1_no (db ib rb B : Nat) (L : List UInt8) (r : Bool) (w : World) (h : In w ib rb B L r) (hp : need L 1 = none) :
    Calls prog 145 #[pv db, pv ib] w fun e w' => e = .panicked give ∧ w.grownBy w' none := by
  go_enter func145, ntmps145; go_wp2_with fail; refine (number_no ib rb B L r 1 w h hp).mono ?_; rintro e w2 ⟨rfl, g2⟩; exact ⟨rfl, rfl, g2⟩
theorem name1_ok (db ib rb B : Nat) (d : List Value) (L : List UInt8) (r : Bool) (w : World) (hd : Has w db d 34) (ho : d.length = 15) (hn : db ≠ ib ∧ db ≠ rb ∧ db ≠ B) (h : In w ib rb B L r) (p q : List UInt8 × List UInt8) (hp : need L 1 = some p) (hq : need p.2 (val p.1 : Nat) = some q) :
    Calls prog 139 #[pv db, pv ib] w fun e w' => e = .returned (.tuple #[]) ∧ Has w' db (d.set 4 (.string (ba q.1))) 34 ∧ In w' ib rb B q.2 r ∧ Fr (fun i => i = db ∨ i = rb) w w' := by
  have HA : Kp (In w ib rb B L r ∧ (need L 1 = some p ∧ need p.2 (val p.1 : Nat) = some q) ∧ Has w db d 34 ∧ d.length = 15) := ⟨h, ⟨hp, hq⟩, hd, ho⟩; clear h hp hq hd ho; go_enter func139, ntmps139; go_wp2_with fail; refine (text_ok ib rb B L r p q w HA.out.1 HA.out.2.1.1 HA.out.2.1.2).mono ?_; rintro e w2 ⟨rfl, d2⟩; have h2 : Has w2 db d 34 := HA.out.2.2.1.fr d2.f (fun e => hn.2.1 e); have z1 : w2.frozen? ⟨db, 4, none⟩ = false := h2.frozen 4; obtain ⟨x, hx⟩ : ∃ x, w2.cell? ⟨db, 4, none⟩ = some x := ⟨d[4]'(by rw [HA.out.2.2.2]; decide), h2.cellv 4 _ (List.getElem?_eq_getElem _)⟩; have HB : Kp (RDid w w2 rb B (q.2, 0) ∧ In w2 ib rb B q.2 r ∧ Has w2 db d 34) := ⟨d2, HA.out.1.did d2, h2⟩; clear d2 h2; generalize hq : ba q.1 = q1; have HQ : Kp (ba q.1 = q1) := ⟨hq⟩; clear hq
  go_wp2
  go_end0
  have f3 : Fr (fun i => i = db) w2 (w2.setCell ⟨db, 4, none⟩ (.string q1)) := Fr.ofSome (gr_set w2 db 4 _) rfl
  try rw [HQ.out]
  refine ⟨rfl, HB.out.2.2.setCell 4 _, HB.out.2.1.fr f3 (fun e => hn.1 e.symm) (fun e => hn.2.1 e.symm) (fun e => hn.2.2 e.symm), (HB.out.1.f.mono (fun i e => .inl (.inr e))).trans (f3.mono (fun i e => .inl (.inl e)))⟩
theorem name1_no (db ib rb B : Nat) (L : List UInt8) (r : Bool) (w : World) (h : In w ib rb B L r) (hp : ((need L 1).bind fun p => need p.2 (val p.1 : Nat)) = none) :
    Calls prog 139 #[pv db, pv ib] w fun e w' => e = .panicked give ∧ Fr (fun i => i = rb) w w' := by
  go_enter func139, ntmps139; go_wp2_with fail; refine (text_no ib rb B L r w h hp).mono ?_; rintro e w2 ⟨rfl, g2⟩; exact ⟨rfl, rfl, g2⟩
theorem view1_ok (db ib rb B : Nat) (d : List Value) (L : List UInt8) (r : Bool) (w : World) (hd : Has w db d 34) (ho : d.length = 15) (hn : db ≠ ib ∧ db ≠ rb ∧ db ≠ B) (h : In w ib rb B L r) (hL : L.length ≤ 4611686018427387904) (p : List UInt8 × List UInt8) (hp : need L ((L.length : Int) - 32) = some p) :
    Calls prog 156 #[pv db, pv ib] w fun e w' => e = .returned (.tuple #[]) ∧ Has w' db (d.set 13 (.string (ba p.1))) 34 ∧ In w' ib rb B p.2 r ∧ Fr (fun i => i = db ∨ i = rb) w w' := by
  have hm : ∃ m : Nat, (L.length : Int) - 32 = (m : Int) := ⟨((L.length : Int) - 32).toNat, by have := need_some hp; omega⟩; obtain ⟨m, hm⟩ := hm; rw [hm] at hp; have HA : Kp (In w ib rb B L r ∧ need L (m : Nat) = some p ∧ Has w db d 34 ∧ d.length = 15) := ⟨h, hp, hd, ho⟩; have hw64 : IntKind.i64.wrap ((L.length : Int) - 32) = (m : Int) := by have := need_some hp; rw [hm]; exact IntWalk.i64_in _ (by omega)
  clear h hp hd ho hm hL; go_enter func156, ntmps156; go_wp2_with fail; refine (left_c ib rb B L r w HA.out.1).mono ?_; rintro e wq ⟨rfl, rfl⟩; go_wp2_with fail; refine (bytes_ok ib rb B L r (m : Nat) p wq HA.out.1 HA.out.2.1).mono ?_; rintro e w2 ⟨rfl, d2⟩; have h2 : Has w2 db d 34 := HA.out.2.2.1.fr d2.f (fun e => hn.2.1 e); have z1 : w2.frozen? ⟨db, 13, none⟩ = false := h2.frozen 13; obtain ⟨x, hx⟩ : ∃ x, w2.cell? ⟨db, 13, none⟩ = some x := ⟨d[13]'(by rw [HA.out.2.2.2]; decide), h2.cellv 13 _ (List.getElem?_eq_getElem _)⟩; have HB : Kp (RDid wq w2 rb B (p.2, 0) ∧ In w2 ib rb B p.2 r ∧ Has w2 db d 34) := ⟨d2, HA.out.1.did d2, h2⟩; clear d2 h2
  go_wp2
  go_end0
  have f3 : Fr (fun i => i = db) w2 (w2.setCell ⟨db, 13, none⟩ (.string (ba p.1))) := Fr.ofSome (gr_set w2 db 13 _) rfl; refine ⟨rfl, HB.out.2.2.setCell 13 _, HB.out.2.1.fr f3 (fun e => hn.1 e.symm) (fun e => hn.2.1 e.symm) (fun e => hn.2.2 e.symm), (HB.out.1.f.mono (fun i e => .inl (.inr e))).trans (f3.mono (fun i e => .inl (.inl e)))⟩
theorem view1_no (db ib rb B : Nat) (L : List UInt8) (r : Bool) (w : World) (h : In w ib rb B L r) (hL : L.length ≤ 4611686018427387904) (hp : need L ((L.length : Int) - 32) = none) :
    Calls prog 156 #[pv db, pv ib] w fun e w' => e = .panicked give ∧ w.grownBy w' none := by
  obtain ⟨m, hm⟩ : ∃ m : Int, (L.length : Int) - 32 = m := ⟨_, rfl⟩; rw [hm] at hp; have HA : Kp (In w ib rb B L r ∧ need L m = none) := ⟨h, hp⟩; have hw64 : IntKind.i64.wrap ((L.length : Int) - 32) = m := by rw [hm]; exact IntWalk.i64_in _ (by omega)
  clear h hp hm hL; go_enter func156, ntmps156; go_wp2_with fail; refine (left_c ib rb B L r w HA.out.1).mono ?_; rintro e wq ⟨rfl, rfl⟩; go_wp2_with fail; refine (bytes_no ib rb B L r m wq HA.out.1 HA.out.2).mono ?_; rintro e w2 ⟨rfl, g2⟩; exact ⟨rfl, rfl, g2⟩
theorem and1 : ∀ x : Fin 256, bits .and .u64 (x.val : Int) 1 = ((x.val % 2 : Nat) : Int) := by decide +kernel
theorem and2 : ∀ x : Fin 256, bits .and .u64 (x.val : Int) 2 = ((2 * (x.val / 2 % 2) : Nat) : Int) := by decide +kernel
theorem flags1_ok (db ib rb B : Nat) (d : List Value) (L : List UInt8) (r : Bool) (w : World) (hd : Has w db d 34) (ho : d.length = 15) (hn : db ≠ ib ∧ db ≠ rb ∧ db ≠ B) (h : In w ib rb B L r) (p : List UInt8 × List UInt8) (hp : need L 1 = some p) :
    Calls prog 154 #[pv db, pv ib] w fun e w' => e = .returned (.tuple #[]) ∧ Has w' db ((d.set 11 (.bool (decide (val p.1 % 2 = 1)))).set 12 (.bool (decide (val p.1 / 2 % 2 = 1)))) 34 ∧ In w' ib rb B p.2 (r || !decide (val p.1 ≤ 3)) ∧ Fr (fun i => i = db ∨ i = ib ∨ i = rb) w w' := by
  have HA : Kp (In w ib rb B L r ∧ need L 1 = some p ∧ Has w db d 34 ∧ d.length = 15) := ⟨h, hp, hd, ho⟩; have hv : val p.1 < 256 := val1 (by have := (need_len hp).1; omega); clear h hp hd ho; go_enter func154, ntmps154; go_wp2_with fail; refine (number_ok ib rb B L r 1 p w HA.out.1 (by decide) HA.out.2.1).mono ?_; rintro e w2 ⟨rfl, d2⟩; have HB : Kp (RDid w w2 rb B (p.2, 0) ∧ In w2 ib rb B p.2 r ∧ Has w2 db d 34) := ⟨d2, HA.out.1.did d2, HA.out.2.2.1.fr d2.f (fun e => hn.2.1 e)⟩; clear d2; generalize hq : val p.1 = q at hv; have HQ : Kp (val p.1 = q) := ⟨hq⟩; clear hq; have a1 := and1 ⟨q, hv⟩; have a2 := and2 ⟨q, hv⟩; dsimp only at a1 a2; go_wp2_with fail; refine (iallow_c ib rb B p.2 r _ w2 HB.out.2.1).mono ?_; rintro e w3 ⟨rfl, i3, f3⟩; have h3 : Has w3 db d 34 := HB.out.2.2.fr f3 (fun e => hn.1 e); have z1 : w3.frozen? ⟨db, 11, none⟩ = false := h3.frozen 11; have z2 : w3.frozen? ⟨db, 12, none⟩ = false := h3.frozen 12; obtain ⟨x1, hx1⟩ : ∃ x, w3.cell? ⟨db, 11, none⟩ = some x := ⟨d[11]'(by rw [HA.out.2.2.2]; decide), h3.cellv 11 _ (List.getElem?_eq_getElem _)⟩; obtain ⟨x2, hx2⟩ : ∃ x, w3.cell? ⟨db, 12, none⟩ = some x := ⟨d[12]'(by rw [HA.out.2.2.2]; decide), h3.cellv 12 _ (List.getElem?_eq_getElem _)⟩; have HC : Kp (Fr (fun i => i = db ∨ i = ib ∨ i = rb) w w3 ∧ Has w3 db d 34 ∧ In w3 ib rb B p.2 (r || !decide (q ≤ 3))) := ⟨(HB.out.1.f.mono (fun i e => .inl (.inr (.inr e)))).trans (f3.mono (fun i e => .inl (.inr (.inl e)))), h3, by rw [← show decide ((q : Int) ≤ 3) = decide (q ≤ 3) from decide_eq_decide.2 (by omega)]; exact i3⟩; clear i3 f3 h3 HB
  go_wp2
  go_end0
  have e1 : ((q : Int) % 2 != 0) = decide (val p.1 % 2 = 1) := by
    rw [HQ.out, Bool.eq_iff_iff, bne_iff_ne, decide_eq_true_iff]; omega
  have e2 : (2 * ((q : Int) / 2 % 2) != 0) = decide (val p.1 / 2 % 2 = 1) := by
    rw [HQ.out, Bool.eq_iff_iff, bne_iff_ne, decide_eq_true_iff]; omega
  rw [e1, e2]; have f4 : ∀ u v, Fr (fun i => i = db) w3 ((w3.setCell ⟨db, 11, none⟩ u).setCell ⟨db, 12, none⟩ v) := fun u v => Fr.trans (S := fun i => i = db) (Fr.ofSome (gr_set w3 db 11 u) rfl) (Fr.ofSome (gr_set _ db 12 v) rfl)
  refine ⟨rfl, (HC.out.2.1.setCell 11 _).setCell 12 _, ?_, HC.out.1.trans ((f4 _ _).mono (fun i e => .inl (.inl e)))⟩; rw [HQ.out]; exact HC.out.2.2.fr (f4 _ _) (fun e => hn.1 e.symm) (fun e => hn.2.1 e.symm) (fun e => hn.2.2 e.symm)
theorem flags1_no (db ib rb B : Nat) (L : List UInt8) (r : Bool) (w : World) (h : In w ib rb B L r) (hp : need L 1 = none) :
    Calls prog 154 #[pv db, pv ib] w fun e w' => e = .panicked give ∧ w.grownBy w' none := by
  go_enter func154, ntmps154; go_wp2_with fail; refine (number_no ib rb B L r 1 w h hp).mono ?_; rintro e w2 ⟨rfl, g2⟩; exact ⟨rfl, rfl, g2⟩
theorem zeros1_ok (db ib rb B zb : Nat) (L : List UInt8) (r : Bool) (w : World) (hz : Has w zb [.string (ba zero76)] 9) (hb : zb ≠ rb ∧ zb ≠ ib) (h : In w ib rb B L r) (p : List UInt8 × List UInt8) (hp : need L 76 = some p) :
    Calls prog 132 #[pv db, pv ib, pv zb] w fun e w' => e = .returned (.tuple #[]) ∧ In w' ib rb B p.2 (r || !decide (p.1 = zero76)) ∧ Fr (fun i => i = ib ∨ i = rb) w w' := by
  have HZ : Kp (decide (ba p.1 = ba zero76) = decide (p.1 = zero76)) := ⟨decide_eq_decide.2 ⟨fun e => by have := congrArg (fun b : ByteArray => b.data.toList) e; simpa using this, fun e => by rw [e]⟩⟩; obtain ⟨zd, hzd⟩ : ∃ x, decide (p.1 = zero76) = x := ⟨_, rfl⟩; rw [hzd] at HZ ⊢; have HA : Kp (In w.drew ib rb B L r ∧ need L 76 = some p) := ⟨h.kept (gr_drew _ _), hp⟩; have HH : Kp (Has w.drew zb [.string (ba zero76)] 9) := ⟨hz.kept (gr_drew _ none) (by simp)⟩; clear h hp hz; generalize ba zero76 = Z at HH HZ; go_enter func132, ntmps132; go_wp2_with fail; refine wp_region_held_drew (S := fun w' => Has w' zb [.string Z] 9) (by kernel_rfl) HH.out (fun hHeld => ?_); refine hq 0 rfl ?_; refine hq 1 rfl ?_; refine hk_ 3 rfl ?_ (fun w hSw => by have x1 := Has.cellv hSw 0 _ rfl; clear hSw; go_simp; first | done | (with_reducible rfl)); simp only [Act.put, uz]; refine ha 2 (fun K hK => ?_) (ho := rfl); go_simp; refine (bytes_ok ib rb B L r 76 p _ HA.out.1 HA.out.2).mono ?_; rintro e w2 ⟨rfl, d2⟩; have HB : Kp (RDid w w2 rb B (p.2, 0) ∧ In w2 ib rb B p.2 r ∧ Has w2 zb [.string Z] 9) := ⟨d2.ahead (gr_drew _ _), HA.out.1.did d2, HH.out.fr d2.f hb.1⟩; clear d2; refine hK.out _ _ HB.out.2.2 (fun hHeld => ?_); clear hK K; have hzz := HZ.out; generalize ba p.1 = P1 at hzz ⊢; refine hq 4 rfl ?_; simp only [Act.put, uz]; refine ha 5 (fun K hK => ?_) (ho := rfl); go_simp; refine (iallow_c ib rb B p.2 r _ w2 HB.out.2.1).mono ?_; rintro e w3 ⟨rfl, i3, f3⟩; have HC : Kp (In w3 ib rb B p.2 (r || !zd) ∧ Fr (fun i => i = ib ∨ i = rb) w w3) := ⟨by first | exact i3 | (rw [← hzz, ← eqS]; exact i3), (HB.out.1.f.mono (fun i e => .inl (.inr e))).trans (f3.mono (fun i e => .inl (.inl e)))⟩; refine hK.out _ _ (hHeld.fr f3 hb.2) (fun hHeld => ?_); refine hd_ ?_; clear hK K i3 f3; go_wp2_with fail
  go_end0
  exact ⟨rfl, HC.out⟩
theorem zeros1_no (db ib rb B zb : Nat) (L : List UInt8) (r : Bool) (w : World) (hz : Has w zb [.string (ba zero76)] 9) (_hb : zb ≠ rb ∧ zb ≠ ib) (h : In w ib rb B L r) (hp : need L 76 = none) :
    Calls prog 132 #[pv db, pv ib, pv zb] w fun e w' => e = .panicked give ∧ w.grownBy w' none := by
  have HA : Kp (In w.drew ib rb B L r ∧ need L 76 = none) := ⟨h.kept (gr_drew _ _), hp⟩; have HH : Kp (Has w.drew zb [.string (ba zero76)] 9) := ⟨hz.kept (gr_drew _ none) (by simp)⟩; clear h hp hz; generalize ba zero76 = Z at HH; go_enter func132, ntmps132; go_wp2_with fail; refine wp_region_held_drew (S := fun w' => Has w' zb [.string Z] 9) (by kernel_rfl) HH.out (fun hHeld => ?_); refine hq 0 rfl ?_; refine hq 1 rfl ?_; refine hk_ 3 rfl ?_ (fun w hSw => by have x1 := Has.cellv hSw 0 _ rfl; clear hSw; go_simp; first | done | (with_reducible rfl)); simp only [Act.put, uz]; refine ha 2 (fun K hK => ?_) (ho := rfl); go_simp; refine (bytes_no ib rb B L r 76 _ HA.out.1 HA.out.2).mono ?_; rintro e w2 ⟨rfl, g2⟩; exact ⟨rfl, rfl, (gr_drew _ none).trans g2⟩
structure TkAt (w : World) (db ib rb B : Nat) (s : TS) : Prop where
  d : Has w db s.1.cells 34
  i : In w ib rb B s.2.1 s.2.2
  n : db ≠ ib ∧ db ≠ rb ∧ db ≠ B
  l : s.2.1.length ≤ 4611686018427387904
def TF (db ib rb i : Nat) : Prop := i = db ∨ i = ib ∨ i = rb
def TkRes (o : Option TS) (db ib rb B : Nat) (e : Ending) (w : World) : Prop :=
  match o with
  | none => e = .panicked give
  | some s => e = .returned (.tuple #[]) ∧ TkAt w db ib rb B s
def TakeC (w : World) (f : Fd) (n : Nat) (c : Array Value) : Prop :=
  Enters n ∧ ∀ (W : World) (db ib rb B : Nat) (s : TS), w.grownBy W none → w.heap.size ≤ db → w.heap.size ≤ ib → w.heap.size ≤ rb → TkAt W db ib rb B s →
    Calls prog n (#[pv db, pv ib] ++ c) W fun e w' => TkRes (tk f s) db ib rb B e w' ∧ Fr (TF db ib rb) W w'
theorem TakeC.kept {w w' : World} {f : Fd} {n : Nat} {c : Array Value} (h : TakeC w f n c) (g : w.grownBy w' none) : TakeC w' f n c :=
  ⟨h.1, fun W db ib rb B s gW l1 l2 l3 t => h.2 W db ib rb B s (g.trans gW) (Nat.le_trans g.size l1) (Nat.le_trans g.size l2) (Nat.le_trans g.size l3) t⟩
theorem cells_len (d : Dg) : d.cells.length = 15 := rfl
theorem len_of {L : List UInt8} {n : Int} {p : List UInt8 × List UInt8} (h : need L n = some p) : p.2.length ≤ L.length := by
  obtain ⟨_, _, rfl⟩ := need_some h; simp
theorem en118 : Enters 180 := fun _ _ => by kernel_rfl
theorem en123 : Enters 185 := fun _ _ => by kernel_rfl
theorem en128 : Enters 190 := fun _ _ => by kernel_rfl
theorem en97 : Enters 145 := fun _ _ => by kernel_rfl
theorem en106 : Enters 154 := fun _ _ => by kernel_rfl
theorem en91 : Enters 139 := fun _ _ => by kernel_rfl
theorem en108 : Enters 156 := fun _ _ => by kernel_rfl
theorem en84 : Enters 132 := fun _ _ => by kernel_rfl
theorem tk_nonce (w : World) (b1 b2 : Nat) (h1 : Has w b1 [.int .i64 (16 : Nat)] 3) (h2 : Has w b2 [fv 131] 186) : TakeC w .nonce 180 #[pv b1, pv b2] := by
  refine ⟨en118, fun W db ib rb B s g l1 l2 l3 t => ?_⟩; obtain ⟨d, L, r⟩ := s; obtain ⟨td, ti, tn, tl⟩ := t; dsimp only at td ti tl; show Calls prog 180 #[pv db, pv ib, pv b1, pv b2] W _; have k1 := h1.kept g (by simp); have k2 := h2.kept g (by simp); have hb : b1 ≠ rb ∧ b2 ≠ rb ∧ b1 ≠ db ∧ b2 ≠ db := by have := h1.lt; have := h2.lt; omega
  cases hp : need L 16 with
  | none =>
    (have ht : tk .nonce (d, L, r) = none := by simp only [tk, hp]; rfl); rw [ht]; refine (fixed1_no 131 1 16 db ib rb B b1 b2 d.cells L r W p83 k1 k2 hb td (by rw [cells_len]; decide) tn ti hp).mono ?_; rintro e w' ⟨rfl, g'⟩; exact ⟨rfl, Fr.ofNone g'⟩
  | some p =>
    (have ht : tk .nonce (d, L, r) = some ({ d with nonce := ba p.1 }, p.2, r) := by simp only [tk, hp]; rfl); rw [ht]; refine (fixed1_ok 131 1 16 db ib rb B b1 b2 d.cells L r W p83 k1 k2 hb td (by rw [cells_len]; decide) tn ti p hp).mono ?_; rintro e w' ⟨rfl, hd', hi', hf'⟩; exact ⟨⟨rfl, hd', hi', tn, Nat.le_trans (len_of hp) tl⟩, hf'.mono (fun i e => .inl (e.elim .inl (fun q => .inr (.inr q))))⟩
theorem tk_salt (w : World) (b1 b2 : Nat) (h1 : Has w b1 [.int .i64 (16 : Nat)] 3) (h2 : Has w b2 [fv 149] 186) : TakeC w .salt 180 #[pv b1, pv b2] := by
  refine ⟨en118, fun W db ib rb B s g l1 l2 l3 t => ?_⟩; obtain ⟨d, L, r⟩ := s; obtain ⟨td, ti, tn, tl⟩ := t; dsimp only at td ti tl; show Calls prog 180 #[pv db, pv ib, pv b1, pv b2] W _; have k1 := h1.kept g (by simp); have k2 := h2.kept g (by simp); have hb : b1 ≠ rb ∧ b2 ≠ rb ∧ b1 ≠ db ∧ b2 ≠ db := by have := h1.lt; have := h2.lt; omega
  cases hp : need L 16 with
  | none =>
    (have ht : tk .salt (d, L, r) = none := by simp only [tk, hp]; rfl); rw [ht]; refine (fixed1_no 149 7 16 db ib rb B b1 b2 d.cells L r W p101 k1 k2 hb td (by rw [cells_len]; decide) tn ti hp).mono ?_; rintro e w' ⟨rfl, g'⟩; exact ⟨rfl, Fr.ofNone g'⟩
  | some p =>
    (have ht : tk .salt (d, L, r) = some ({ d with salt := ba p.1 }, p.2, r) := by simp only [tk, hp]; rfl); rw [ht]; refine (fixed1_ok 149 7 16 db ib rb B b1 b2 d.cells L r W p101 k1 k2 hb td (by rw [cells_len]; decide) tn ti p hp).mono ?_; rintro e w' ⟨rfl, hd', hi', hf'⟩; exact ⟨⟨rfl, hd', hi', tn, Nat.le_trans (len_of hp) tl⟩, hf'.mono (fun i e => .inl (e.elim .inl (fun q => .inr (.inr q))))⟩
theorem tk_cookie (w : World) (b1 b2 : Nat) (h1 : Has w b1 [.int .i64 (32 : Nat)] 3) (h2 : Has w b2 [fv 138] 186) : TakeC w .cookie 180 #[pv b1, pv b2] := by
  refine ⟨en118, fun W db ib rb B s g l1 l2 l3 t => ?_⟩; obtain ⟨d, L, r⟩ := s; obtain ⟨td, ti, tn, tl⟩ := t; dsimp only at td ti tl; show Calls prog 180 #[pv db, pv ib, pv b1, pv b2] W _; have k1 := h1.kept g (by simp); have k2 := h2.kept g (by simp); have hb : b1 ≠ rb ∧ b2 ≠ rb ∧ b1 ≠ db ∧ b2 ≠ db := by have := h1.lt; have := h2.lt; omega
  cases hp : need L 32 with
  | none =>
    (have ht : tk .cookie (d, L, r) = none := by simp only [tk, hp]; rfl); rw [ht]; refine (fixed1_no 138 3 32 db ib rb B b1 b2 d.cells L r W p90 k1 k2 hb td (by rw [cells_len]; decide) tn ti hp).mono ?_; rintro e w' ⟨rfl, g'⟩; exact ⟨rfl, Fr.ofNone g'⟩
  | some p =>
    (have ht : tk .cookie (d, L, r) = some ({ d with cookie := ba p.1 }, p.2, r) := by simp only [tk, hp]; rfl); rw [ht]; refine (fixed1_ok 138 3 32 db ib rb B b1 b2 d.cells L r W p90 k1 k2 hb td (by rw [cells_len]; decide) tn ti p hp).mono ?_; rintro e w' ⟨rfl, hd', hi', hf'⟩; exact ⟨⟨rfl, hd', hi', tn, Nat.le_trans (len_of hp) tl⟩, hf'.mono (fun i e => .inl (e.elim .inl (fun q => .inr (.inr q))))⟩
theorem tk_tag (w : World) (b1 b2 : Nat) (h1 : Has w b1 [.int .i64 (32 : Nat)] 3) (h2 : Has w b2 [fv 143] 186) : TakeC w .tag 180 #[pv b1, pv b2] := by
  refine ⟨en118, fun W db ib rb B s g l1 l2 l3 t => ?_⟩; obtain ⟨d, L, r⟩ := s; obtain ⟨td, ti, tn, tl⟩ := t; dsimp only at td ti tl; show Calls prog 180 #[pv db, pv ib, pv b1, pv b2] W _; have k1 := h1.kept g (by simp); have k2 := h2.kept g (by simp); have hb : b1 ≠ rb ∧ b2 ≠ rb ∧ b1 ≠ db ∧ b2 ≠ db := by have := h1.lt; have := h2.lt; omega
  cases hp : need L 32 with
  | none =>
    (have ht : tk .tag (d, L, r) = none := by simp only [tk, hp]; rfl); rw [ht]; refine (fixed1_no 143 14 32 db ib rb B b1 b2 d.cells L r W p95 k1 k2 hb td (by rw [cells_len]; decide) tn ti hp).mono ?_; rintro e w' ⟨rfl, g'⟩; exact ⟨rfl, Fr.ofNone g'⟩
  | some p =>
    (have ht : tk .tag (d, L, r) = some ({ d with tag := ba p.1 }, p.2, r) := by simp only [tk, hp]; rfl); rw [ht]; refine (fixed1_ok 143 14 32 db ib rb B b1 b2 d.cells L r W p95 k1 k2 hb td (by rw [cells_len]; decide) tn ti p hp).mono ?_; rintro e w' ⟨rfl, hd', hi', hf'⟩; exact ⟨⟨rfl, hd', hi', tn, Nat.le_trans (len_of hp) tl⟩, hf'.mono (fun i e => .inl (e.elim .inl (fun q => .inr (.inr q))))⟩
theorem tk_epoch (w : World) (b1 : Nat) (h1 : Has w b1 [fv 137] 191) : TakeC w .epoch 185 #[pv b1] := by
  refine ⟨en123, fun W db ib rb B s g l1 l2 l3 t => ?_⟩; obtain ⟨d, L, r⟩ := s; obtain ⟨td, ti, tn, tl⟩ := t; dsimp only at td ti tl; show Calls prog 185 #[pv db, pv ib, pv b1] W _; have k1 := h1.kept g (by simp); cases hp : need L 8 with
  | none =>
    (have ht : tk .epoch (d, L, r) = none := by simp only [tk, hp]; rfl); rw [ht]; refine (long1_no 137 2 db ib rb B b1 L r W p89 k1 ti hp).mono ?_; rintro e w' ⟨rfl, g'⟩; exact ⟨rfl, Fr.ofNone g'⟩
  | some p =>
    (have ht : tk .epoch (d, L, r) = some ({ d with epoch := val p.1 }, p.2, r) := by simp only [tk, hp]; rfl); rw [ht]; refine (long1_ok 137 2 db ib rb B b1 d.cells L r W p89 k1 td (by rw [cells_len]; decide) tn ti p hp).mono ?_; rintro e w' ⟨rfl, hd', hi', hf'⟩; exact ⟨⟨rfl, hd', hi', tn, Nat.le_trans (len_of hp) tl⟩, hf'.mono (fun i e => .inl (e.elim .inl (fun q => .inr (.inr q))))⟩
theorem tk_session (w : World) (b1 : Nat) (h1 : Has w b1 [fv 144] 191) : TakeC w .session 185 #[pv b1] := by
  refine ⟨en123, fun W db ib rb B s g l1 l2 l3 t => ?_⟩; obtain ⟨d, L, r⟩ := s; obtain ⟨td, ti, tn, tl⟩ := t; dsimp only at td ti tl; show Calls prog 185 #[pv db, pv ib, pv b1] W _; have k1 := h1.kept g (by simp); cases hp : need L 8 with
  | none =>
    (have ht : tk .session (d, L, r) = none := by simp only [tk, hp]; rfl); rw [ht]; refine (long1_no 144 5 db ib rb B b1 L r W p96 k1 ti hp).mono ?_; rintro e w' ⟨rfl, g'⟩; exact ⟨rfl, Fr.ofNone g'⟩
  | some p =>
    (have ht : tk .session (d, L, r) = some ({ d with session := val p.1 }, p.2, r) := by simp only [tk, hp]; rfl); rw [ht]; refine (long1_ok 144 5 db ib rb B b1 d.cells L r W p96 k1 td (by rw [cells_len]; decide) tn ti p hp).mono ?_; rintro e w' ⟨rfl, hd', hi', hf'⟩; exact ⟨⟨rfl, hd', hi', tn, Nat.le_trans (len_of hp) tl⟩, hf'.mono (fun i e => .inl (e.elim .inl (fun q => .inr (.inr q))))⟩
theorem tk_seq (w : World) (b1 : Nat) (h1 : Has w b1 [fv 150] 191) : TakeC w .seq 185 #[pv b1] := by
  refine ⟨en123, fun W db ib rb B s g l1 l2 l3 t => ?_⟩; obtain ⟨d, L, r⟩ := s; obtain ⟨td, ti, tn, tl⟩ := t; dsimp only at td ti tl; show Calls prog 185 #[pv db, pv ib, pv b1] W _; have k1 := h1.kept g (by simp); cases hp : need L 8 with
  | none =>
    (have ht : tk .seq (d, L, r) = none := by simp only [tk, hp]; rfl); rw [ht]; refine (long1_no 150 8 db ib rb B b1 L r W p102 k1 ti hp).mono ?_; rintro e w' ⟨rfl, g'⟩; exact ⟨rfl, Fr.ofNone g'⟩
  | some p =>
    (have ht : tk .seq (d, L, r) = some ({ d with seq := val p.1 }, p.2, r) := by simp only [tk, hp]; rfl); rw [ht]; refine (long1_ok 150 8 db ib rb B b1 d.cells L r W p102 k1 td (by rw [cells_len]; decide) tn ti p hp).mono ?_; rintro e w' ⟨rfl, hd', hi', hf'⟩; exact ⟨⟨rfl, hd', hi', tn, Nat.le_trans (len_of hp) tl⟩, hf'.mono (fun i e => .inl (e.elim .inl (fun q => .inr (.inr q))))⟩
theorem tk_thr (w : World) (b1 : Nat) (h1 : Has w b1 [fv 152] 194) : TakeC w .thr 190 #[pv b1] := by
  refine ⟨en128, fun W db ib rb B s g l1 l2 l3 t => ?_⟩; obtain ⟨d, L, r⟩ := s; obtain ⟨td, ti, tn, tl⟩ := t; dsimp only at td ti tl; show Calls prog 190 #[pv db, pv ib, pv b1] W _; have k1 := h1.kept g (by simp); cases hp : need L 1 with
  | none =>
    (have ht : tk .thr (d, L, r) = none := by simp only [tk, hp]; rfl); rw [ht]; refine (lever1_no 152 9 db ib rb B b1 L r W p104 k1 ti hp).mono ?_; rintro e w' ⟨rfl, g'⟩; exact ⟨rfl, Fr.ofNone g'⟩
  | some p =>
    (have ht : tk .thr (d, L, r) = some ({ d with thr := sval p.1 }, p.2, r) := by simp only [tk, hp]; rfl); rw [ht]; refine (lever1_ok 152 9 db ib rb B b1 d.cells L r W p104 k1 td (by rw [cells_len]; decide) tn ti p hp).mono ?_; rintro e w' ⟨rfl, hd', hi', hf'⟩; exact ⟨⟨rfl, hd', hi', tn, Nat.le_trans (len_of hp) tl⟩, hf'.mono (fun i e => .inl (e.elim .inl (fun q => .inr (.inr q))))⟩
theorem tk_turn (w : World) (b1 : Nat) (h1 : Has w b1 [fv 153] 194) : TakeC w .turn 190 #[pv b1] := by
  refine ⟨en128, fun W db ib rb B s g l1 l2 l3 t => ?_⟩; obtain ⟨d, L, r⟩ := s; obtain ⟨td, ti, tn, tl⟩ := t; dsimp only at td ti tl; show Calls prog 190 #[pv db, pv ib, pv b1] W _; have k1 := h1.kept g (by simp); cases hp : need L 1 with
  | none =>
    (have ht : tk .turn (d, L, r) = none := by simp only [tk, hp]; rfl); rw [ht]; refine (lever1_no 153 10 db ib rb B b1 L r W p105 k1 ti hp).mono ?_; rintro e w' ⟨rfl, g'⟩; exact ⟨rfl, Fr.ofNone g'⟩
  | some p =>
    (have ht : tk .turn (d, L, r) = some ({ d with turn := sval p.1 }, p.2, r) := by simp only [tk, hp]; rfl); rw [ht]; refine (lever1_ok 153 10 db ib rb B b1 d.cells L r W p105 k1 td (by rw [cells_len]; decide) tn ti p hp).mono ?_; rintro e w' ⟨rfl, hd', hi', hf'⟩; exact ⟨⟨rfl, hd', hi', tn, Nat.le_trans (len_of hp) tl⟩, hf'.mono (fun i e => .inl (e.elim .inl (fun q => .inr (.inr q))))⟩
theorem tk_player (w : World) : TakeC w .player 145 #[] := by
  refine ⟨en97, fun W db ib rb B s g l1 l2 l3 t => ?_⟩; obtain ⟨d, L, r⟩ := s; obtain ⟨td, ti, tn, tl⟩ := t; dsimp only at td ti tl; show Calls prog 145 #[pv db, pv ib] W _; cases hp : need L 1 with
  | none =>
    (have ht : tk .player (d, L, r) = none := by simp only [tk, hp]; rfl); rw [ht]; refine (player1_no db ib rb B L r W ti hp).mono ?_; rintro e w' ⟨rfl, g'⟩; exact ⟨rfl, Fr.ofNone g'⟩
  | some p =>
    (have ht : tk .player (d, L, r) = some ({ d with player := (val p.1 : Nat) }, p.2, r) := by simp only [tk, hp]; rfl); rw [ht]; refine (player1_ok db ib rb B d.cells L r W td rfl tn ti p hp).mono ?_; rintro e w' ⟨rfl, hd', hi', hf'⟩; exact ⟨⟨rfl, hd', hi', tn, Nat.le_trans (len_of hp) tl⟩, hf'.mono (fun i e => .inl (e.elim .inl (fun q => .inr (.inr q))))⟩
theorem tk_view (w : World) : TakeC w .view 156 #[] := by
  refine ⟨en108, fun W db ib rb B s g l1 l2 l3 t => ?_⟩; obtain ⟨d, L, r⟩ := s; obtain ⟨td, ti, tn, tl⟩ := t; dsimp only at td ti tl; show Calls prog 156 #[pv db, pv ib] W _; cases hp : need L ((L.length : Int) - 32) with
  | none =>
    (have ht : tk .view (d, L, r) = none := by simp only [tk, hp]; rfl); rw [ht]; refine (view1_no db ib rb B L r W ti tl hp).mono ?_; rintro e w' ⟨rfl, g'⟩; exact ⟨rfl, Fr.ofNone g'⟩
  | some p =>
    (have ht : tk .view (d, L, r) = some ({ d with data := ba p.1 }, p.2, r) := by simp only [tk, hp]; rfl); rw [ht]; refine (view1_ok db ib rb B d.cells L r W td rfl tn ti tl p hp).mono ?_; rintro e w' ⟨rfl, hd', hi', hf'⟩; exact ⟨⟨rfl, hd', hi', tn, Nat.le_trans (len_of hp) tl⟩, hf'.mono (fun i e => .inl (e.elim .inl (fun q => .inr (.inr q))))⟩
theorem tk_flags (w : World) : TakeC w .flags 154 #[] := by
  refine ⟨en106, fun W db ib rb B s g l1 l2 l3 t => ?_⟩; obtain ⟨d, L, r⟩ := s; obtain ⟨td, ti, tn, tl⟩ := t; dsimp only at td ti tl; show Calls prog 154 #[pv db, pv ib] W _; cases hp : need L 1 with
  | none =>
    (have ht : tk .flags (d, L, r) = none := by simp only [tk, hp]; rfl); rw [ht]; refine (flags1_no db ib rb B L r W ti hp).mono ?_; rintro e w' ⟨rfl, g'⟩; exact ⟨rfl, Fr.ofNone g'⟩
  | some p =>
    (have ht : tk .flags (d, L, r) = some ({ d with fire := decide (val p.1 % 2 = 1), boost := decide (val p.1 / 2 % 2 = 1) }, p.2, r || !decide (val p.1 ≤ 3)) := by simp only [tk, hp]; rfl); rw [ht]; refine (flags1_ok db ib rb B d.cells L r W td rfl tn ti p hp).mono ?_; rintro e w' ⟨rfl, hd', hi', hf'⟩; exact ⟨⟨rfl, hd', hi', tn, Nat.le_trans (len_of hp) tl⟩, hf'.mono (fun i e => .inl e)⟩
theorem tk_zeros (w : World) (zb : Nat) (hz : Has w zb [.string (ba zero76)] 9) : TakeC w .zeros 132 #[pv zb] := by
  refine ⟨en84, fun W db ib rb B s g l1 l2 l3 t => ?_⟩; obtain ⟨d, L, r⟩ := s; obtain ⟨td, ti, tn, tl⟩ := t; dsimp only at td ti tl; show Calls prog 132 #[pv db, pv ib, pv zb] W _; have k1 := hz.kept g (by simp); have hb : zb ≠ rb ∧ zb ≠ ib := by have := hz.lt; omega
  have hzd : zb ≠ db := by have := hz.lt; omega
  cases hp : need L 76 with
  | none =>
    (have ht : tk .zeros (d, L, r) = none := by simp only [tk, hp]; rfl); rw [ht]; refine (zeros1_no db ib rb B zb L r W k1 hb ti hp).mono ?_; rintro e w' ⟨rfl, g'⟩; exact ⟨rfl, Fr.ofNone g'⟩
  | some p =>
    (have ht : tk .zeros (d, L, r) = some (d, p.2, r || !decide (p.1 = zero76)) := by simp only [tk, hp]; rfl); rw [ht]; refine (zeros1_ok db ib rb B zb L r W k1 hb ti p hp).mono ?_; rintro e w' ⟨rfl, hi', hf'⟩; have hd' := td.fr hf' (by simp; omega); exact ⟨⟨rfl, hd', hi', tn, Nat.le_trans (len_of hp) tl⟩, hf'.mono (fun i e => .inl (.inr e))⟩
theorem tk_name (w : World) : TakeC w .name 139 #[] := by
  refine ⟨en91, fun W db ib rb B s g l1 l2 l3 t => ?_⟩; obtain ⟨d, L, r⟩ := s; obtain ⟨td, ti, tn, tl⟩ := t; dsimp only at td ti tl; show Calls prog 139 #[pv db, pv ib] W _; cases hb : ((need L 1).bind fun p => need p.2 (val p.1 : Nat)) with
  | none =>
    have ht : tk .name (d, L, r) = none := by
      simp only [tk]; cases hp : need L 1 with
      | none => rfl
      | some p =>
        rw [hp] at hb; simp only [Option.bind_some] at hb ⊢; rw [hb]; rfl
    rw [ht]; refine (name1_no db ib rb B L r W ti hb).mono ?_; rintro e w' ⟨rfl, g'⟩; exact ⟨rfl, g'.mono (fun i e => .inl (.inr (.inr e)))⟩
  | some q =>
    obtain ⟨p, hp, hq⟩ := Option.bind_eq_some_iff.1 hb; (have ht : tk .name (d, L, r) = some ({ d with name := ba q.1 }, q.2, r) := by simp only [tk, hp, Option.bind_some, hq]; rfl); rw [ht]; refine (name1_ok db ib rb B d.cells L r W td rfl tn ti p q hp hq).mono ?_; rintro e w' ⟨rfl, hd', hi', hf'⟩; exact ⟨⟨rfl, hd', hi', tn, Nat.le_trans (len_of hq) (Nat.le_trans (len_of hp) tl)⟩, hf'.mono (fun i e => .inl (e.elim .inl (fun q => .inr (.inr q))))⟩
structure Ot (w : World) (ob wb : Nat) (v : Value) (st : WS) (r : Bool) : Prop where
  h : Has w ob [pv wb, .bool r] 174
  a : WAt w wb v st
  n1 : ob ≠ wb
  n2 : v.ownBlock ≠ some ob
def OF (ob wb : Nat) (v : Value) (i : Nat) : Prop := i = ob ∨ WF wb v i
theorem Ot.fr {S : Nat → Prop} {w w' : World} {ob wb : Nat} {v : Value} {st : WS} {r : Bool} (h : Ot w ob wb v st r) (f : Fr S w w') (hs : ∀ i, OF ob wb v i → ¬ S i) : Ot w' ob wb v st r :=
  ⟨h.h.fr f (hs _ (.inl rfl)), h.a.fr f (fun i hi => hs i (.inr hi)), h.n1, h.n2⟩
theorem Ot.kept {w w' : World} {ob wb : Nat} {v : Value} {st : WS} {r : Bool} (h : Ot w ob wb v st r) (hg : w.grownBy w' none) : Ot w' ob wb v st r :=
  h.fr (S := fun _ => False) (Fr.ofNone hg) (fun _ _ e => e)
structure OD (w w' : World) (ob wb : Nat) (v : Value) (st : WS) (r : Bool) (v' : Value) : Prop where
  a : Ot w' ob wb v' st r
  f : Fr (OF ob wb v) w w'
  n : ∀ k, v'.ownBlock = some k → v.ownBlock = some k ∨ w.heap.size ≤ k
theorem Ot.did {w w' : World} {ob wb : Nat} {v v' : Value} {st st' : WS} {r : Bool} (h : Ot w ob wb v st r) (d : WDid w w' wb v st' v') : OD w w' ob wb v st' r v' :=
  ⟨⟨h.h.fr d.f (fun e => e.elim h.n1 h.n2), d.a, h.n1, fun e => by
    rcases d.n _ e with q | q
    · exact h.n2 q
    · have := h.h.lt; omega⟩, d.f.mono (fun i e => .inl (.inr e)), d.n⟩
theorem OD.ahead {w w1 w2 : World} {ob wb : Nat} {v v1 : Value} {st : WS} {r : Bool} (hg : w.grownBy w1 none) (h : OD w1 w2 ob wb v st r v1) : OD w w2 ob wb v st r v1 :=
  ⟨h.a, (Fr.ofNone hg).trans h.f, fun k e => (h.n k e).imp_right (fun q => Nat.le_trans hg.size q)⟩
theorem OD.trans {w w1 w2 : World} {ob wb : Nat} {v v1 v2 : Value} {st st2 : WS} {r r2 : Bool} (h : OD w w1 ob wb v st r v1) (k : OD w1 w2 ob wb v1 st2 r2 v2) : OD w w2 ob wb v st2 r2 v2 := by
  have hs := h.f.size; refine ⟨k.a, h.f.then k.f (fun i hi => ?_), fun i e => ?_⟩
  · rcases hi with e | e | e
    · exact .inl (.inl e)
    · exact .inl (.inr (.inl e))
    · exact (h.n i e).imp_left (fun q => .inr (.inr q))
  · rcases k.n i e with q | q
    · exact h.n i q
    · exact .inr (by omega)
theorem oallow_c (ob wb : Nat) (v : Value) (st : WS) (r ok : Bool) (w : World) (h : Ot w ob wb v st r) :
    Calls prog 182 #[pv ob, .bool ok] w fun e w' => e = .returned (.tuple #[]) ∧ OD w w' ob wb v st (r || !ok) v := by
  have c1 : w.cell? ⟨ob, 1, none⟩ = some (.bool r) := h.h.cellv 1 _ rfl; have z1 : w.frozen? ⟨ob, 1, none⟩ = false := h.h.frozen 1
  have HA : Kp (∀ x, OD w (w.setCell ⟨ob, 1, none⟩ (.bool x)) ob wb v st x v) := ⟨fun x => by
    have f : Fr (fun i => i = ob) w (w.setCell ⟨ob, 1, none⟩ (.bool x)) := Fr.ofSome (gr_set w ob 1 (.bool x)) rfl
    exact ⟨⟨h.h.setCell 1 (.bool x), h.a.fr f (fun i hi e => hi.elim (fun q => h.n1 (e.symm.trans q)) (fun q => h.n2 (e ▸ q))), h.n1, h.n2⟩, f.mono (fun i e => .inl (.inl e)), fun k e => .inl e⟩⟩
  clear h; cases r
  all_goals
    go_enter func182, ntmps182
    go_wp2
    go_end0
    exact ⟨rfl, by simpa using HA.out _⟩
structure Lay (w : World) (db ob wb : Nat) (v : Value) (D : List Value) (st : WS) (r : Bool) : Prop where
  d : Has w db D 34
  o : Ot w ob wb v st r
  n : ¬ OF ob wb v db
  l : (st.getD []).length ≤ 8796093022208
theorem Lay.drew {w : World} {db ob wb : Nat} {v : Value} {D : List Value} {st : WS} {r : Bool} (h : Lay w db ob wb v D st r) : Lay w.drew db ob wb v D st r := ⟨h.d.kept (gr_drew _ none) (by simp), h.o.kept (gr_drew _ _), h.n, h.l⟩
theorem long2_c (f k db ob wb b1 : Nat) (v : Value) (D : List Value) (st : WS) (r : Bool) (x : Nat) (hx : x < 18446744073709551616) (w : World) (hf : Place f k) (h1 : Has w b1 [fv f] 191) (hb : ¬ OF ob wb v b1) (h : Lay w db ob wb v D st r) (hk : D[k]? = some (.int .u64 (x : Nat))) :
    Calls prog 186 #[pv db, pv ob, pv b1] w fun e w' => e = .returned (.tuple #[]) ∧ ∃ v', OD w w' ob wb v (wNum st x 8) r v' := by
  obtain ⟨hcf, hf⟩ := hf; have HA : Kp (Lay w.drew db ob wb v D st r ∧ x < 18446744073709551616) := ⟨h.drew, hx⟩; have HH : Kp (Has w.drew b1 [fv f] 191 ∧ Has w.drew db D 34 ∧ Has w.drew ob [pv wb, .bool r] 174) := ⟨h1.kept (gr_drew _ none) (by simp), h.drew.d, h.drew.o.h⟩; have HDK : Kp (D[k]? = some (.int .u64 (x : Nat))) := ⟨hk⟩; clear h h1 hx hk; go_enter func186, ntmps186; go_wp2_with fail; refine wp_region_held_drew (S := fun w' => Has w' b1 [fv f] 191 ∧ Has w' db D 34 ∧ Has w' ob [pv wb, .bool r] 174) (by kernel_rfl) HH.out (fun hHeld => ?_); refine hq 0 rfl ?_; refine hq 1 rfl ?_; refine hq 2 rfl ?_; refine hk_ 3 rfl ?_ (fun w hSw => by have x1 := hSw.2.2.cellv 0 _ rfl; clear hSw; go_simp; first | done | (with_reducible rfl)); refine hk_ 4 rfl ?_ (fun w hSw => by have x1 := hSw.1.cellv 0 _ rfl; clear hSw; go_simp; first | done | (with_reducible rfl)); refine hq 5 rfl ?_; simp only [Act.put, uz]; refine ha 6 (fun K hK => ?_) (ho := rfl); go_simp; refine (hf db _).mono ?_; rintro e w1 ⟨rfl, hw1⟩; subst hw1; refine hK.out _ _ HH.out (fun hHeld => ?_); clear hK K; refine hq 7 rfl ?_; refine hk_ 8 rfl ?_ (fun w hSw => by have x1 := hSw.2.1.cellv k _ HDK.out; clear hSw; go_simp; first | done | (with_reducible rfl)); simp only [Act.put, uz]; refine ha 9 (fun K hK => ?_) (ho := rfl); go_simp; refine (wNumber_c wb v st x 8 _ HA.out.1.o.a HA.out.2 (by have := HA.out.1.l; omega)).mono ?_; rintro e w2 ⟨rfl, v', d2⟩; have HD : Kp (OD w w2 ob wb v (wNum st x 8) r v') := ⟨(HA.out.1.o.did d2).ahead (gr_drew _ _)⟩; have f2 : Fr (OF ob wb v) w.drew w2 := (HA.out.1.o.did d2).f; refine hK.out _ _ ⟨HH.out.1.fr f2 hb, HH.out.2.1.fr f2 HA.out.1.n, HD.out.a.h⟩ (fun hHeld => ?_); refine hd_ ?_; clear hK K; go_wp2_with fail
  go_end0
  exact ⟨rfl, v', HD.out⟩
theorem lever2_c (f k db ob wb b1 : Nat) (v : Value) (D : List Value) (st : WS) (r : Bool) (x : Int) (hx : -9223372036854775808 ≤ x ∧ x < 9223372036854775808) (w : World) (hf : Place f k) (h1 : Has w b1 [fv f] 194) (hb : ¬ OF ob wb v b1) (h : Lay w db ob wb v D st r) (hk : D[k]? = some (.int .i64 x)) :
    Calls prog 192 #[pv db, pv ob, pv b1] w fun e w' => e = .returned (.tuple #[]) ∧ ∃ v', OD w w' ob wb v (wSig st x 1) r v' := by
  obtain ⟨hcf, hf⟩ := hf; have HA : Kp (Lay w.drew db ob wb v D st r ∧ -9223372036854775808 ≤ x ∧ x < 9223372036854775808) := ⟨h.drew, hx⟩; have HH : Kp (Has w.drew b1 [fv f] 194 ∧ Has w.drew db D 34 ∧ Has w.drew ob [pv wb, .bool r] 174) := ⟨h1.kept (gr_drew _ none) (by simp), h.drew.d, h.drew.o.h⟩; have HDK : Kp (D[k]? = some (.int .i64 x)) := ⟨hk⟩; clear h h1 hx hk; go_enter func192, ntmps192; go_wp2_with fail; refine wp_region_held_drew (S := fun w' => Has w' b1 [fv f] 194 ∧ Has w' db D 34 ∧ Has w' ob [pv wb, .bool r] 174) (by kernel_rfl) HH.out (fun hHeld => ?_); refine hq 0 rfl ?_; refine hq 1 rfl ?_; refine hq 2 rfl ?_; refine hk_ 3 rfl ?_ (fun w hSw => by have x1 := hSw.2.2.cellv 0 _ rfl; clear hSw; go_simp; first | done | (with_reducible rfl)); refine hk_ 4 rfl ?_ (fun w hSw => by have x1 := hSw.1.cellv 0 _ rfl; clear hSw; go_simp; first | done | (with_reducible rfl)); refine hq 5 rfl ?_; simp only [Act.put, uz]; refine ha 6 (fun K hK => ?_) (ho := rfl); go_simp; refine (hf db _).mono ?_; rintro e w1 ⟨rfl, hw1⟩; subst hw1; refine hK.out _ _ HH.out (fun hHeld => ?_); clear hK K; refine hq 7 rfl ?_; refine hk_ 8 rfl ?_ (fun w hSw => by have x1 := hSw.2.1.cellv k _ HDK.out; clear hSw; go_simp; first | done | (with_reducible rfl)); simp only [Act.put, uz]; refine ha 9 (fun K hK => ?_) (ho := rfl); go_simp; refine (wSigned_c wb v st x 1 _ HA.out.1.o.a HA.out.2 (by have := HA.out.1.l; omega)).mono ?_; rintro e w2 ⟨rfl, v', d2⟩; have HD : Kp (OD w w2 ob wb v (wSig st x 1) r v') := ⟨(HA.out.1.o.did d2).ahead (gr_drew _ _)⟩; have f2 : Fr (OF ob wb v) w.drew w2 := (HA.out.1.o.did d2).f; refine hK.out _ _ ⟨HH.out.1.fr f2 hb, HH.out.2.1.fr f2 HA.out.1.n, HD.out.a.h⟩ (fun hHeld => ?_); refine hd_ ?_; clear hK K; go_wp2_with fail
  go_end0
  exact ⟨rfl, v', HD.out⟩
theorem player2_c (db ob wb : Nat) (v : Value) (D : List Value) (st : WS) (r : Bool) (x : Int) (hx : -9223372036854775808 ≤ x ∧ x < 9223372036854775808) (w : World) (h : Lay w db ob wb v D st r) (hk : D[6]? = some (.int .i64 x)) :
    Calls prog 147 #[pv db, pv ob] w fun e w' => e = .returned (.tuple #[]) ∧ ∃ v', OD w w' ob wb v (wNum st (u64 x) 1) r v' := by
  have HA : Kp (Lay w.drew db ob wb v D st r ∧ -9223372036854775808 ≤ x ∧ x < 9223372036854775808) := ⟨h.drew, hx⟩; have HH : Kp (Has w.drew db D 34 ∧ Has w.drew ob [pv wb, .bool r] 174) := ⟨h.drew.d, h.drew.o.h⟩; have HDK : Kp (D[6]? = some (.int .i64 x)) := ⟨hk⟩; clear h hk; have hu : IntKind.u64.wrap x = (u64 x : Nat) := by rw [wu]; unfold u64; omega
  go_enter func147, ntmps147; go_wp2_with fail; refine wp_region_held_drew (S := fun w' => Has w' db D 34 ∧ Has w' ob [pv wb, .bool r] 174) (by kernel_rfl) HH.out (fun hHeld => ?_); refine hq 0 rfl ?_; refine hq 1 rfl ?_; refine hq 2 rfl ?_; refine hk_ 3 rfl ?_ (fun w hSw => by have x1 := hSw.2.cellv 0 _ rfl; clear hSw; go_simp; first | done | (with_reducible rfl)); refine hq 4 rfl ?_; refine hq 5 rfl ?_; refine hq 6 rfl ?_; refine hk_ 7 rfl ?_ (fun w hSw => by have x1 := hSw.1.cellv 6 _ HDK.out; clear hSw; go_simp; first | done | (with_reducible rfl)); refine hq 8 rfl ?_; simp only [Act.put, uz]; refine ha 9 (fun K hK => ?_) (ho := rfl); go_simp; refine (wNumber_c wb v st (u64 x) 1 _ HA.out.1.o.a (u64_lt x) (by have := HA.out.1.l; omega)).mono ?_; rintro e w2 ⟨rfl, v', d2⟩; have HD : Kp (OD w w2 ob wb v (wNum st (u64 x) 1) r v') := ⟨(HA.out.1.o.did d2).ahead (gr_drew _ _)⟩; have f2 : Fr (OF ob wb v) w.drew w2 := (HA.out.1.o.did d2).f; refine hK.out _ _ ⟨HH.out.1.fr f2 HA.out.1.n, HD.out.a.h⟩ (fun hHeld => ?_); refine hd_ ?_; clear hK K; go_wp2_with fail
  go_end0
  exact ⟨rfl, v', HD.out⟩
theorem name2_c (db ob wb : Nat) (v : Value) (D : List Value) (st : WS) (r : Bool) (x : ByteArray) (hx : x.size ≤ 1099511627776) (w : World) (h : Lay w db ob wb v D st r) (hk : D[4]? = some (.string x)) :
    Calls prog 141 #[pv db, pv ob] w fun e w' => e = .returned (.tuple #[]) ∧ ∃ v', OD w w' ob wb v (wText st (sl x)) r v' := by
  have HA : Kp (Lay w.drew db ob wb v D st r ∧ x.size ≤ 1099511627776) := ⟨h.drew, hx⟩; have HH : Kp (Has w.drew db D 34 ∧ Has w.drew ob [pv wb, .bool r] 174) := ⟨h.drew.d, h.drew.o.h⟩; have HDK : Kp (D[4]? = some (.string x)) := ⟨hk⟩; clear h hx hk; go_enter func141, ntmps141; go_wp2_with fail; refine wp_region_held_drew (S := fun w' => Has w' db D 34 ∧ Has w' ob [pv wb, .bool r] 174) (by kernel_rfl) HH.out (fun hHeld => ?_); refine hq 0 rfl ?_; refine hq 1 rfl ?_; refine hq 2 rfl ?_; refine hk_ 3 rfl ?_ (fun w hSw => by have x1 := hSw.2.cellv 0 _ rfl; clear hSw; go_simp; first | done | (with_reducible rfl)); refine hq 4 rfl ?_; refine hq 5 rfl ?_; refine hq 6 rfl ?_; refine hk_ 7 rfl ?_ (fun w hSw => by have x1 := hSw.1.cellv 4 _ HDK.out; clear hSw; go_simp; first | done | (with_reducible rfl)); simp only [Act.put, uz]; refine ha 8 (fun K hK => ?_) (ho := rfl); go_simp; refine (wText_c wb v st x _ HA.out.1.o.a (by have := HA.out.1.l; have := HA.out.2; omega)).mono ?_; rintro e w2 ⟨rfl, v', d2⟩; have HD : Kp (OD w w2 ob wb v (wText st (sl x)) r v') := ⟨(HA.out.1.o.did d2).ahead (gr_drew _ _)⟩; have f2 : Fr (OF ob wb v) w.drew w2 := (HA.out.1.o.did d2).f; refine hK.out _ _ ⟨HH.out.1.fr f2 HA.out.1.n, HD.out.a.h⟩ (fun hHeld => ?_); refine hd_ ?_; clear hK K; go_wp2_with fail
  go_end0
  exact ⟨rfl, v', HD.out⟩
theorem view2_c (db ob wb : Nat) (v : Value) (D : List Value) (st : WS) (r : Bool) (x : ByteArray) (hx : x.size ≤ 1099511627776) (w : World) (h : Lay w db ob wb v D st r) (hk : D[13]? = some (.string x)) :
    Calls prog 158 #[pv db, pv ob] w fun e w' => e = .returned (.tuple #[]) ∧ ∃ v', OD w w' ob wb v (wBytes st (sl x)) r v' := by
  have HA : Kp (Lay w.drew db ob wb v D st r ∧ x.size ≤ 1099511627776) := ⟨h.drew, hx⟩; have HH : Kp (Has w.drew db D 34 ∧ Has w.drew ob [pv wb, .bool r] 174) := ⟨h.drew.d, h.drew.o.h⟩; have HDK : Kp (D[13]? = some (.string x)) := ⟨hk⟩; clear h hx hk; go_enter func158, ntmps158; go_wp2_with fail; refine wp_region_held_drew (S := fun w' => Has w' db D 34 ∧ Has w' ob [pv wb, .bool r] 174) (by kernel_rfl) HH.out (fun hHeld => ?_); refine hq 0 rfl ?_; refine hq 1 rfl ?_; refine hq 2 rfl ?_; refine hk_ 3 rfl ?_ (fun w hSw => by have x1 := hSw.2.cellv 0 _ rfl; clear hSw; go_simp; first | done | (with_reducible rfl)); refine hq 4 rfl ?_; refine hq 5 rfl ?_; refine hq 6 rfl ?_; refine hk_ 7 rfl ?_ (fun w hSw => by have x1 := hSw.1.cellv 13 _ HDK.out; clear hSw; go_simp; first | done | (with_reducible rfl)); simp only [Act.put, uz]; refine ha 8 (fun K hK => ?_) (ho := rfl); go_simp; refine (wBytes_c wb v st x _ HA.out.1.o.a (by have := HA.out.1.l; have := HA.out.2; omega)).mono ?_; rintro e w2 ⟨rfl, v', d2⟩; have HD : Kp (OD w w2 ob wb v (wBytes st (sl x)) r v') := ⟨(HA.out.1.o.did d2).ahead (gr_drew _ _)⟩; have f2 : Fr (OF ob wb v) w.drew w2 := (HA.out.1.o.did d2).f; refine hK.out _ _ ⟨HH.out.1.fr f2 HA.out.1.n, HD.out.a.h⟩ (fun hHeld => ?_); refine hd_ ?_; clear hK K; go_wp2_with fail
  go_end0
  exact ⟨rfl, v', HD.out⟩
end Go.Proofs.YtldnpebnpbahjaaGreatDoor.Pk
