import Derived.Test.YtkdjcknikhgfkaaGreatDoorSR1
import Derived.Test.YtkdjcknikhgfkaaGreatDoorSF2
/- the reference's Read -/
namespace Go.Proofs.YtkdjcknikhgfkaaGreatDoor.Pk.Sn
open Go Go.RowKit

theorem Sep.at_ {w0 W W' : World} (A : List As) {a a' : As} {B : List As} (h : Sep w0 W (A ++ a :: B)) (f : ∀ l, Sep w0 W (a :: l) → Sep w0 W' (a' :: l)) : Sep w0 W' (A ++ a' :: B) := (f _ (fr1 A h)).perm List.perm_middle.symm
/-- the reference's Reader, as a thing -/
def qA (qb : Nat) (st : RS) : As :=
  ⟨fun W F => Qr.QAt W qb st ∧ F = fun i => i = qb,
   fun S W W' F h f hs => by obtain ⟨⟨⟨s, h1, h2⟩, h3⟩, rfl⟩ := h; exact ⟨⟨⟨s, h1.fr f (hs qb rfl), h2⟩, h3⟩, rfl⟩,
   fun W F h i hi => by obtain ⟨⟨⟨s, h1, _⟩, _⟩, rfl⟩ := h; rw [hi]; exact h1.lt⟩
theorem Sep.qGet {w0 W : World} {l : List As} {qb : Nat} {st : RS} (h : Sep w0 W l) (hm : qA qb st ∈ l) : Qr.QAt W qb st := by
  obtain ⟨F, q⟩ := h.get hm
  exact q.1
theorem Sep.qStep {w0 W W' : World} (A : List As) {B : List As} {qb : Nat} {st st' : RS} (h : Sep w0 W (A ++ qA qb st :: B)) (d : Qr.QDid W W' qb st') : Sep w0 W' (A ++ qA qb st' :: B) :=
  h.at_ A fun l h => by
    obtain ⟨F, ⟨q, rfl⟩, _, hu⟩ := h.use
    exact hu W' [_] d.f (Loc.one (a := qA _ _) _ ⟨d.a, rfl⟩ (fun i hi => .inl hi))
theorem Sep.qNew {w0 W : World} {l : List As} {qb : Nat} {s : ByteArray} (h : Sep w0 W (boxA qb [.string s, .int .i64 0] 87 :: l)) : Sep w0 W (qA qb (sl s, 0) :: l) := by
  obtain ⟨F, ⟨q, rfl⟩, _, hu⟩ := h.use
  exact hu W [_] (Fr.refl _ W) (Loc.one (a := qA _ _) _ ⟨⟨⟨s, q, fun _ => rfl⟩, fun e => absurd rfl e⟩, rfl⟩ (fun i hi => .inl hi))
theorem Sep.rowLo {w0 W : World} {l : List As} {e : TypeId} {k g n c : Nat} {xs : List Value} (h : Sep w0 W l) (hm : rowV e k (.slice (some ⟨g, 0, none⟩) n c) n xs ∈ l) : w0.heap.size ≤ g := by
  obtain ⟨m, h1, h2, _⟩ := h.ex
  rw [← h1] at hm
  obtain ⟨p, hp, e1⟩ := List.mem_map.1 hm
  have q := h2 p hp
  rw [e1] at q
  exact q.2 g (by rw [q.1.2]; rfl)
/-- those that are seen, in memory that is new -/
def SeenN (w w' : World) (a : Option Addr) (S : List Sn) : Prop := S ≠ [] → ∃ sb so, a = some ⟨sb, so, none⟩ ∧ w.heap.size ≤ sb ∧ SnR w' sb so S
theorem SeenN.seen {w w' : World} {a : Option Addr} {S : List Sn} (h : SeenN w w' a S) : SeenR w' a S := fun q => by
  obtain ⟨sb, so, e, _, r⟩ := h q
  exact ⟨sb, so, e, r⟩
theorem SeenN.nil (w w' : World) (a : Option Addr) : SeenN w w' a [] := fun q => absurd rfl q
/-- so many signed numbers -/
def sgs : Nat → RS → List Int × RS
  | 0, st => ([], st)
  | n + 1, st => ((sgs n st).1 ++ [(rSig (sgs n st).2 8).1], (rSig (sgs n st).2 8).2)
theorem sgs_len (n : Nat) (st : RS) : (sgs n st).1.length = n := by
  induction n with
  | zero => rfl
  | succ n ih => simp [sgs, ih]
def lbc (i : Nat) (st : RS) : List Value := (sgs i st).1.map iv ++ List.replicate (12 - i) (iv 0)
theorem lbc_get {i : Nat} {st : RS} (h : i < 12) : (lbc i st)[i]? = some (iv 0) := by
  unfold lbc
  rw [List.getElem?_append_right (by rw [List.length_map, sgs_len]; exact Nat.le_refl _), List.length_map, sgs_len, Nat.sub_self, List.getElem?_replicate, if_pos (by omega)]
theorem lbc_set {i : Nat} {st : RS} (h : i < 12) : (lbc i st).set i (iv (rSig (sgs i st).2 8).1) = lbc (i + 1) st := by
  unfold lbc
  obtain ⟨k, hk⟩ : ∃ k, 12 - i = k + 1 := ⟨11 - i, by omega⟩
  rw [hk, show 12 - (i + 1) = k by omega, List.set_append, if_neg (by rw [List.length_map, sgs_len]; omega), List.length_map, sgs_len, Nat.sub_self, List.replicate_succ, List.set_cons_zero]
  show _ = List.map iv ((sgs i st).1 ++ [(rSig (sgs i st).2 8).1]) ++ _
  rw [List.map_append, List.append_assoc]
  rfl
theorem num1_lt (st : RS) : (rNum st 1).1 < 256 := by
  have h := rTake_len st 1
  have e : rNumL st 1 = rTake st 1 := by unfold rNumL; rw [if_pos ⟨by omega, by omega⟩]
  unfold rNum
  rw [e]
  have h2 := val_lt (rTake st 1).1
  have h3 : 256 ^ (rTake st 1).1.length ≤ 256 ^ 1 := Nat.pow_le_pow_right (by omega) (by omega)
  omega
theorem take_head {st st1 st2 st3 : RS} {T P : Nat} {N1 : List UInt8} (e1 : rNum st 8 = (T, st1)) (e2 : rNum st1 1 = (P, st2)) (e3 : rText st2 = (N1, st3)) :
    ∃ a0 a1 a2 a3 a4 a5 a6 a7 a8 a9 a10 a11 st4, sgs 12 st3 = ([a0, a1, a2, a3, a4, a5, a6, a7, a8, a9, a10, a11], st4) ∧ ∀ n st5, rNum st4 1 = (n, st5) → takeL hK st = ([.num T, .num P, .txt N1, .num a0, .num a1, .num a2, .num a3, .num a4, .num a5, .num a6, .num a7, .num a8, .num a9, .num a10, .num a11, .num n], st5) := by
  obtain ⟨b0, s0, h0⟩ : ∃ b s, rSig st3 8 = (b, s) := ⟨_, _, rfl⟩
  obtain ⟨b1, s1, h1⟩ : ∃ b s, rSig s0 8 = (b, s) := ⟨_, _, rfl⟩
  obtain ⟨b2, s2, h2⟩ : ∃ b s, rSig s1 8 = (b, s) := ⟨_, _, rfl⟩
  obtain ⟨b3, s3, h3⟩ : ∃ b s, rSig s2 8 = (b, s) := ⟨_, _, rfl⟩
  obtain ⟨b4, s4, h4⟩ : ∃ b s, rSig s3 8 = (b, s) := ⟨_, _, rfl⟩
  obtain ⟨b5, s5, h5⟩ : ∃ b s, rSig s4 8 = (b, s) := ⟨_, _, rfl⟩
  obtain ⟨b6, s6, h6⟩ : ∃ b s, rSig s5 8 = (b, s) := ⟨_, _, rfl⟩
  obtain ⟨b7, s7, h7⟩ : ∃ b s, rSig s6 8 = (b, s) := ⟨_, _, rfl⟩
  obtain ⟨b8, s8, h8⟩ : ∃ b s, rSig s7 8 = (b, s) := ⟨_, _, rfl⟩
  obtain ⟨b9, s9, h9⟩ : ∃ b s, rSig s8 8 = (b, s) := ⟨_, _, rfl⟩
  obtain ⟨b10, s10, h10⟩ : ∃ b s, rSig s9 8 = (b, s) := ⟨_, _, rfl⟩
  obtain ⟨b11, s11, h11⟩ : ∃ b s, rSig s10 8 = (b, s) := ⟨_, _, rfl⟩
  refine ⟨b0, b1, b2, b3, b4, b5, b6, b7, b8, b9, b10, b11, s11, ?_, fun n st5 e5 => ?_⟩
  · simp only [sgs, h0, h1, h2, h3, h4, h5, h6, h7, h8, h9, h10, h11, List.nil_append, List.cons_append]
  · simp only [hK, hMs, List.map_cons, List.map_nil, Mk.kd, takeL, takeK, e1, e2, e3, h0, h1, h2, h3, h4, h5, h6, h7, h8, h9, h10, h11, e5]
theorem take_tail (st : RS) : takeL tK st = ([.num (rNum st 1).1, .num (rSig (rNum st 1).2 8).1, .num (rSig (rSig (rNum st 1).2 8).2 8).1, .num (rSig (rSig (rSig (rNum st 1).2 8).2 8).2 8).1, .num (rNum (rSig (rSig (rSig (rNum st 1).2 8).2 8).2 8).2 1).1], (rNum (rSig (rSig (rSig (rNum st 1).2 8).2 8).2 8).2 1).2) := by
  simp only [tK, tMs, List.map_cons, List.map_nil, Mk.kd, takeL, takeK]
set_option maxRecDepth 100000 in
theorem built24 (a b : Int) : Tryz.prog.built 24 [(0, iv a), (1, iv b)] = some #[iv a, iv b] := by kernel_rfl
set_option maxRecDepth 100000 in
theorem built87 (s : ByteArray) : Tryz.prog.built 87 [(0, .string s)] = some #[.string s, .int .i64 0] := by kernel_rfl
set_option maxRecDepth 100000 in
theorem built40 (a : Int) : Tryz.prog.built 40 [(0, iv a)] = some (Sn.cs ⟨a, 0, 0, 0, 0⟩).toArray := by kernel_rfl
set_option maxRecDepth 100000 in
theorem info24 : (Tryz.prog.info? 24).map (·.size) = some 2 := by kernel_rfl
theorem w1 {x : Nat} (h : x < 256) : IntKind.i64.wrap (x : Int) = (x : Int) := wi _ (by omega) (by omega)
set_option maxHeartbeats 64000000 in
set_option maxRecDepth 100000 in
theorem rread_c (s : ByteArray) (w : World) :
    Calls Tryz.prog 18 #[.string s] w fun e w' => ∃ a c, e = .returned (.tuple #[.agg ((rdV (sl s)).1.cs a c).toArray, iv (rdV (sl s)).2]) ∧ w.grownBy w' none ∧ SeenN w w' a (rdV (sl s)).1.S := by
  obtain ⟨d, hd, hr⟩ := underV
  obtain ⟨d4, hd4, hrw4⟩ := underSn
  have HBT := Keep.mk builtV
  obtain ⟨w0, hw0⟩ : ∃ q, w.alloc (.cells #[.int .u64 0, .int .i64 0, .string { data := #[] }, .int .i64 0, .int .i64 0, .int .i64 0, .int .i64 0, .int .i64 0, .int .i64 0, .int .i64 0, .int .i64 0, .int .i64 0, .int .i64 0, .int .i64 0, .int .i64 0, .slice none 0 0] 29) = q := ⟨_, rfl⟩
  obtain ⟨w1, hw1⟩ : ∃ q, w0.alloc (.cells #[.string s, .int .i64 0] 87) = q := ⟨_, rfl⟩
  obtain ⟨w2, hw2⟩ : ∃ q, w1.alloc (.cells #[.int .u64 0, .int .i64 0, .string { data := #[] }, .int .i64 0, .int .i64 0, .int .i64 0, .int .i64 0, .int .i64 0, .int .i64 0, .int .i64 0, .int .i64 0, .int .i64 0, .int .i64 0, .int .i64 0, .int .i64 0, .slice none 0 0] 29) = q := ⟨_, rfl⟩
  have HS : Keep (Sep w w2 [boxA w1.heap.size [.int .u64 0, .int .i64 0, .string { data := #[] }, .int .i64 0, .int .i64 0, .int .i64 0, .int .i64 0, .int .i64 0, .int .i64 0, .int .i64 0, .int .i64 0, .int .i64 0, .int .i64 0, .int .i64 0, .int .i64 0, .slice none 0 0] 29, qA w0.heap.size (sl s, 0), boxA w.heap.size [.int .u64 0, .int .i64 0, .string { data := #[] }, .int .i64 0, .int .i64 0, .int .i64 0, .int .i64 0, .int .i64 0, .int .i64 0, .int .i64 0, .int .i64 0, .int .i64 0, .int .i64 0, .int .i64 0, .int .i64 0, .slice none 0 0] 29]) := by
    have h1 := (Sep.nil w).newBox #[.int .u64 0, .int .i64 0, .string { data := #[] }, .int .i64 0, .int .i64 0, .int .i64 0, .int .i64 0, .int .i64 0, .int .i64 0, .int .i64 0, .int .i64 0, .int .i64 0, .int .i64 0, .int .i64 0, .int .i64 0, .slice none 0 0] 29
    rw [hw0] at h1
    have h2 := h1.newBox #[.string s, .int .i64 0] 87
    rw [hw1] at h2
    have h3 := h2.qNew.newBox #[.int .u64 0, .int .i64 0, .string { data := #[] }, .int .i64 0, .int .i64 0, .int .i64 0, .int .i64 0, .int .i64 0, .int .i64 0, .int .i64 0, .int .i64 0, .int .i64 0, .int .i64 0, .int .i64 0, .int .i64 0, .slice none 0 0] 29
    rw [hw2] at h3
    exact ⟨h3⟩
  obtain ⟨T1, st1, e1⟩ : ∃ T st, rNum (sl s, 0) 8 = (T, st) := ⟨_, _, rfl⟩
  obtain ⟨P1, st2, e2⟩ : ∃ T st, rNum st1 1 = (T, st) := ⟨_, _, rfl⟩
  have hP : P1 < 256 := by have := num1_lt st1; rw [e2] at this; exact this
  obtain ⟨N1, st3, e3⟩ : ∃ T st, rText st2 = (T, st) := ⟨_, _, rfl⟩
  obtain ⟨a0, a1, a2, a3, a4, a5, a6, a7, a8, a9, a10, a11, st4, e4, hH0⟩ := take_head e1 e2 e3
  obtain ⟨n, st5, e5⟩ : ∃ T st, rNum st4 1 = (T, st) := ⟨_, _, rfl⟩
  have hn : n < 256 := by have := num1_lt st4; rw [e5] at this; exact this
  have hH := hH0 n st5 e5
  have HE := Keep.mk (And.intro e1 (And.intro e2 (And.intro e3 (And.intro e4 e5))))
  obtain ⟨NB, hNB⟩ : ∃ q, (⟨N1.toArray⟩ : ByteArray) = q := ⟨_, rfl⟩
  have HR : Keep (rdV (sl s) = if rDone (takeSn n st5).2 = 0 then (⟨T1, P1, NB, a0, a1, a2, a3, a4, a5, a6, a7, a8, a9, a10, a11, (takeSn n st5).1⟩, 0) else (Vw.zero, rDone (takeSn n st5).2)) := by
    refine ⟨?_⟩
    unfold rdV
    simp only [hH]
    rw [← hNB]
    rfl
  have HNB := Keep.mk hNB
  have hwP := Pk.Sn.w1 hP
  have hwn := Pk.Sn.w1 hn
  clear hH hH0 e1 e2 e3 e4 e5 hNB hP
  go_enter Tryz.func18, Tryz.ntmps18
  go_wp2_with (first
    | (with_reducible show wpList _ _ _ ({ dst := some 13, op := Op.build 87 _, type := _, pos := _, after := _, guard := _ } :: _) _ _
       refine build_g rfl 87 _ rfl _ ((congrArg (Tryz.prog.built 87) (by first | (simp only [List.map_toArray, List.map_cons, List.map_nil, Act.eval]; done) | (simp only [List.map_toArray, List.map_cons, List.map_nil, Act.eval]; with_reducible rfl) | (simp only [List.map_toArray, List.map_cons, List.map_nil, Act.eval]; rfl))).trans (built87 s)) ?_
       simp only [Act.put, List.setIfInBounds_toArray, List.set_cons_zero, List.set_cons_succ]))
  clear hw0 hw1 hw2
  refine (Qr.qNumber_c w0.heap.size (sl s, 0) 8 w2 (HS.out.qGet mm1)).mono ?_
  rintro e w3 ⟨rfl, D⟩
  have HS3 := Keep.mk (HS.out.qStep [_] D)
  clear D
  rw [HE.out.1] at HS3 ⊢
  have cw4 : w3.cell? ⟨w1.heap.size, 0, none⟩ = some (uv 0) := (HS3.out.boxGet mm0).cellv 0 _ rfl
  have fw4 := (HS3.out.boxGet mm0).frozen 0
  obtain ⟨w4, hw4⟩ : ∃ q, w3.setCell ⟨w1.heap.size, 0, none⟩ (.int .u64 (T1 : Int)) = q := ⟨_, rfl⟩
  have HS4 : Keep (Sep w w4 [boxA w1.heap.size [uv (T1 : Int), iv 0, .string { data := #[] }, iv 0, iv 0, iv 0, iv 0, iv 0, iv 0, iv 0, iv 0, iv 0, iv 0, iv 0, iv 0, .slice none 0 0] 29, qA w0.heap.size st1, boxA w.heap.size [.int .u64 0, .int .i64 0, .string { data := #[] }, .int .i64 0, .int .i64 0, .int .i64 0, .int .i64 0, .int .i64 0, .int .i64 0, .int .i64 0, .int .i64 0, .int .i64 0, .int .i64 0, .int .i64 0, .int .i64 0, .slice none 0 0] 29]) := ⟨by rw [← hw4]; exact HS3.out.boxPut 0 (.int .u64 (T1 : Int))⟩
  go_wp2_with fail
  clear cw4 fw4 hw4 HS3
  refine (Qr.qNumber_c w0.heap.size st1 1 w4 (HS4.out.qGet mm1)).mono ?_
  rintro e w5 ⟨rfl, D⟩
  have HS5 := Keep.mk (HS4.out.qStep [_] D)
  clear D
  rw [HE.out.2.1] at HS5 ⊢
  have cw6 : w5.cell? ⟨w1.heap.size, 1, none⟩ = some (iv 0) := (HS5.out.boxGet mm0).cellv 1 _ rfl
  have fw6 := (HS5.out.boxGet mm0).frozen 1
  obtain ⟨w6, hw6⟩ : ∃ q, w5.setCell ⟨w1.heap.size, 1, none⟩ (.int .i64 (P1 : Int)) = q := ⟨_, rfl⟩
  have HS6 : Keep (Sep w w6 [boxA w1.heap.size [uv (T1 : Int), iv (P1 : Int), .string { data := #[] }, iv 0, iv 0, iv 0, iv 0, iv 0, iv 0, iv 0, iv 0, iv 0, iv 0, iv 0, iv 0, .slice none 0 0] 29, qA w0.heap.size st2, boxA w.heap.size [.int .u64 0, .int .i64 0, .string { data := #[] }, .int .i64 0, .int .i64 0, .int .i64 0, .int .i64 0, .int .i64 0, .int .i64 0, .int .i64 0, .int .i64 0, .int .i64 0, .int .i64 0, .int .i64 0, .int .i64 0, .slice none 0 0] 29]) := ⟨by rw [← hw6]; exact HS5.out.boxPut 1 (.int .i64 (P1 : Int))⟩
  go_wp2_with fail
  clear cw6 fw6 hw6 HS5 HS4
  refine (Qr.qText_c w0.heap.size st2 w6 (HS6.out.qGet mm1)).mono ?_
  rintro e w7 ⟨rfl, D⟩
  have HS7 := Keep.mk (HS6.out.qStep [_] D)
  clear D
  rw [HE.out.2.2.1] at HS7 ⊢
  simp only [HNB.out]
  have cw8 : w7.cell? ⟨w1.heap.size, 2, none⟩ = some (.string { data := #[] }) := (HS7.out.boxGet mm0).cellv 2 _ rfl
  have fw8 := (HS7.out.boxGet mm0).frozen 2
  obtain ⟨w8, hw8⟩ : ∃ q, w7.setCell ⟨w1.heap.size, 2, none⟩ (.string NB) = q := ⟨_, rfl⟩
  have HS8 : Keep (Sep w w8 [boxA w1.heap.size [uv (T1 : Int), iv (P1 : Int), .string NB, iv 0, iv 0, iv 0, iv 0, iv 0, iv 0, iv 0, iv 0, iv 0, iv 0, iv 0, iv 0, .slice none 0 0] 29, qA w0.heap.size st3, boxA w.heap.size [.int .u64 0, .int .i64 0, .string { data := #[] }, .int .i64 0, .int .i64 0, .int .i64 0, .int .i64 0, .int .i64 0, .int .i64 0, .int .i64 0, .int .i64 0, .int .i64 0, .int .i64 0, .int .i64 0, .int .i64 0, .slice none 0 0] 29]) := ⟨by rw [← hw8]; exact HS7.out.boxPut 2 (.string NB)⟩
  obtain ⟨w9, hw9⟩ : ∃ q, w8.alloc (.cells #[.int .i64 0, .int .i64 0, .int .i64 0, .int .i64 0, .int .i64 0, .int .i64 0, .int .i64 0, .int .i64 0, .int .i64 0, .int .i64 0, .int .i64 0, .int .i64 0] 90) = q := ⟨_, rfl⟩
  have HS9 : Keep (Sep w w9 [boxA w1.heap.size [uv (T1 : Int), iv (P1 : Int), .string NB, iv 0, iv 0, iv 0, iv 0, iv 0, iv 0, iv 0, iv 0, iv 0, iv 0, iv 0, iv 0, .slice none 0 0] 29, qA w0.heap.size (sgs 0 st3).2, boxA w.heap.size [.int .u64 0, .int .i64 0, .string { data := #[] }, .int .i64 0, .int .i64 0, .int .i64 0, .int .i64 0, .int .i64 0, .int .i64 0, .int .i64 0, .int .i64 0, .int .i64 0, .int .i64 0, .int .i64 0, .int .i64 0, .slice none 0 0] 29, boxA w8.heap.size (lbc 0 st3) 90]) := ⟨by
    have h := HS8.out.newBox #[.int .i64 0, .int .i64 0, .int .i64 0, .int .i64 0, .int .i64 0, .int .i64 0, .int .i64 0, .int .i64 0, .int .i64 0, .int .i64 0, .int .i64 0, .int .i64 0] 90
    rw [hw9] at h
    exact h.perm (List.perm_append_comm (l₁ := [_]))⟩
  go_wp2_with fail
  clear cw8 fw8 hw8 hw9 HS7 HS6 HS8
  go_loopw [7] (fun u wr => ∃ i : Nat, i ≤ 12 ∧ u = .int .i64 i ∧ Keep (Sep w wr [boxA w1.heap.size [uv (T1 : Int), iv (P1 : Int), .string NB, iv 0, iv 0, iv 0, iv 0, iv 0, iv 0, iv 0, iv 0, iv 0, iv 0, iv 0, iv 0, .slice none 0 0] 29, qA w0.heap.size (sgs i st3).2, boxA w.heap.size [.int .u64 0, .int .i64 0, .string { data := #[] }, .int .i64 0, .int .i64 0, .int .i64 0, .int .i64 0, .int .i64 0, .int .i64 0, .int .i64 0, .int .i64 0, .int .i64 0, .int .i64 0, .int .i64 0, .int .i64 0, .slice none 0 0] 29, boxA w8.heap.size (lbc i st3) 90])) (fun u _ => 12 - (intOf u).toNat)
  case atStart => exact ⟨0, by omega, rfl, HS9⟩
  case round =>
    clear HS9
    obtain ⟨i, hi, rfl, hrel⟩ := hrel
    by_cases hlt : i < 12
    · have hlt' : (i : Int) < 12 := by omega
      have hi0 : (0 : Int) ≤ (i : Int) := by omega
      have hti : ((i : Nat) : Int).toNat = i := by omega
      go_wp2_with fail
      refine (Qr.qSigned_c w0.heap.size (sgs i st3).2 8 wr (hrel.out.qGet mm1)).mono ?_
      rintro e wk ⟨rfl, D⟩
      have HK := Keep.mk (hrel.out.qStep [_] D)
      clear D
      obtain ⟨x, hx⟩ : ∃ x, (rSig (sgs i st3).2 8).1 = x := ⟨_, rfl⟩
      have ck : wk.cell? ⟨w8.heap.size, i, none⟩ = some (.int .i64 0) := (HK.out.boxGet mm3).cellv i _ (lbc_get hlt)
      have fk := (HK.out.boxGet mm3).frozen i
      obtain ⟨wl, hwl⟩ : ∃ q, wk.setCell ⟨w8.heap.size, i, none⟩ (.int .i64 x) = q := ⟨_, rfl⟩
      have HL : Keep (Sep w wl [boxA w1.heap.size [uv (T1 : Int), iv (P1 : Int), .string NB, iv 0, iv 0, iv 0, iv 0, iv 0, iv 0, iv 0, iv 0, iv 0, iv 0, iv 0, iv 0, .slice none 0 0] 29, qA w0.heap.size (sgs (i + 1) st3).2, boxA w.heap.size [.int .u64 0, .int .i64 0, .string { data := #[] }, .int .i64 0, .int .i64 0, .int .i64 0, .int .i64 0, .int .i64 0, .int .i64 0, .int .i64 0, .int .i64 0, .int .i64 0, .int .i64 0, .int .i64 0, .int .i64 0, .slice none 0 0] 29, boxA w8.heap.size (lbc (i + 1) st3) 90]) := ⟨by
        have h := HK.out.at_ [_, _, _] (a' := boxA w8.heap.size ((lbc i st3).set i (.int .i64 x)) 90) (W' := wl) (fun l h => by rw [← hwl]; exact h.boxPut i _)
        rw [← hx, lbc_set hlt] at h
        exact h⟩
      rw [hx]
      clear hx hrel HK
      go_wp2_with fail
      clear ck fk hwl
      go_roundw
      case rel => exact ⟨i + 1, by omega, by go_num, HL⟩
      case measure => simp [intOf]; omega
    · have hlt' : ¬ (i : Int) < 12 := by omega
      obtain rfl : i = 12 := by omega
      have HM : Keep (Sep w wr [boxA w1.heap.size [uv (T1 : Int), iv (P1 : Int), .string NB, iv 0, iv 0, iv 0, iv 0, iv 0, iv 0, iv 0, iv 0, iv 0, iv 0, iv 0, iv 0, .slice none 0 0] 29, qA w0.heap.size st4, boxA w.heap.size [.int .u64 0, .int .i64 0, .string { data := #[] }, .int .i64 0, .int .i64 0, .int .i64 0, .int .i64 0, .int .i64 0, .int .i64 0, .int .i64 0, .int .i64 0, .int .i64 0, .int .i64 0, .int .i64 0, .int .i64 0, .slice none 0 0] 29, boxA w8.heap.size [iv a0, iv a1, iv a2, iv a3, iv a4, iv a5, iv a6, iv a7, iv a8, iv a9, iv a10, iv a11] 90]) := by
        have h := hrel.out
        unfold lbc at h
        rw [HE.out.2.2.2.1] at h
        exact ⟨h⟩
      clear hrel
      have l0wr : wr.cell? ⟨w8.heap.size, 0, none⟩ = some (.int .i64 a0) := (HM.out.boxGet mm3).cellv 0 _ rfl
      have l1wr : wr.cell? ⟨w8.heap.size, 1, none⟩ = some (.int .i64 a1) := (HM.out.boxGet mm3).cellv 1 _ rfl
      go_wp2_with (first
        | (with_reducible show wpList _ _ _ ({ dst := some 39, op := Op.build 24 _, type := _, pos := _, after := _, guard := _ } :: _) _ _
           refine build_g rfl 24 _ rfl _ ((congrArg (Tryz.prog.built 24) (by first | (simp only [List.map_toArray, List.map_cons, List.map_nil, Act.eval]; done) | (simp only [List.map_toArray, List.map_cons, List.map_nil, Act.eval]; with_reducible rfl) | (simp only [List.map_toArray, List.map_cons, List.map_nil, Act.eval]; rfl))).trans (built24 a0 a1)) ?_
           simp only [Act.put, List.setIfInBounds_toArray, List.set_cons_zero, List.set_cons_succ])
        | (with_reducible show wpList _ _ _ ({ dst := some 46, op := Op.build 24 _, type := _, pos := _, after := _, guard := _ } :: _) _ _
           refine build_g rfl 24 _ rfl _ ((congrArg (Tryz.prog.built 24) (by first | (simp only [List.map_toArray, List.map_cons, List.map_nil, Act.eval]; done) | (simp only [List.map_toArray, List.map_cons, List.map_nil, Act.eval]; with_reducible rfl) | (simp only [List.map_toArray, List.map_cons, List.map_nil, Act.eval]; rfl))).trans (built24 a2 a3)) ?_
           simp only [Act.put, List.setIfInBounds_toArray, List.set_cons_zero, List.set_cons_succ])
        | (with_reducible show wpList _ _ _ ({ dst := none, op := Op.store 24 _ (Operand.tmp 39), type := _, pos := _, after := _, guard := _ } :: _) _ _
           refine store_at wr (w1.heap.size) 3 [uv (T1 : Int), iv (P1 : Int), .string NB, iv 0, iv 0, iv 0, iv 0, iv 0, iv 0, iv 0, iv 0, iv 0, iv 0, iv 0, iv 0, .slice none 0 0] [iv a0, iv a1] 24 29 rfl rfl rfl rfl (HM.out.boxGet mm0) (by show 3 + 2 ≤ 16; omega) info24 (by intro u hu; simp only [List.mem_cons, List.not_mem_nil, or_false] at hu; rcases hu with rfl | rfl <;> rfl) ?_
           intro wa hS g6
           have HA : Keep (Sep w wa [boxA w1.heap.size [uv (T1 : Int), iv (P1 : Int), .string NB, iv a0, iv a1, iv 0, iv 0, iv 0, iv 0, iv 0, iv 0, iv 0, iv 0, iv 0, iv 0, .slice none 0 0] 29, qA w0.heap.size st4, boxA w.heap.size [.int .u64 0, .int .i64 0, .string { data := #[] }, .int .i64 0, .int .i64 0, .int .i64 0, .int .i64 0, .int .i64 0, .int .i64 0, .int .i64 0, .int .i64 0, .int .i64 0, .int .i64 0, .int .i64 0, .int .i64 0, .slice none 0 0] 29, boxA w8.heap.size [iv a0, iv a1, iv a2, iv a3, iv a4, iv a5, iv a6, iv a7, iv a8, iv a9, iv a10, iv a11] 90]) := ⟨hS _ _ HM.out⟩
           clear hS g6
           have l2wa : wa.cell? ⟨w8.heap.size, 2, none⟩ = some (.int .i64 a2) := (HA.out.boxGet mm3).cellv 2 _ rfl
           have l3wa : wa.cell? ⟨w8.heap.size, 3, none⟩ = some (.int .i64 a3) := (HA.out.boxGet mm3).cellv 3 _ rfl)
        | (with_reducible show wpList _ _ _ ({ dst := none, op := Op.store 24 _ (Operand.tmp 46), type := _, pos := _, after := _, guard := _ } :: _) _ _
           refine store_at wa (w1.heap.size) 5 [uv (T1 : Int), iv (P1 : Int), .string NB, iv a0, iv a1, iv 0, iv 0, iv 0, iv 0, iv 0, iv 0, iv 0, iv 0, iv 0, iv 0, .slice none 0 0] [iv a2, iv a3] 24 29 rfl rfl rfl rfl (HA.out.boxGet mm0) (by show 5 + 2 ≤ 16; omega) info24 (by intro u hu; simp only [List.mem_cons, List.not_mem_nil, or_false] at hu; rcases hu with rfl | rfl <;> rfl) ?_
           intro wb hS g6
           have HB : Keep (Sep w wb [boxA w1.heap.size [uv (T1 : Int), iv (P1 : Int), .string NB, iv a0, iv a1, iv a2, iv a3, iv 0, iv 0, iv 0, iv 0, iv 0, iv 0, iv 0, iv 0, .slice none 0 0] 29, qA w0.heap.size st4, boxA w.heap.size [.int .u64 0, .int .i64 0, .string { data := #[] }, .int .i64 0, .int .i64 0, .int .i64 0, .int .i64 0, .int .i64 0, .int .i64 0, .int .i64 0, .int .i64 0, .int .i64 0, .int .i64 0, .int .i64 0, .int .i64 0, .slice none 0 0] 29, boxA w8.heap.size [iv a0, iv a1, iv a2, iv a3, iv a4, iv a5, iv a6, iv a7, iv a8, iv a9, iv a10, iv a11] 90]) := ⟨hS _ _ HA.out⟩
           clear hS g6
           have l4wb : wb.cell? ⟨w8.heap.size, 4, none⟩ = some (.int .i64 a4) := (HB.out.boxGet mm3).cellv 4 _ rfl
           have cwc0 : wb.cell? ⟨w1.heap.size, 7, none⟩ = some (iv 0) := (HB.out.boxGet mm0).cellv 7 _ rfl
           have fwc0 := (HB.out.boxGet mm0).frozen 7
           obtain ⟨wc0, hwc0⟩ : ∃ q, wb.setCell ⟨w1.heap.size, 7, none⟩ (.int .i64 a4) = q := ⟨_, rfl⟩
           have HC0 : Keep (Sep w wc0 [boxA w1.heap.size [uv (T1 : Int), iv (P1 : Int), .string NB, iv a0, iv a1, iv a2, iv a3, iv a4, iv 0, iv 0, iv 0, iv 0, iv 0, iv 0, iv 0, .slice none 0 0] 29, qA w0.heap.size st4, boxA w.heap.size [.int .u64 0, .int .i64 0, .string { data := #[] }, .int .i64 0, .int .i64 0, .int .i64 0, .int .i64 0, .int .i64 0, .int .i64 0, .int .i64 0, .int .i64 0, .int .i64 0, .int .i64 0, .int .i64 0, .int .i64 0, .slice none 0 0] 29, boxA w8.heap.size [iv a0, iv a1, iv a2, iv a3, iv a4, iv a5, iv a6, iv a7, iv a8, iv a9, iv a10, iv a11] 90]) := ⟨by rw [← hwc0]; exact HB.out.boxPut 7 (.int .i64 a4)⟩
           have l5wc0 : wc0.cell? ⟨w8.heap.size, 5, none⟩ = some (.int .i64 a5) := (HC0.out.boxGet mm3).cellv 5 _ rfl
           have cwc1 : wc0.cell? ⟨w1.heap.size, 8, none⟩ = some (iv 0) := (HC0.out.boxGet mm0).cellv 8 _ rfl
           have fwc1 := (HC0.out.boxGet mm0).frozen 8
           obtain ⟨wc1, hwc1⟩ : ∃ q, wc0.setCell ⟨w1.heap.size, 8, none⟩ (.int .i64 a5) = q := ⟨_, rfl⟩
           have HC1 : Keep (Sep w wc1 [boxA w1.heap.size [uv (T1 : Int), iv (P1 : Int), .string NB, iv a0, iv a1, iv a2, iv a3, iv a4, iv a5, iv 0, iv 0, iv 0, iv 0, iv 0, iv 0, .slice none 0 0] 29, qA w0.heap.size st4, boxA w.heap.size [.int .u64 0, .int .i64 0, .string { data := #[] }, .int .i64 0, .int .i64 0, .int .i64 0, .int .i64 0, .int .i64 0, .int .i64 0, .int .i64 0, .int .i64 0, .int .i64 0, .int .i64 0, .int .i64 0, .int .i64 0, .slice none 0 0] 29, boxA w8.heap.size [iv a0, iv a1, iv a2, iv a3, iv a4, iv a5, iv a6, iv a7, iv a8, iv a9, iv a10, iv a11] 90]) := ⟨by rw [← hwc1]; exact HC0.out.boxPut 8 (.int .i64 a5)⟩
           have l6wc1 : wc1.cell? ⟨w8.heap.size, 6, none⟩ = some (.int .i64 a6) := (HC1.out.boxGet mm3).cellv 6 _ rfl
           have cwc2 : wc1.cell? ⟨w1.heap.size, 9, none⟩ = some (iv 0) := (HC1.out.boxGet mm0).cellv 9 _ rfl
           have fwc2 := (HC1.out.boxGet mm0).frozen 9
           obtain ⟨wc2, hwc2⟩ : ∃ q, wc1.setCell ⟨w1.heap.size, 9, none⟩ (.int .i64 a6) = q := ⟨_, rfl⟩
           have HC2 : Keep (Sep w wc2 [boxA w1.heap.size [uv (T1 : Int), iv (P1 : Int), .string NB, iv a0, iv a1, iv a2, iv a3, iv a4, iv a5, iv a6, iv 0, iv 0, iv 0, iv 0, iv 0, .slice none 0 0] 29, qA w0.heap.size st4, boxA w.heap.size [.int .u64 0, .int .i64 0, .string { data := #[] }, .int .i64 0, .int .i64 0, .int .i64 0, .int .i64 0, .int .i64 0, .int .i64 0, .int .i64 0, .int .i64 0, .int .i64 0, .int .i64 0, .int .i64 0, .int .i64 0, .slice none 0 0] 29, boxA w8.heap.size [iv a0, iv a1, iv a2, iv a3, iv a4, iv a5, iv a6, iv a7, iv a8, iv a9, iv a10, iv a11] 90]) := ⟨by rw [← hwc2]; exact HC1.out.boxPut 9 (.int .i64 a6)⟩
           have l7wc2 : wc2.cell? ⟨w8.heap.size, 7, none⟩ = some (.int .i64 a7) := (HC2.out.boxGet mm3).cellv 7 _ rfl
           have cwc3 : wc2.cell? ⟨w1.heap.size, 10, none⟩ = some (iv 0) := (HC2.out.boxGet mm0).cellv 10 _ rfl
           have fwc3 := (HC2.out.boxGet mm0).frozen 10
           obtain ⟨wc3, hwc3⟩ : ∃ q, wc2.setCell ⟨w1.heap.size, 10, none⟩ (.int .i64 a7) = q := ⟨_, rfl⟩
           have HC3 : Keep (Sep w wc3 [boxA w1.heap.size [uv (T1 : Int), iv (P1 : Int), .string NB, iv a0, iv a1, iv a2, iv a3, iv a4, iv a5, iv a6, iv a7, iv 0, iv 0, iv 0, iv 0, .slice none 0 0] 29, qA w0.heap.size st4, boxA w.heap.size [.int .u64 0, .int .i64 0, .string { data := #[] }, .int .i64 0, .int .i64 0, .int .i64 0, .int .i64 0, .int .i64 0, .int .i64 0, .int .i64 0, .int .i64 0, .int .i64 0, .int .i64 0, .int .i64 0, .int .i64 0, .slice none 0 0] 29, boxA w8.heap.size [iv a0, iv a1, iv a2, iv a3, iv a4, iv a5, iv a6, iv a7, iv a8, iv a9, iv a10, iv a11] 90]) := ⟨by rw [← hwc3]; exact HC2.out.boxPut 10 (.int .i64 a7)⟩
           have l8wc3 : wc3.cell? ⟨w8.heap.size, 8, none⟩ = some (.int .i64 a8) := (HC3.out.boxGet mm3).cellv 8 _ rfl
           have cwc4 : wc3.cell? ⟨w1.heap.size, 11, none⟩ = some (iv 0) := (HC3.out.boxGet mm0).cellv 11 _ rfl
           have fwc4 := (HC3.out.boxGet mm0).frozen 11
           obtain ⟨wc4, hwc4⟩ : ∃ q, wc3.setCell ⟨w1.heap.size, 11, none⟩ (.int .i64 a8) = q := ⟨_, rfl⟩
           have HC4 : Keep (Sep w wc4 [boxA w1.heap.size [uv (T1 : Int), iv (P1 : Int), .string NB, iv a0, iv a1, iv a2, iv a3, iv a4, iv a5, iv a6, iv a7, iv a8, iv 0, iv 0, iv 0, .slice none 0 0] 29, qA w0.heap.size st4, boxA w.heap.size [.int .u64 0, .int .i64 0, .string { data := #[] }, .int .i64 0, .int .i64 0, .int .i64 0, .int .i64 0, .int .i64 0, .int .i64 0, .int .i64 0, .int .i64 0, .int .i64 0, .int .i64 0, .int .i64 0, .int .i64 0, .slice none 0 0] 29, boxA w8.heap.size [iv a0, iv a1, iv a2, iv a3, iv a4, iv a5, iv a6, iv a7, iv a8, iv a9, iv a10, iv a11] 90]) := ⟨by rw [← hwc4]; exact HC3.out.boxPut 11 (.int .i64 a8)⟩
           have l9wc4 : wc4.cell? ⟨w8.heap.size, 9, none⟩ = some (.int .i64 a9) := (HC4.out.boxGet mm3).cellv 9 _ rfl
           have cwc5 : wc4.cell? ⟨w1.heap.size, 12, none⟩ = some (iv 0) := (HC4.out.boxGet mm0).cellv 12 _ rfl
           have fwc5 := (HC4.out.boxGet mm0).frozen 12
           obtain ⟨wc5, hwc5⟩ : ∃ q, wc4.setCell ⟨w1.heap.size, 12, none⟩ (.int .i64 a9) = q := ⟨_, rfl⟩
           have HC5 : Keep (Sep w wc5 [boxA w1.heap.size [uv (T1 : Int), iv (P1 : Int), .string NB, iv a0, iv a1, iv a2, iv a3, iv a4, iv a5, iv a6, iv a7, iv a8, iv a9, iv 0, iv 0, .slice none 0 0] 29, qA w0.heap.size st4, boxA w.heap.size [.int .u64 0, .int .i64 0, .string { data := #[] }, .int .i64 0, .int .i64 0, .int .i64 0, .int .i64 0, .int .i64 0, .int .i64 0, .int .i64 0, .int .i64 0, .int .i64 0, .int .i64 0, .int .i64 0, .int .i64 0, .slice none 0 0] 29, boxA w8.heap.size [iv a0, iv a1, iv a2, iv a3, iv a4, iv a5, iv a6, iv a7, iv a8, iv a9, iv a10, iv a11] 90]) := ⟨by rw [← hwc5]; exact HC4.out.boxPut 12 (.int .i64 a9)⟩
           have l10wc5 : wc5.cell? ⟨w8.heap.size, 10, none⟩ = some (.int .i64 a10) := (HC5.out.boxGet mm3).cellv 10 _ rfl
           have cwc6 : wc5.cell? ⟨w1.heap.size, 13, none⟩ = some (iv 0) := (HC5.out.boxGet mm0).cellv 13 _ rfl
           have fwc6 := (HC5.out.boxGet mm0).frozen 13
           obtain ⟨wc6, hwc6⟩ : ∃ q, wc5.setCell ⟨w1.heap.size, 13, none⟩ (.int .i64 a10) = q := ⟨_, rfl⟩
           have HC6 : Keep (Sep w wc6 [boxA w1.heap.size [uv (T1 : Int), iv (P1 : Int), .string NB, iv a0, iv a1, iv a2, iv a3, iv a4, iv a5, iv a6, iv a7, iv a8, iv a9, iv a10, iv 0, .slice none 0 0] 29, qA w0.heap.size st4, boxA w.heap.size [.int .u64 0, .int .i64 0, .string { data := #[] }, .int .i64 0, .int .i64 0, .int .i64 0, .int .i64 0, .int .i64 0, .int .i64 0, .int .i64 0, .int .i64 0, .int .i64 0, .int .i64 0, .int .i64 0, .int .i64 0, .slice none 0 0] 29, boxA w8.heap.size [iv a0, iv a1, iv a2, iv a3, iv a4, iv a5, iv a6, iv a7, iv a8, iv a9, iv a10, iv a11] 90]) := ⟨by rw [← hwc6]; exact HC5.out.boxPut 13 (.int .i64 a10)⟩
           have l11wc6 : wc6.cell? ⟨w8.heap.size, 11, none⟩ = some (.int .i64 a11) := (HC6.out.boxGet mm3).cellv 11 _ rfl
           have cwc7 : wc6.cell? ⟨w1.heap.size, 14, none⟩ = some (iv 0) := (HC6.out.boxGet mm0).cellv 14 _ rfl
           have fwc7 := (HC6.out.boxGet mm0).frozen 14
           obtain ⟨wc7, hwc7⟩ : ∃ q, wc6.setCell ⟨w1.heap.size, 14, none⟩ (.int .i64 a11) = q := ⟨_, rfl⟩
           have HC7 : Keep (Sep w wc7 [boxA w1.heap.size [uv (T1 : Int), iv (P1 : Int), .string NB, iv a0, iv a1, iv a2, iv a3, iv a4, iv a5, iv a6, iv a7, iv a8, iv a9, iv a10, iv a11, .slice none 0 0] 29, qA w0.heap.size st4, boxA w.heap.size [.int .u64 0, .int .i64 0, .string { data := #[] }, .int .i64 0, .int .i64 0, .int .i64 0, .int .i64 0, .int .i64 0, .int .i64 0, .int .i64 0, .int .i64 0, .int .i64 0, .int .i64 0, .int .i64 0, .int .i64 0, .slice none 0 0] 29, boxA w8.heap.size [iv a0, iv a1, iv a2, iv a3, iv a4, iv a5, iv a6, iv a7, iv a8, iv a9, iv a10, iv a11] 90]) := ⟨by rw [← hwc7]; exact HC6.out.boxPut 14 (.int .i64 a11)⟩))
      clear l0wr l1wr l2wa l3wa HM HA HB l4wb cwc0 fwc0 hwc0 l5wc0 cwc1 fwc1 hwc1 l6wc1 cwc2 fwc2 hwc2 l7wc2 cwc3 fwc3 hwc3 l8wc3 cwc4 fwc4 hwc4 l9wc4 cwc5 fwc5 hwc5 l10wc5 cwc6 fwc6 hwc6 l11wc6 cwc7 fwc7 hwc7 HC0 HC1 HC2 HC3 HC4 HC5 HC6
      refine (Qr.qNumber_c w0.heap.size st4 1 wc7 (HC7.out.qGet mm1)).mono ?_
      rintro e wd ⟨rfl, D⟩
      have HD := Keep.mk (HC7.out.qStep [_] D)
      clear D
      rw [HE.out.2.2.2.2] at HD ⊢
      have HF : Keep (Sep w wd [boxA w1.heap.size [uv (T1 : Int), iv (P1 : Int), .string NB, iv a0, iv a1, iv a2, iv a3, iv a4, iv a5, iv a6, iv a7, iv a8, iv a9, iv a10, iv a11, (.slice none 0 0)] 29, qA w0.heap.size (takeSn 0 st5).2, boxA w.heap.size [.int .u64 0, .int .i64 0, .string { data := #[] }, .int .i64 0, .int .i64 0, .int .i64 0, .int .i64 0, .int .i64 0, .int .i64 0, .int .i64 0, .int .i64 0, .int .i64 0, .int .i64 0, .int .i64 0, .int .i64 0, .slice none 0 0] 29, rowV 40 5 (.slice none 0 0) (takeSn 0 st5).1.length (fls (takeSn 0 st5).1)]) := ⟨by
        have h := (HD.out.perm (List.perm_append_comm (l₁ := [_, _, _]) (l₂ := [_]))).tail.nilV 40 5
        exact h.perm (List.perm_append_comm (l₁ := [_]))⟩
      clear HD HC7
      go_wp2_with fail
      go_loopw [9] (fun u wr => ∃ i : Nat, i ≤ n ∧ u = .int .i64 i ∧ ∃ (a : Option Addr) (c : Nat), Keep (Sep w wr [boxA w1.heap.size [uv (T1 : Int), iv (P1 : Int), .string NB, iv a0, iv a1, iv a2, iv a3, iv a4, iv a5, iv a6, iv a7, iv a8, iv a9, iv a10, iv a11, (.slice a i c)] 29, qA w0.heap.size (takeSn i st5).2, boxA w.heap.size [.int .u64 0, .int .i64 0, .string { data := #[] }, .int .i64 0, .int .i64 0, .int .i64 0, .int .i64 0, .int .i64 0, .int .i64 0, .int .i64 0, .int .i64 0, .int .i64 0, .int .i64 0, .int .i64 0, .int .i64 0, .slice none 0 0] 29, rowV 40 5 (.slice a i c) (takeSn i st5).1.length (fls (takeSn i st5).1)])) (fun u _ => n - (intOf u).toNat)
      case atStart => exact ⟨0, by omega, rfl, none, 0, HF⟩
      case round =>
        clear HF
        obtain ⟨i, hi, rfl, a, c, hrel⟩ := hrel
        by_cases hlt : i < n
        · have hlt' : (i : Int) < (n : Int) := by omega
          obtain ⟨st, hst⟩ : ∃ q, (takeSn i st5).2 = q := ⟨_, rfl⟩
          rw [hst] at hrel
          obtain ⟨k1, t1, q1⟩ : ∃ T st', rNum st 1 = (T, st') := ⟨_, _, rfl⟩
          obtain ⟨k2, t2, q2⟩ : ∃ T st', rSig t1 8 = (T, st') := ⟨_, _, rfl⟩
          obtain ⟨k3, t3, q3⟩ : ∃ T st', rSig t2 8 = (T, st') := ⟨_, _, rfl⟩
          obtain ⟨k4, t4, q4⟩ : ∃ T st', rSig t3 8 = (T, st') := ⟨_, _, rfl⟩
          obtain ⟨k5, t5, q5⟩ : ∃ T st', rNum t4 1 = (T, st') := ⟨_, _, rfl⟩
          have hk1 : k1 < 256 := by have := num1_lt st; rw [q1] at this; exact this
          have hk5 : k5 < 256 := by have := num1_lt t4; rw [q5] at this; exact this
          have hw1 := Pk.Sn.w1 hk1
          have hw5 := Pk.Sn.w1 hk5
          have HQ := Keep.mk (And.intro q1 (And.intro q2 (And.intro q3 (And.intro q4 q5))))
          have HNX : Keep (takeSn (i + 1) st5 = ((takeSn i st5).1 ++ [⟨k1, k2, k3, k4, k5⟩], t5)) := by
            refine ⟨?_⟩
            rw [takeSn, hst, take_tail, q1]
            simp only
            rw [q2]
            simp only
            rw [q3]
            simp only
            rw [q4]
            simp only
            rw [q5]
            rfl
          clear q1 q2 q3 q4 q5 hk1 hk5 hst
          go_wp2_with fail
          refine (Qr.qNumber_c w0.heap.size st 1 wr (hrel.out.qGet mm1)).mono ?_
          rintro e wm1 ⟨rfl, D⟩
          have HM1 := Keep.mk (hrel.out.qStep [_] D)
          clear D
          rw [HQ.out.1] at HM1 ⊢
          go_wp2_with (first
            | (with_reducible show wpList _ _ _ ({ dst := some 92, op := Op.build 40 _, type := _, pos := _, after := _, guard := _ } :: _) _ _
               refine build_g rfl 40 _ rfl _ ((congrArg (Tryz.prog.built 40) (by first | (simp only [List.map_toArray, List.map_cons, List.map_nil, Act.eval]; done) | (simp only [List.map_toArray, List.map_cons, List.map_nil, Act.eval]; with_reducible rfl) | (simp only [List.map_toArray, List.map_cons, List.map_nil, Act.eval]; rfl))).trans (built40 (k1 : Int))) ?_
               simp only [Act.put, List.setIfInBounds_toArray, List.set_cons_zero, List.set_cons_succ])
            | (with_reducible show wpList _ _ _ ({ dst := none, op := Op.store 40 (Operand.tmp 10) _, type := _, pos := _, after := _, guard := _ } :: _) _ _
               refine st_new wm1 (Sn.cs ⟨(k1 : Int), 0, 0, 0, 0⟩) 40 rfl rfl rfl rfl rfl infoSz (sn_one _) ?_
               intro wm2 h6 g6
               have HM2 : Keep (Sep w wm2 [boxA wm1.heap.size [iv (k1 : Int), iv 0, iv 0, iv 0, iv 0] 40, boxA w1.heap.size [uv (T1 : Int), iv (P1 : Int), .string NB, iv a0, iv a1, iv a2, iv a3, iv a4, iv a5, iv a6, iv a7, iv a8, iv a9, iv a10, iv a11, (.slice a i c)] 29, qA w0.heap.size t1, boxA w.heap.size [.int .u64 0, .int .i64 0, .string { data := #[] }, .int .i64 0, .int .i64 0, .int .i64 0, .int .i64 0, .int .i64 0, .int .i64 0, .int .i64 0, .int .i64 0, .int .i64 0, .int .i64 0, .int .i64 0, .int .i64 0, .slice none 0 0] 29, rowV 40 5 (.slice a i c) (takeSn i st5).1.length (fls (takeSn i st5).1)]) := ⟨HM1.out.addBox h6 g6⟩
               clear h6 g6))
          refine (Qr.qSigned_c w0.heap.size t1 8 wm2 (HM2.out.qGet mm2)).mono ?_
          rintro e wx0 ⟨rfl, D⟩
          have HX0 := Keep.mk (HM2.out.qStep [_, _] D)
          clear D
          rw [HQ.out.2.1] at HX0 ⊢
          have cwy0 : wx0.cell? ⟨wm1.heap.size, 1, none⟩ = some (.int .i64 0) := (HX0.out.boxGet mm0).cellv 1 _ rfl
          have fwy0 := (HX0.out.boxGet mm0).frozen 1
          obtain ⟨wy0, hwy0⟩ : ∃ q, wx0.setCell ⟨wm1.heap.size, 1, none⟩ (.int .i64 k2) = q := ⟨_, rfl⟩
          have HY0 : Keep (Sep w wy0 [boxA wm1.heap.size [iv (k1 : Int), iv k2, iv 0, iv 0, iv 0] 40, boxA w1.heap.size [uv (T1 : Int), iv (P1 : Int), .string NB, iv a0, iv a1, iv a2, iv a3, iv a4, iv a5, iv a6, iv a7, iv a8, iv a9, iv a10, iv a11, (.slice a i c)] 29, qA w0.heap.size t2, boxA w.heap.size [.int .u64 0, .int .i64 0, .string { data := #[] }, .int .i64 0, .int .i64 0, .int .i64 0, .int .i64 0, .int .i64 0, .int .i64 0, .int .i64 0, .int .i64 0, .int .i64 0, .int .i64 0, .int .i64 0, .int .i64 0, .slice none 0 0] 29, rowV 40 5 (.slice a i c) (takeSn i st5).1.length (fls (takeSn i st5).1)]) := ⟨by rw [← hwy0]; exact HX0.out.boxPut 1 (.int .i64 k2)⟩
          go_wp2_with fail
          clear cwy0 fwy0 hwy0 HX0
          refine (Qr.qSigned_c w0.heap.size t2 8 wy0 (HY0.out.qGet mm2)).mono ?_
          rintro e wx1 ⟨rfl, D⟩
          have HX1 := Keep.mk (HY0.out.qStep [_, _] D)
          clear D
          rw [HQ.out.2.2.1] at HX1 ⊢
          have cwy1 : wx1.cell? ⟨wm1.heap.size, 2, none⟩ = some (.int .i64 0) := (HX1.out.boxGet mm0).cellv 2 _ rfl
          have fwy1 := (HX1.out.boxGet mm0).frozen 2
          obtain ⟨wy1, hwy1⟩ : ∃ q, wx1.setCell ⟨wm1.heap.size, 2, none⟩ (.int .i64 k3) = q := ⟨_, rfl⟩
          have HY1 : Keep (Sep w wy1 [boxA wm1.heap.size [iv (k1 : Int), iv k2, iv k3, iv 0, iv 0] 40, boxA w1.heap.size [uv (T1 : Int), iv (P1 : Int), .string NB, iv a0, iv a1, iv a2, iv a3, iv a4, iv a5, iv a6, iv a7, iv a8, iv a9, iv a10, iv a11, (.slice a i c)] 29, qA w0.heap.size t3, boxA w.heap.size [.int .u64 0, .int .i64 0, .string { data := #[] }, .int .i64 0, .int .i64 0, .int .i64 0, .int .i64 0, .int .i64 0, .int .i64 0, .int .i64 0, .int .i64 0, .int .i64 0, .int .i64 0, .int .i64 0, .int .i64 0, .slice none 0 0] 29, rowV 40 5 (.slice a i c) (takeSn i st5).1.length (fls (takeSn i st5).1)]) := ⟨by rw [← hwy1]; exact HX1.out.boxPut 2 (.int .i64 k3)⟩
          go_wp2_with fail
          clear cwy1 fwy1 hwy1 HX1
          refine (Qr.qSigned_c w0.heap.size t3 8 wy1 (HY1.out.qGet mm2)).mono ?_
          rintro e wx2 ⟨rfl, D⟩
          have HX2 := Keep.mk (HY1.out.qStep [_, _] D)
          clear D
          rw [HQ.out.2.2.2.1] at HX2 ⊢
          have cwy2 : wx2.cell? ⟨wm1.heap.size, 3, none⟩ = some (.int .i64 0) := (HX2.out.boxGet mm0).cellv 3 _ rfl
          have fwy2 := (HX2.out.boxGet mm0).frozen 3
          obtain ⟨wy2, hwy2⟩ : ∃ q, wx2.setCell ⟨wm1.heap.size, 3, none⟩ (.int .i64 k4) = q := ⟨_, rfl⟩
          have HY2 : Keep (Sep w wy2 [boxA wm1.heap.size [iv (k1 : Int), iv k2, iv k3, iv k4, iv 0] 40, boxA w1.heap.size [uv (T1 : Int), iv (P1 : Int), .string NB, iv a0, iv a1, iv a2, iv a3, iv a4, iv a5, iv a6, iv a7, iv a8, iv a9, iv a10, iv a11, (.slice a i c)] 29, qA w0.heap.size t4, boxA w.heap.size [.int .u64 0, .int .i64 0, .string { data := #[] }, .int .i64 0, .int .i64 0, .int .i64 0, .int .i64 0, .int .i64 0, .int .i64 0, .int .i64 0, .int .i64 0, .int .i64 0, .int .i64 0, .int .i64 0, .int .i64 0, .slice none 0 0] 29, rowV 40 5 (.slice a i c) (takeSn i st5).1.length (fls (takeSn i st5).1)]) := ⟨by rw [← hwy2]; exact HX2.out.boxPut 3 (.int .i64 k4)⟩
          go_wp2_with fail
          clear cwy2 fwy2 hwy2 HX2
          refine (Qr.qNumber_c w0.heap.size t4 1 wy2 (HY2.out.qGet mm2)).mono ?_
          rintro e wx3 ⟨rfl, D⟩
          have HX3 := Keep.mk (HY2.out.qStep [_, _] D)
          clear D
          rw [HQ.out.2.2.2.2] at HX3 ⊢
          have cwy3 : wx3.cell? ⟨wm1.heap.size, 4, none⟩ = some (.int .i64 0) := (HX3.out.boxGet mm0).cellv 4 _ rfl
          have fwy3 := (HX3.out.boxGet mm0).frozen 4
          obtain ⟨wy3, hwy3⟩ : ∃ q, wx3.setCell ⟨wm1.heap.size, 4, none⟩ (.int .i64 (k5 : Int)) = q := ⟨_, rfl⟩
          have HY3 : Keep (Sep w wy3 [boxA wm1.heap.size [iv (k1 : Int), iv k2, iv k3, iv k4, iv (k5 : Int)] 40, boxA w1.heap.size [uv (T1 : Int), iv (P1 : Int), .string NB, iv a0, iv a1, iv a2, iv a3, iv a4, iv a5, iv a6, iv a7, iv a8, iv a9, iv a10, iv a11, (.slice a i c)] 29, qA w0.heap.size t5, boxA w.heap.size [.int .u64 0, .int .i64 0, .string { data := #[] }, .int .i64 0, .int .i64 0, .int .i64 0, .int .i64 0, .int .i64 0, .int .i64 0, .int .i64 0, .int .i64 0, .int .i64 0, .int .i64 0, .int .i64 0, .int .i64 0, .slice none 0 0] 29, rowV 40 5 (.slice a i c) (takeSn i st5).1.length (fls (takeSn i st5).1)]) := ⟨by rw [← hwy3]; exact HX3.out.boxPut 4 (.int .i64 (k5 : Int))⟩
          have c15 : wy3.cell? ⟨w1.heap.size, 15, none⟩ = some (.slice a i c) := (HY3.out.boxGet mm1).cellv 15 _ rfl
          have HXR := Keep.mk (HY3.out.boxGet mm0).range
          obtain ⟨g8, k8, w8', AP, HZ0⟩ := Sep.appSn ⟨k1, k2, k3, k4, k5⟩ (fr1 [_, _, _, _] HY3.out) (by rw [takeSn_len]; omega)
          rw [takeSn_len] at AP
          have HZ1 := Keep.mk HZ0
          have c15b : w8'.cell? ⟨w1.heap.size, 15, none⟩ = some (.slice a i c) := (HZ0.boxGet mm2).cellv 15 _ rfl
          have f15b := (HZ0.boxGet mm2).frozen 15
          obtain ⟨w9', hw9⟩ : ∃ q, w8'.setCell ⟨w1.heap.size, 15, none⟩ (.slice (some ⟨g8, 0, none⟩) (i + 1) k8) = q := ⟨_, rfl⟩
          have HNW : Keep (Sep w w9' [boxA w1.heap.size [uv (T1 : Int), iv (P1 : Int), .string NB, iv a0, iv a1, iv a2, iv a3, iv a4, iv a5, iv a6, iv a7, iv a8, iv a9, iv a10, iv a11, (.slice (some ⟨g8, 0, none⟩) (i + 1) k8)] 29, qA w0.heap.size (takeSn (i + 1) st5).2, boxA w.heap.size [.int .u64 0, .int .i64 0, .string { data := #[] }, .int .i64 0, .int .i64 0, .int .i64 0, .int .i64 0, .int .i64 0, .int .i64 0, .int .i64 0, .int .i64 0, .int .i64 0, .int .i64 0, .int .i64 0, .int .i64 0, .slice none 0 0] 29, rowV 40 5 (.slice (some ⟨g8, 0, none⟩) (i + 1) k8) (takeSn (i + 1) st5).1.length (fls (takeSn (i + 1) st5).1)]) := ⟨by
            have h := (fr1 [_, _] HZ0).boxPut 15 (.slice (some ⟨g8, 0, none⟩) (i + 1) k8)
            rw [hw9] at h
            have h2 := h.dropM [_, _] [_]
            rw [HNX.out]
            have e : (takeSn i st5).1.length = i := takeSn_len _ _
            rw [e] at h2
            exact h2.perm (List.Perm.cons _ (List.perm_append_comm (l₁ := [_]) (l₂ := [_, _])))⟩
          clear HZ0
          go_wp2_with (first
            | (with_reducible show wpList _ _ _ ({ dst := some 110, op := Op.load 40 _, type := _, pos := _, after := _, guard := _ } :: _) _ _
               refine load_g rfl 40 _ rfl wm1.heap.size 0 rfl (Sn.cs ⟨k1, k2, k3, k4, k5⟩) d4 HXR.out hd4 hrw4 infoSz ?_)
            | (with_reducible show wpList _ _ _ ({ dst := some 111, op := Op.buildSlice 27 _ _, type := _, pos := _, after := _, guard := _ } :: _) _ _
               refine wpList_bs_run rfl (.tmp 110) 27 rfl _ rfl (bsSn _ _) ?_)
            | (with_reducible show wpList _ _ _ ({ dst := some 112, op := Op.call { callee := Callee.builtin Builtin.append, args := _, argTypes := _ }, type := _, pos := _, after := _, guard := _ } :: _) _ _
               refine wpList_append_run _ rfl (.tmp 109) (.tmp 111) 27 rfl _ _ rfl rfl AP ?_))
          clear AP c15 c15b f15b hw9 cwy3 fwy3 hwy3
          go_roundw
          case rel => exact ⟨i + 1, by omega, by go_num, _, _, HNW⟩
          case measure => simp [intOf]; omega
        · have hlt' : ¬ (i : Int) < (n : Int) := by omega
          have hin : i = n := by omega
          rw [hin] at hrel
          go_wp2_with fail
          refine (Qr.qDone_c w0.heap.size (takeSn n st5).2 wr (hrel.out.qGet mm1)).mono ?_
          rintro e wq ⟨rfl, rfl⟩
          obtain ⟨y, hy⟩ : ∃ y, takeSn n st5 = y := ⟨_, rfl⟩
          have hyl : y.1.length = n := by rw [← hy]; exact takeSn_len _ _
          rw [hy] at HR hrel ⊢
          obtain ⟨dn, hdn⟩ : ∃ q, rDone y.2 = q := ⟨_, rfl⟩
          rw [hdn] at HR ⊢
          clear hdn hy
          have HYL := Keep.mk hyl
          clear hyl
          by_cases h0 : dn = 0
          · have hR := HR.out
            rw [if_pos h0] at hR
            have HR2 := Keep.mk hR
            have hq : (dn != 0) = false := by simp [h0]
            have HV : Keep (Has wq w1.heap.size (Vw.cs (Vw.mk T1 P1 NB a0 a1 a2 a3 a4 a5 a6 a7 a8 a9 a10 a11 y.1) a c) 29) := ⟨by
              have h := hrel.out.boxGet mm0
              unfold Vw.cs
              simp only [HYL.out]
              exact h⟩
            have HO := Keep.mk (hrel.out.boxGet mm2)
            have HG := Keep.mk hrel.out.g
            have HRL := hrel
            clear h0 HR hR hrel
            go_wp2_with (first
              | (with_reducible show wpList _ _ _ ({ dst := _, op := Op.load 29 _, type := _, pos := _, after := _, guard := _ } :: _) _ _
                 refine load_g rfl 29 _ rfl w1.heap.size 0 rfl (Vw.cs (Vw.mk T1 P1 NB a0 a1 a2 a3 a4 a5 a6 a7 a8 a9 a10 a11 y.1) a c) d HV.out.range hd hr infoV ?_)
              | (with_reducible show wpList _ _ _ ({ dst := _, op := Op.store 29 _ _, type := _, pos := _, after := _, guard := _ } :: _) _ _
                 refine st_all _ w.heap.size [.int .u64 0, .int .i64 0, .string { data := #[] }, .int .i64 0, .int .i64 0, .int .i64 0, .int .i64 0, .int .i64 0, .int .i64 0, .int .i64 0, .int .i64 0, .int .i64 0, .int .i64 0, .int .i64 0, .int .i64 0, .slice none 0 0] (Vw.cs (Vw.mk T1 P1 NB a0 a1 a2 a3 a4 a5 a6 a7 a8 a9 a10 a11 y.1) a c) 29 29 rfl rfl rfl rfl HO.out rfl infoV (vw_one _ _ _) ?_
                 intro w6 h6 g6
                 have HF := Keep.mk (And.intro h6 g6)
                 clear h6 g6))
            exact ret_ct rfl rfl HF.out.1 hd hr infoV rfl (by rw [HR2.out]; exact ⟨a, c, rfl, gr_new HG.out HF.out.2 (Nat.le_refl _), fun hS => by
              have hS : y.1 ≠ [] := hS
              have h2 := (fr1 [_, _] HRL.out).boxAll HF.out.1 HF.out.2
              have h3 := fr1 [_, _, _] h2
              obtain ⟨g, c', e, R⟩ := row_seen h3 (List.length_pos_iff.2 hS)
              rw [e] at h3
              injection e with e1 _ _
              exact ⟨g, 0, e1, h3.rowLo mm0, R⟩⟩)
          · have hR := HR.out
            rw [if_neg h0] at hR
            have HR2 := Keep.mk hR
            have hq : (dn != 0) = true := by simp [h0]
            have HO := Keep.mk (hrel.out.boxGet mm2)
            have HG := Keep.mk hrel.out.g
            clear HR hR hrel
            go_wp2_with (first
              | (with_reducible show wpList _ _ _ ({ dst := _, op := Op.build 29 _, type := _, pos := _, after := _, guard := _ } :: _) _ _
                 refine wpList_build rfl 29 _ rfl _ ((congrArg (Tryz.prog.built 29) (by simp only [List.map_toArray, List.map_nil]; rfl)).trans HBT.out) ?_)
              | (with_reducible show wpList _ _ _ ({ dst := _, op := Op.store 29 _ _, type := _, pos := _, after := _, guard := _ } :: _) _ _
                 refine st_all _ w.heap.size [.int .u64 0, .int .i64 0, .string { data := #[] }, .int .i64 0, .int .i64 0, .int .i64 0, .int .i64 0, .int .i64 0, .int .i64 0, .int .i64 0, .int .i64 0, .int .i64 0, .int .i64 0, .int .i64 0, .int .i64 0, .slice none 0 0] (Vw.zero.cs none 0) 29 29 rfl rfl rfl rfl HO.out rfl infoV (vw_one _ _ _) ?_
                 intro w6 h6 g6
                 have HF := Keep.mk (And.intro h6 g6)
                 clear h6 g6))
            exact ret_ct rfl rfl HF.out.1 hd hr infoV rfl (by rw [HR2.out]; exact ⟨none, 0, rfl, gr_new HG.out HF.out.2 (Nat.le_refl _), SeenN.nil _ _ _⟩)
end Go.Proofs.YtkdjcknikhgfkaaGreatDoor.Pk.Sn
