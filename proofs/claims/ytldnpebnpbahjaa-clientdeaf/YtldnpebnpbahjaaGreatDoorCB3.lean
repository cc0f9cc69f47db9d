import Derived.Test.YtldnpebnpbahjaaGreatDoorCB2
import Derived.ChangeKeysEq
/- what a client with a session seals, over lists -/
namespace Go.Proofs.YtldnpebnpbahjaaGreatDoor.Pk.Sn
open Go Go.RowKit Go.Maps

/-- its session, so many sealed -/
def seqC (sc nc : ByteArray) (n k : Nat) : Cl := { begC sc nc n with sd := k }
theorem seq_0 (sc nc : ByteArray) (n : Nat) : seqC sc nc n 0 = begC sc nc n := rfl
theorem seq_ok {sc nc : ByteArray} (h1 : sc.size = 32) (h2 : nc.size = 16) {n : Nat} (hn : n < 18446744073709551616) (k : Nat) : (seqC sc nc n k).ok :=
  ⟨(beg_ok h1 h2 hn).nm, h1, h2, (beg_ok h1 h2 hn).key, hn, (beg_ok h1 h2 hn).pl, (beg_ok h1 h2 hn).bl, hn, (beg_ok h1 h2 hn).vw, (beg_ok h1 h2 hn).st⟩
def cmX (n q : Nat) (t u : Int) (f b : Bool) (x : ByteArray) : Dg := { Dg.zero 5 with session := n, seq := q, thr := t, turn := u, fire := f, boost := b, tag := x }
def byX (n q : Nat) (x : ByteArray) : Dg := { Dg.zero 7 with session := n, seq := q, tag := x }
theorem ses_fine {C : Cl} {d : Dg} (hf : d.fine) (hn : C.num < 18446744073709551616) (hs : C.sd < 18446744073709551615) : (sesD C d).fine := ⟨hf.k, hf.e, hn, hf.p, by show C.sd + 1 < 18446744073709551616; omega, hf.h, hf.t⟩
theorem fresh_yes {sc nc : ByteArray} {n k : Nat} {t u : Int} {f b : Bool} (hn : n < 18446744073709551616) (h0 : n ≠ 0) (hk : k < 18446744073709551615) (ht : -9223372036854775808 ≤ t ∧ t < 9223372036854775808) (hu : -9223372036854775808 ≤ u ∧ u < 9223372036854775808) (h : cmdOk t u) :
    ∃ S x : ByteArray, slX (seqC sc nc n k) (cmdD t u f b) = (S, 0) ∧ slS (seqC sc nc n k) (cmdD t u f b) = seqC sc nc n (k + 1) ∧ dec (sl S) = (cmX n (k + 1) t u f b x, 0) ∧ sealed S (begK sc nc n) = true ∧ S.size ≤ 1200 := by
  have hf := ses_fine (C := seqC sc nc n k) (cmd_fine ht hu f b) hn hk
  have hc : (sealD (sesD (seqC sc nc n k) (cmdD t u f b)) (seqC sc nc n k).key).2 = 0 := by
    rw [cmd_code hf rfl]
    exact if_pos h
  obtain ⟨x, h1, h2, h3, _⟩ := seal_good hf hc
  have e := slX_1 (C := seqC sc nc n k) (d := cmdD t u f b) h0 hc
  refine ⟨_, x, e, ?_, ?_, h2, h3⟩
  · unfold slS
    rw [e]
    exact if_pos rfl
  · rw [h1, on5 _ rfl]
    rfl
theorem fresh_no {sc nc : ByteArray} {n k : Nat} {t u : Int} {f b : Bool} (hn : n < 18446744073709551616) (h0 : n ≠ 0) (hk : k < 18446744073709551615) (ht : -9223372036854775808 ≤ t ∧ t < 9223372036854775808) (hu : -9223372036854775808 ≤ u ∧ u < 9223372036854775808) (h : ¬ cmdOk t u) :
    slX (seqC sc nc n k) (cmdD t u f b) = (nob, 73) ∧ slS (seqC sc nc n k) (cmdD t u f b) = seqC sc nc n k := by
  have hf := ses_fine (C := seqC sc nc n k) (cmd_fine ht hu f b) hn hk
  have hc : (sealD (sesD (seqC sc nc n k) (cmdD t u f b)) (seqC sc nc n k).key).2 = 73 := by
    rw [cmd_code hf rfl]
    exact if_neg h
  have e := slX_2 (C := seqC sc nc n k) (d := cmdD t u f b) h0 (by rw [hc]; decide)
  rw [hc] at e
  refine ⟨e, ?_⟩
  unfold slS
  rw [e]
  exact if_neg (by decide)
theorem fresh_bye {sc nc : ByteArray} {n k : Nat} (hn : n < 18446744073709551616) (h0 : n ≠ 0) (hk : k < 18446744073709551615) :
    ∃ S x : ByteArray, byeS (seqC sc nc n k) = (S, 0, endS (seqC sc nc n k)) ∧ dec (sl S) = (byX n (k + 1) x, 0) ∧ sealed S (begK sc nc n) = true ∧ S.size ≤ 1200 := by
  have hf := ses_fine (C := seqC sc nc n k) (d := Dg.zero 7) (zero_fine (by omega)) hn hk
  have hc : (sealD (sesD (seqC sc nc n k) (Dg.zero 7)) (seqC sc nc n k).key).2 = 0 := bye_code hf rfl
  obtain ⟨x, h1, h2, h3, _⟩ := seal_good hf hc
  have e := slX_1 (C := seqC sc nc n k) (d := Dg.zero 7) h0 hc
  refine ⟨_, x, ?_, ?_, h2, h3⟩
  · unfold byeS
    rw [e, if_pos rfl]
  · rw [h1, on7 _ rfl]
    rfl
/-- a client without a session -/
theorem end_slX (C : Cl) (d : Dg) : slX (endS C) d = (nob, 240) ∧ slS (endS C) d = endS C := by
  have e : slX (endS C) d = (nob, 240) := slX_0 rfl
  refine ⟨e, ?_⟩
  unfold slS
  rw [e]
  exact if_neg (by decide)
theorem end_bye (C : Cl) : byeS (endS C) = (nob, 240, endS C) := by
  unfold byeS
  rw [(end_slX C (Dg.zero 7)).1]
  rw [if_neg (by decide)]
theorem end_ok {C : Cl} (h : C.ok) : (endS C).ok := ⟨h.nm, h.sc, h.nc, by show (0 : Nat) ≤ 32; omega, by show (0 : Nat) < _; omega, i0, by show (0 : Nat) < _; omega, h.mx, h.vw, .inr (.inl rfl)⟩

/-- a command -/
structure Cm where
  t : Int
  u : Int
  f : Bool
  b : Bool
def Cm.cs (c : Cm) : List Value := [.int .i64 c.t, .int .i64 c.u, .bool c.f, .bool c.b]
structure Cm.ok (c : Cm) : Prop where
  t : -9223372036854775808 ≤ c.t ∧ c.t < 9223372036854775808
  u : -9223372036854775808 ≤ c.u ∧ c.u < 9223372036854775808
theorem cm_one (c : Cm) : ∀ v ∈ c.cs, v.oneCell' = true := by
  intro v hv
  simp only [Cm.cs, List.mem_cons, List.not_mem_nil, or_false] at hv
  rcases hv with rfl | rfl | rfl | rfl <;> rfl
/-- a list of commands as it is read -/
def CmR (w : World) (a : Option Addr) (L : List Cm) : Prop := 0 < L.length → ∃ b o, a = some ⟨b, o, none⟩ ∧ ∀ j c, L[j]? = some c → w.rangeAt b (o + j * 4) c.cs
theorem CmR.kept {w w' : World} {a : Option Addr} {L : List Cm} (h : CmR w a L) (g : w.grownBy w' none) : CmR w' a L := fun q => by
  obtain ⟨b, o, e, r⟩ := h q
  exact ⟨b, o, e, fun j c hj i v hv => g.cell (r j c hj i v hv) (by simp)⟩
set_option maxRecDepth 100000 in
theorem neqM (t u : Int) (f b : Bool) (w : World) : (binOp .neq 29 (.agg #[.int .i64 t, .int .i64 u, .bool f, .bool b]) (.agg #[.int .i64 t, .int .i64 u, .bool f, .bool b])).run Tryz.prog w = .ok (.bool false) w := by
  have e : (Op.equalIn 10000 29 (.agg #[.int .i64 t, .int .i64 u, .bool f, .bool b]) (.agg #[.int .i64 t, .int .i64 u, .bool f, .bool b])).run Tryz.prog w = .ok true w := by
    rw [show (10000 : Nat) = 9999 + 1 from rfl, run_equalIn_agg w 9999 29 _ _ (by kernel_rfl) (by kernel_rfl)]
    have u3 := Tryz.underlying3
    have g3 := Tryz.isAgg3
    have z3 := Tryz.sizeOf3
    have u4 := Tryz.underlying4
    have g4 := Tryz.isAgg4
    have z4 := Tryz.sizeOf4
    simp only [Program.fieldsOf, Tryz.underlying29]
    go_simp
    try simp
  simp only [binOp]
  simp [Op.equal, Op.maxDepth, e]
end Go.Proofs.YtldnpebnpbahjaaGreatDoor.Pk.Sn
