import Derived.Test.YtldnpebnpbahjaaGreatDoorX48
import Derived.Test.YtldnpebnpbahjaaGreatDoorCB3
import Derived.Test.YtldnpebnpbahjaaGreatDoorX2
/- a client that is deaf, over lists -/
namespace Go.Proofs.YtldnpebnpbahjaaGreatDoor.Pk.Sn
open Go Go.RowKit

/-- a row of bytes that may be written -/
structure Wb (w : World) (b : Nat) (L : List UInt8) : Prop where
  lt : b < w.heap.size
  at_ : ∀ (j : Nat) (x : UInt8), L[j]? = some x → w.cell? ⟨b, j, none⟩ = some (.int .u8 (x.toNat : Int))
  fz : ∀ j, j < L.length → w.frozen? ⟨b, j, none⟩ = false
theorem Wb.new (W : World) (s : ByteArray) : Wb (Lib.bytesWorld W 5 s) W.heap.size (sl s) := by
  refine ⟨by rw [Lib.bytesWorld_size]; omega, fun j x hx => bytes_cells W s j x hx, fun j hj => ?_⟩
  rw [sl_len] at hj
  simp only [World.frozen?, Lib.bytesWorld_at_new]
  have : s.size ≤ (Lib.bytesCells W 5 s).size := by
    simp [Lib.bytesCells]
    try omega
  simp
  omega
theorem Wb.drew {w : World} {b : Nat} {L : List UInt8} (h : Wb w b L) : Wb w.drew b L := ⟨h.lt, fun j x hx => h.at_ j x hx, fun j hj => h.fz j hj⟩
theorem Wb.set {w : World} {b : Nat} {L : List UInt8} (h : Wb w b L) (j : Nat) (y : UInt8) : Wb (w.setCell ⟨b, j, none⟩ (.int .u8 (y.toNat : Int))) b (L.set j y) := by
  refine ⟨by simp [World.setCell]; exact h.lt, fun i x hx => ?_, fun i hi => ?_⟩
  · by_cases e : j = i
    · subst e
      have hj : j < L.length := by
        have := (List.getElem?_eq_some_iff.1 hx).1
        simpa using this
      rw [List.getElem?_set_self (by simpa using hj)] at hx
      obtain rfl := Option.some.inj hx
      obtain ⟨z, hz⟩ : ∃ z, L[j]? = some z := ⟨_, List.getElem?_eq_getElem hj⟩
      exact World.cell?_setCell_same _ _ _ (h.at_ j z hz)
    · rw [List.getElem?_set_ne e] at hx
      rw [World.cell?_setCell_other _ _ _ _ (by first | (simp; done) | (simp; omega))]
      exact h.at_ i x hx
  · rw [World.frozen?_setCell]
    exact h.fz i (by simpa using hi)
theorem Wb.bytes {w : World} {b : Nat} {L : List UInt8} (h : Wb w b L) (n c : Nat) (hn : L.length = n) (hc : n ≤ c) : (convert 60 9 (.slice (some ⟨b, 0, none⟩) n c)).run Tryz.prog w = .ok (.string (ba L)) w :=
  cvt_back w (some ⟨b, 0, none⟩) n c L ⟨hn, hc, fun _ => ⟨b, 0, rfl, fun j x hx => by rw [Nat.zero_add]; exact h.at_ j x hx⟩⟩ (by simp)
/-- what is not sealed is refused, and nothing is changed -/
theorem hea_deaf {C : Cl} {S : ByteArray} (hst : C.st = 168) (h : sealed S C.key = false) : ∃ k : Int, k ≠ 0 ∧ heaS C S = (nob, k, C) := by
  unfold heaS
  by_cases h1 : (dec (sl S)).2 ≠ 0
  · rw [if_pos h1]; exact ⟨_, h1, rfl⟩
  rw [if_neg h1]
  generalize (dec (sl S)).1 = D
  by_cases h2 : D.kind = 1 ∨ D.kind = 3 ∨ D.kind = 5
  · rw [if_pos h2]; exact ⟨71, by omega, rfl⟩
  rw [if_neg h2]
  unfold nxtS
  rw [if_neg (by rw [hst]; decide), if_pos hst]
  unfold plaS
  have hj : judS C S D ≠ 0 := by
    unfold judS
    by_cases q : D.session ≠ C.num
    · rw [if_pos q]; omega
    · rw [if_neg q, if_pos h]; omega
  have hl : lokS C S D = (C, judS C S D) := by unfold lokS; rw [if_pos hj]
  have hd : disS C S D = (C, judS C S D) := by unfold disS; rw [if_pos hj]
  by_cases q6 : D.kind = 6
  · rw [if_pos q6, hl]; exact ⟨_, hj, rfl⟩
  rw [if_neg q6]
  by_cases q7 : D.kind = 7
  · rw [if_pos q7, hd]; exact ⟨_, hj, rfl⟩
  rw [if_neg q7]; exact ⟨240, by omega, rfl⟩
/-- its session, what it believed last, so many sealed -/
def deC (sc nc : ByteArray) (h : Nat) (vw : ByteArray) (k : Nat) : Cl := { begC sc nc 5 with bl := h, vw := vw, sd := k }
theorem de_ok {sc nc : ByteArray} (h1 : sc.size = 32) (h2 : nc.size = 16) {h : Nat} (hh : h < 18446744073709551616) {vw : ByteArray} (hv : vw.size ≤ 1200) (k : Nat) : (deC sc nc h vw k).ok :=
  ⟨(beg_ok h1 h2 (n := 5) (by omega)).nm, h1, h2, (beg_ok h1 h2 (n := 5) (by omega)).key, by show 5 < 18446744073709551616; omega, (beg_ok h1 h2 (n := 5) (by omega)).pl, hh, by show 5 < 18446744073709551616; omega, hv, .inr (.inr rfl)⟩
theorem de_cmd (sc nc : ByteArray) (h : Nat) (vw : ByteArray) : ∃ S : ByteArray, slX (deC sc nc h vw 0) (cmdD 5 0 false false) = (S, 0) ∧ slS (deC sc nc h vw 0) (cmdD 5 0 false false) = deC sc nc h vw 1 := by
  have hf := ses_fine (C := deC sc nc h vw 0) (cmd_fine (t := 5) (u := 0) (by omega) (by omega) false false) (by show 5 < 18446744073709551616; omega) (by show 0 < 18446744073709551615; omega)
  have hc : (sealD (sesD (deC sc nc h vw 0) (cmdD 5 0 false false)) (deC sc nc h vw 0).key).2 = 0 := by
    rw [cmd_code hf rfl]
    exact if_pos (show cmdOk 5 0 by unfold cmdOk; omega)
  have e := slX_1 (C := deC sc nc h vw 0) (d := cmdD 5 0 false false) (show ¬ (5 : Nat) = 0 by omega) hc
  refine ⟨_, e, ?_⟩
  unfold slS
  rw [e]
  exact if_pos rfl
/-- the law's view -/
def dV : Vw := smV 4 3 100 0 annB
theorem dV_sm : Smv 4 3 100 0 annB := ⟨by omega, by omega, by omega, by omega, by decide⟩
def dvB : ByteArray := ba (encV dV)
theorem dvB_le : dvB.size ≤ 1200 := by
  unfold dvB
  rw [ba_size]; have := sm_enc dV_sm; unfold dV; omega
theorem dvB_rd : rdV (sl dvB) = (dV, 0) := by
  unfold dvB
  rw [show sl (ba (encV dV)) = encV dV from sl_mk _]; exact rd_wr (sm_ok dV_sm) (sm_fit dV_sm)
/-- where the law's walk stands -/
structure DS (w w' : World) (cb db vb : Nat) (C D : Cl) : Prop where
  c : Has w' cb C.cs 83
  d : Has w' db D.cs 83
  v : Has w' vb (dV.cs none 0) 49
  g : w.grownBy w' none
  n1 : w.heap.size ≤ cb
  n2 : w.heap.size ≤ db
  n3 : db ≠ cb
  n4 : vb ≠ cb
  n5 : vb ≠ db
theorem DS.kept {w w' w'' : World} {cb db vb : Nat} {C D : Cl} (h : DS w w' cb db vb C D) (g : w'.grownBy w'' none) : DS w w'' cb db vb C D :=
  ⟨h.c.kept g (by simp), h.d.kept g (by simp), h.v.kept g (by simp), h.g.trans g, h.n1, h.n2, h.n3, h.n4, h.n5⟩
theorem DS.setc {w w' w'' : World} {cb db vb : Nat} {C C' D : Cl} (h : DS w w' cb db vb C D) (hc : Has w'' cb C'.cs 83) (g : w'.grownBy w'' (some cb)) : DS w w'' cb db vb C' D :=
  ⟨hc, h.d.kept g (by simp; exact h.n3), h.v.kept g (by simp; exact h.n4), gr_new h.g g h.n1, h.n1, h.n2, h.n3, h.n4, h.n5⟩
theorem DS.setd {w w' w'' : World} {cb db vb : Nat} {C D D' : Cl} (h : DS w w' cb db vb C D) (hc : Has w'' db D'.cs 83) (g : w'.grownBy w'' (some db)) : DS w w'' cb db vb C D' :=
  ⟨h.c.kept g (by simp; exact fun e => h.n3 e.symm), hc, h.v.kept g (by simp; exact h.n5), gr_new h.g g h.n2, h.n1, h.n2, h.n3, h.n4, h.n5⟩
/-- the two strings of a round -/
structure L2 (w : World) (ab : Nat) (p q : ByteArray) : Prop where
  h : Has w ab [.string p, .string q] 59
  p : p.size ≤ 140737488355328
  q : q.size ≤ 140737488355328
theorem L2.kept {w w' : World} {ab : Nat} {p q : ByteArray} {r : Option Nat} (h : L2 w ab p q) (g : w.grownBy w' r) (n : some ab ≠ r) : L2 w' ab p q := ⟨h.h.kept g n, h.p, h.q⟩
theorem L2.at_ {w : World} {ab : Nat} {p q : ByteArray} (h : L2 w ab p q) {k : Nat} (hk : k < 2) : ∃ s : ByteArray, w.cell? ⟨ab, k, none⟩ = some (.string s) ∧ s.size ≤ 140737488355328 := by
  obtain rfl | rfl : k = 0 ∨ k = 1 := by omega
  · exact ⟨p, h.h.cellv 0 _ rfl, h.p⟩
  · exact ⟨q, h.h.cellv 1 _ rfl, h.q⟩
end Go.Proofs.YtldnpebnpbahjaaGreatDoor.Pk.Sn
