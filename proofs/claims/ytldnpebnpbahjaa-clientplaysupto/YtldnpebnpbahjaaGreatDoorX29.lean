import Derived.Test.YtldnpebnpbahjaaGreatDoorX26
import Derived.Test.YtldnpebnpbahjaaGreatDoorSR3
import Derived.Test.YtldnpebnpbahjaaGreatDoorX24
import Derived.Test.YtldnpebnpbahjaaGreatDoorX18
import Derived.Test.YtldnpebnpbahjaaGreatDoorX19
import Derived.Test.YtldnpebnpbahjaaGreatDoorX11
set_option maxRecDepth 100000
namespace Go.Proofs.YtldnpebnpbahjaaGreatDoor.Pk.Sn
open Go Go.RowKit
structure Ti (w : World) (cb rb : Nat) (C : Cl) (R : Rf) : Prop where
  nm : R.nm = C.nm
  sc : R.sc = C.sc
  nc : R.nc = C.nc
  sa : R.sa = decide (C.st ≠ 52)
  num : R.num = C.num
  on : C.num ≠ 0 → C.st = 168
  off : C.num = 0 → C.st ≠ 168 ∧ C.pl = 0
  cur : C.num ≠ 0 → R.pl = C.pl ∧ R.key = C.key ∧ R.sq = C.sd ∧ R.la = C.bl
  mo : R.mo = C.mx
  vw : R.V = (rdV (sl C.vw)).1
  has : R.has = decide ((rdV (sl C.vw)).2 = 0)
  rk : R.key.size ≤ 32
  se : R.V.S ≠ [] → ∃ sb so, R.a = some ⟨sb, so, none⟩ ∧ sb ≠ rb ∧ sb ≠ cb ∧ SnR w sb so R.V.S
theorem Ti.kept {w w' : World} {cb rb : Nat} {C : Cl} {R : Rf} {r : Option Nat} (h : Ti w cb rb C R) (g : w.grownBy w' r) (hr : ∀ k, r = some k → k = cb ∨ k = rb) : Ti w' cb rb C R :=
  ⟨h.nm, h.sc, h.nc, h.sa, h.num, h.on, h.off, h.cur, h.mo, h.vw, h.has, h.rk, fun q => by
    obtain ⟨sb, so, e, n1, n2, hs⟩ := h.se q
    exact ⟨sb, so, e, n1, n2, fun j s hj i z hz => g.cell (hs j s hj i z hz) (by
      intro e2; have := hr sb e2.symm
      omega)⟩⟩
theorem Ti.keep {w w' : World} {cb rb : Nat} {C : Cl} {R : Rf} (h : Ti w cb rb C R) (g : w.grownBy w' none) : Ti w' cb rb C R := h.kept g (fun k e => by cases e)
theorem Ti.seen {w : World} {cb rb : Nat} {C : Cl} {R : Rf} (h : Ti w cb rb C R) : SeenR w R.a R.V.S := fun q => by
  obtain ⟨sb, so, e, _, _, hs⟩ := h.se q; exact ⟨sb, so, e, hs⟩
structure HeR (w w' : World) (cb rb : Nat) (C : Cl) (q : Nat) : Prop where
  out : ∃ R, Has w' rb R.cs 103 ∧ Ti w' cb rb C R ∧ w.grownBy w' (some rb) ∧ R.sq ≤ q
theorem HeR.same {w w' : World} {cb rb : Nat} {C : Cl} {R : Rf} (h : Ti w cb rb C R) (hh : Has w rb R.cs 103) (g : w.grownBy w' none) : HeR w w' cb rb C R.sq := ⟨R, hh.kept g (by simp), h.keep g, gr_weak g _, Nat.le_refl _⟩
theorem Ti.st {w : World} {cb rb : Nat} {C : Cl} {R : Rf} (h : Ti w cb rb C R) (hc : C.ok) : (C.num = 0 ∧ C.st = 52 ∧ R.sa = false) ∨ (C.num = 0 ∧ C.st = 54 ∧ R.sa = true) ∨ (C.num ≠ 0 ∧ C.st = 168 ∧ R.sa = true) := by
  by_cases hz : C.num = 0
  · have h1 := (h.off hz).1; rcases hc.st with k | k | k
    · exact .inl ⟨hz, k, by rw [h.sa, k]; rfl⟩
    · exact .inr (.inl ⟨hz, k, by rw [h.sa, k]; rfl⟩)
    · exact absurd k h1
  · have k := h.on hz; exact .inr (.inr ⟨hz, k, by rw [h.sa, k]; rfl⟩)
theorem nx_52 {C : Cl} {data : ByteArray} {D : Dg} (h : C.st = 52) : nxtS C data D = (nob, 240, C) := by unfold nxtS; rw [if_neg (by omega), if_neg (by omega)]
theorem nx_54 {C : Cl} {data : ByteArray} {D : Dg} (h : C.st = 54) : nxtS C data D = greS C data D := by unfold nxtS; rw [if_pos h]
theorem nx_168 {C : Cl} {data : ByteArray} {D : Dg} (h : C.st = 168) : nxtS C data D = plaS C data D := by unfold nxtS; rw [if_neg (by omega), if_pos h]
theorem nx_a {C : Cl} {data : ByteArray} {D : Dg} (h : C.st = 168) (h6 : D.kind ≠ 6) (h7 : D.kind ≠ 7) : nxtS C data D = (nob, 240, C) := by rw [nx_168 h]; unfold plaS; rw [if_neg h6, if_neg h7]
theorem nx_b {C : Cl} {data : ByteArray} {D : Dg} (h : C.st = 54) (hn : ¬ D.nonce = C.nc) : nxtS C data D = (nob, 240, C) := by rw [nx_54 h, gre_1 hn]
theorem nx_c {C : Cl} {data : ByteArray} {D : Dg} (h : C.st = 54) (h2 : ¬ D.kind = 2) (h4 : ¬ D.kind = 4) : nxtS C data D = (nob, 240, C) := by rw [nx_54 h, gre_4 h2 h4]
theorem nx_2 {C : Cl} {data : ByteArray} {D : Dg} (h : C.st = 54) (hn : D.nonce = C.nc) (k : D.kind = 2) : nxtS C data D = ((sealD (conD C D) C.sc).1, (sealD (conD C D) C.sc).2, C) := by rw [nx_54 h, gre_2 hn k]
theorem nx_4 {C : Cl} {data : ByteArray} {D : Dg} (h : C.st = 54) (hn : D.nonce = C.nc) (k : D.kind = 4) : nxtS C data D = (nob, (begS C data D).2, (begS C data D).1) := by rw [nx_54 h, gre_3 hn k]
theorem nx_j {C : Cl} {data : ByteArray} {D : Dg} (h : C.st = 168) (k : D.kind = 6 ∨ D.kind = 7) (hj : judS C data D ≠ 0) : nxtS C data D = (nob, judS C data D, C) := by
  rw [nx_168 h]; unfold plaS; rcases k with k | k
  · rw [if_pos k]; unfold lokS; rw [if_pos hj]
  · rw [if_neg (by omega), if_pos k]; unfold disS; rw [if_pos hj]
theorem nx_7 {C : Cl} {data : ByteArray} {D : Dg} (h : C.st = 168) (k : D.kind = 7) (hj : judS C data D = 0) : nxtS C data D = (nob, 0, endS C) := by
  rw [nx_168 h]; unfold plaS; rw [if_neg (by omega), if_pos k]; unfold disS; rw [if_neg (fun q => q hj)]
theorem nx_6 {C : Cl} {data : ByteArray} {D : Dg} (h : C.st = 168) (k : D.kind = 6) : nxtS C data D = (nob, (lokS C data D).2, (lokS C data D).1) := by
  rw [nx_168 h]; unfold plaS; rw [if_pos k]
theorem lk_e {C : Cl} {data : ByteArray} {D : Dg} {Z : Vw × Int} (hj : judS C data D = 0) (hz : rdV (sl D.data) = Z) (h : Z.2 ≠ 0) : lokS C data D = (C, Z.2) := by
  unfold lokS; rw [if_neg (fun q => q hj), hz, if_pos h]
theorem lk_o {C : Cl} {data : ByteArray} {D : Dg} {Z : Vw × Int} (hj : judS C data D = 0) (hz : rdV (sl D.data) = Z) (h : Z.2 = 0) : lokS C data D = (Cl.mk C.nm C.sc C.nc C.st C.num C.pl C.key C.sd D.seq C.mx D.data, 0) := by
  unfold lokS; rw [if_neg (fun q => q hj), hz, if_neg (fun q => q h)]
theorem jd_1 {C : Cl} {data : ByteArray} {D : Dg} (h : D.session ≠ C.num) : judS C data D = 240 := by unfold judS; rw [if_pos h]
theorem jd_2 {C : Cl} {data : ByteArray} {D : Dg} (h : D.session = C.num) (k : sealed data C.key = false) : judS C data D = 124 := by unfold judS; rw [if_neg (fun q => q h), if_pos k]
theorem jd_3 {C : Cl} {data : ByteArray} {D : Dg} (h : D.session = C.num) (k : sealed data C.key = true) (l : D.seq ≤ C.bl) : judS C data D = 241 := by unfold judS; rw [if_neg (fun q => q h), if_neg (by rw [k]; simp), if_pos l]
theorem jd_0 {C : Cl} {data : ByteArray} {D : Dg} (h : D.session = C.num) (k : sealed data C.key = true) (l : ¬ D.seq ≤ C.bl) : judS C data D = 0 := by unfold judS; rw [if_neg (fun q => q h), if_neg (by rw [k]; simp), if_neg l]
def Rf.beg (R : Rf) (D : Dg) (K : ByteArray) : Rf := { R with num := D.session, mo := D.session, pl := D.player, key := K, sq := 0, la := 0 }
theorem Ti.beg {w : World} {cb rb : Nat} {C : Cl} {R : Rf} {data : ByteArray} {D : Dg} (h : Ti w cb rb C R) (hsa : R.sa = true) (h1 : ¬ D.session ≤ C.mx) (h2 : sealed data (keyB C.sc C.nc D.salt D.session) = true) :
    (begS C data D).2 = 0 ∧ Ti w cb rb (begS C data D).1 (R.beg D (keyB C.sc C.nc D.salt D.session)) := by
  unfold begS; rw [if_neg h1, if_neg (by rw [h2]; simp)]; have hn : D.session ≠ 0 := by omega
  exact ⟨rfl, ⟨h.nm, h.sc, h.nc, hsa, rfl, fun _ => rfl, fun q => absurd q hn, fun _ => ⟨rfl, rfl, rfl, rfl⟩, rfl, h.vw, h.has, by show (keyB _ _ _ _).size ≤ 32; rw [keyB_size]; omega, h.se⟩⟩
theorem Ti.endd {w : World} {cb rb : Nat} {C : Cl} {R : Rf} (h : Ti w cb rb C R) (hsa : R.sa = true) : Ti w cb rb (endS C) { R with num := 0 } :=
  ⟨h.nm, h.sc, h.nc, hsa, rfl, fun q => absurd rfl q, fun _ => ⟨by show (54 : Nat) ≠ 168; omega, rfl⟩, fun q => absurd rfl q, h.mo, h.vw, h.has, h.rk, h.se⟩
def Rf.look (R : Rf) (V : Vw) (a : Option Addr) (c : Nat) (q : Nat) : Rf := { R with V := V, a := a, c := c, has := true, la := q }
theorem Ti.look {w : World} {cb rb : Nat} {C : Cl} {R : Rf} {D : Dg} {a : Option Addr} {c : Nat} {V : Vw} (h : Ti w cb rb C R) (hv : rdV (sl D.data) = (V, 0)) (hs : V.S ≠ [] → ∃ sb so, a = some ⟨sb, so, none⟩ ∧ sb ≠ rb ∧ sb ≠ cb ∧ SnR w sb so V.S) :
    Ti w cb rb (Cl.mk C.nm C.sc C.nc C.st C.num C.pl C.key C.sd D.seq C.mx D.data) (R.look V a c D.seq) :=
  ⟨h.nm, h.sc, h.nc, h.sa, h.num, h.on, h.off, fun q => ⟨(h.cur q).1, (h.cur q).2.1, (h.cur q).2.2.1, rfl⟩, h.mo, by show V = (rdV (sl D.data)).1; rw [hv], by show true = decide ((rdV (sl D.data)).2 = 0); rw [hv]; rfl, h.rk, hs⟩
theorem said3 (use p q r : ByteArray) : (saidB use [p, q, r]).size = use.size + 25 + p.size + q.size + r.size := by
  rw [saidB_size]; simp only [Mac.said, Mac.flat, List.map_cons, List.map_nil, List.flatMap_cons, List.flatMap_nil, List.length_append, List.length_cons, List.length_nil, Mac.len8_len, Go.Proofs.YtldnpebnpbahjaaGreatDoor.sl_len]; omega
theorem gr_l {w w' : World} (g : w.grownBy w' none) (h : 5 ≤ w.heap.size) : 5 ≤ w'.heap.size := Nat.le_trans h g.size
structure HB (w0 w : World) (db rb : Nat) (D : Dg) (R : Rf) : Prop where
  d : Has w db D.cells 34
  r : Has w rb R.cs 103
  g : w0.grownBy w none
  k : RK w
  s : 5 ≤ w.heap.size
theorem HB.kept {w0 w w' : World} {db rb : Nat} {D : Dg} {R : Rf} (h : HB w0 w db rb D R) (g : w.grownBy w' none) : HB w0 w' db rb D R := ⟨h.d.kept g (by simp), h.r.kept g (by simp), h.g.trans g, h.k.kept g, gr_l g h.s⟩
open Go.Proofs.Tryz
structure Wb (w : World) (b : Nat) (L : List UInt8) : Prop where
  lt : b < w.heap.size
  at_ : ∀ (j : Nat) (x : UInt8), L[j]? = some x → w.cell? ⟨b, j, none⟩ = some (.int .u8 (x.toNat : Int))
  fz : ∀ j, j < L.length → w.frozen? ⟨b, j, none⟩ = false
theorem Wb.new (W : World) (s : ByteArray) : Wb (Lib.bytesWorld W 5 s) W.heap.size (sl s) := by
  refine ⟨by rw [Lib.bytesWorld_size]; omega, fun j x hx => bytes_cells W s j x hx, fun j hj => ?_⟩; rw [sl_len] at hj; simp only [World.frozen?, Lib.bytesWorld_at_new]
  have : s.size ≤ (Lib.bytesCells W 5 s).size := by
    simp [Lib.bytesCells]
    try omega
  simp; omega
theorem Wb.drew {w : World} {b : Nat} {L : List UInt8} (h : Wb w b L) : Wb w.drew b L := ⟨h.lt, fun j x hx => h.at_ j x hx, fun j hj => h.fz j hj⟩
theorem Wb.set {w : World} {b : Nat} {L : List UInt8} (h : Wb w b L) (j : Nat) (y : UInt8) : Wb (w.setCell ⟨b, j, none⟩ (.int .u8 (y.toNat : Int))) b (L.set j y) := by
  refine ⟨by simp [World.setCell]; exact h.lt, fun i x hx => ?_, fun i hi => ?_⟩
  · by_cases e : j = i
    · subst e
      have hj : j < L.length := by
        have := (List.getElem?_eq_some_iff.1 hx).1
        simpa using this
      rw [List.getElem?_set_self (by simpa using hj)] at hx; obtain rfl := Option.some.inj hx; obtain ⟨z, hz⟩ : ∃ z, L[j]? = some z := ⟨_, List.getElem?_eq_getElem hj⟩; exact World.cell?_setCell_same _ _ _ (h.at_ j z hz)
    · rw [List.getElem?_set_ne e] at hx; rw [World.cell?_setCell_other _ _ _ _ (by first | (simp; done) | (simp; omega))]; exact h.at_ i x hx
  · rw [World.frozen?_setCell]; exact h.fz i (by simpa using hi)
theorem Wb.bytes {w : World} {b : Nat} {L : List UInt8} (h : Wb w b L) (n c : Nat) (hn : L.length = n) (hc : n ≤ c) : (convert 60 9 (.slice (some ⟨b, 0, none⟩) n c)).run prog w = .ok (.string (ba L)) w :=
  cvt_back w (some ⟨b, 0, none⟩) n c L ⟨hn, hc, fun _ => ⟨b, 0, rfl, fun j x hx => by rw [Nat.zero_add]; exact h.at_ j x hx⟩⟩ (by simp)
def dV : Vw := smV 4 3 100 0 annB
structure DS (w w' : World) (cb db vb : Nat) (C D : Cl) : Prop where
  c : Has w' cb C.cs 83
  d : Has w' db D.cs 83
  v : Has w' vb (dV.cs none 0) 49
  g : w.grownBy w' none
  n1 : w.heap.size ≤ cb
  n2 : w.heap.size ≤ db
  n3 : db ≠ cb
  n4 : vb ≠ cb
  n5 : vb ≠ db
theorem DS.kept {w w' w'' : World} {cb db vb : Nat} {C D : Cl} (h : DS w w' cb db vb C D) (g : w'.grownBy w'' none) : DS w w'' cb db vb C D :=
  ⟨h.c.kept g (by simp), h.d.kept g (by simp), h.v.kept g (by simp), h.g.trans g, h.n1, h.n2, h.n3, h.n4, h.n5⟩
structure L2 (w : World) (ab : Nat) (p q : ByteArray) : Prop where
  h : Has w ab [.string p, .string q] 59
  p : p.size ≤ 140737488355328
  q : q.size ≤ 140737488355328
theorem L2.kept {w w' : World} {ab : Nat} {p q : ByteArray} {r : Option Nat} (h : L2 w ab p q) (g : w.grownBy w' r) (n : some ab ≠ r) : L2 w' ab p q := ⟨h.h.kept g n, h.p, h.q⟩
theorem L2.at_ {w : World} {ab : Nat} {p q : ByteArray} (h : L2 w ab p q) {k : Nat} (hk : k < 2) : ∃ s : ByteArray, w.cell? ⟨ab, k, none⟩ = some (.string s) ∧ s.size ≤ 140737488355328 := by
  obtain rfl | rfl : k = 0 ∨ k = 1 := by omega
  · exact ⟨p, h.h.cellv 0 _ rfl, h.p⟩
  · exact ⟨q, h.h.cellv 1 _ rfl, h.q⟩
end Go.Proofs.YtldnpebnpbahjaaGreatDoor.Pk.Sn
