import Derived.Test.YtplcicbpkbamnaaDoorX10
/- window: Mark, in a row of cells. -/
namespace Go.Proofs.YtplcicbpkbamnaaDoor.Lo.Wi
open Go Go.RowKit
/-- the window at place o of block b -/
structure WO (w : World) (b o : Nat) (cs : List Value) (h B : Nat) : Prop where
  has : Has w b cs 97
  c0 : cs[o]? = some (uv h)
  c1 : cs[o + 1]? = some (uv B)
  h1 : h < 18446744073709551616
  b1 : B < 18446744073709551616
set_option maxRecDepth 100000 in
theorem omark_no (b o : Nat) (cs : List Value) (h B s : Nat) (w : World) (k : WO w b o cs h B) (hs : s < 18446744073709551616) (hc : chk h B s ≠ 0) :
    Calls Tryd.prog 69 #[.pointer (some ⟨b, o, none⟩), uv s] w fun e w' => e = .returned (.int .i64 (chk h B s : Nat)) ∧ w.grownBy w' none := by
  have c0 := k.has.cellv o _ k.c0
  have c1 := k.has.cellv (o + 1) _ k.c1
  have HC : Keep (∀ w, Calls Tryd.prog 50 #[.agg #[uv h, uv B], uv s] w fun e w' => e = .returned (.int .i64 (chk h B s : Nat)) ∧ w.grownBy w' none) := ⟨fun w => check_c h B s w k.h1 k.b1 hs⟩
  clear k
  generalize chk h B s = c at *
  have hci : ((c : Int) == 0) = false := by simp; omega
  go_enter Tryd.func69, Tryd.ntmps69
  go_wp2_with fail
  refine (HC.out _).mono ?_
  rintro e w1 ⟨rfl, g⟩
  clear HC
  go_wp2_with fail
  go_ret
  exact ⟨rfl, g⟩
set_option maxRecDepth 100000 in
theorem omark_up (b o : Nat) (cs : List Value) (h B s : Nat) (w : World) (k : WO w b o cs h B) (hs : s < 18446744073709551616) (hc : chk h B s = 0) (hu : h < s) :
    Calls Tryd.prog 69 #[.pointer (some ⟨b, o, none⟩), uv s] w fun e w' => e = .returned (.int .i64 0) ∧ Has w' b ((cs.set o (uv s)).set (o + 1) (uv ((B * 2 ^ (s - h)) % 18446744073709551616 ||| 1))) 97 ∧ w.grownBy w' (some b) := by
  have c0 := k.has.cellv o _ k.c0
  have c1 := k.has.cellv (o + 1) _ k.c1
  have HC : Keep (∀ w, Calls Tryd.prog 50 #[.agg #[uv h, uv B], uv s] w fun e w' => e = .returned (.int .i64 (chk h B s : Nat)) ∧ w.grownBy w' none) := ⟨fun w => check_c h B s w k.h1 k.b1 hs⟩
  rw [hc] at HC
  have hd1 : s - h ≤ 64 := by
    unfold chk at hc
    rw [if_pos hu] at hc
    split at hc
    · cases hc
    · omega
  have hw : IntKind.u64.wrap ((s : Int) - (h : Int)) = ((s - h : Nat) : Int) := by rw [wu _ (by omega) (by omega)]; omega
  have HK := Keep.mk k.has
  have HCC : Keep (cs[o]? = some (uv h) ∧ cs[o + 1]? = some (uv B)) := ⟨k.c0, k.c1⟩
  have hh := k.h1
  clear k hc
  obtain ⟨d, hd⟩ : ∃ d, s - h = d := ⟨_, rfl⟩
  rw [hd] at hw hd1
  have HD := Keep.mk hd
  have hsi : (h : Int) < (s : Int) := by omega
  clear hd
  go_enter Tryd.func69, Tryd.ntmps69
  go_wp2_with fail
  refine (HC.out _).mono ?_
  rintro e w1 ⟨rfl, g⟩
  have HG := Keep.mk g
  replace HK := Keep.mk (HK.out.kept g (by simp))
  clear HC c0 c1 g
  have c0 := HK.out.cellv o _ HCC.out.1
  have c1 := HK.out.cellv (o + 1) _ HCC.out.2
  have z1 := HK.out.frozen (o + 1)
  have z0 := HK.out.frozen o
  go_wp2_with fail
  have hb1 : IntKind.u64.wrap ((B : Int) * 2 ^ d) = ((B * 2 ^ d % 18446744073709551616 : Nat) : Int) := by
    rw [show IntKind.u64.wrap ((B : Int) * 2 ^ d) = ((B : Int) * 2 ^ d) % 18446744073709551616 by simp [IntKind.wrap, IntKind.bits, IntKind.signed]]
    simp
  have HB1 : Keep (B * 2 ^ d % 18446744073709551616 < 18446744073709551616) := ⟨Nat.mod_lt _ (by omega)⟩
  have HBe : Keep (B * 2 ^ (s - h) % 18446744073709551616 = B * 2 ^ d % 18446744073709551616) := ⟨by rw [HD.out]⟩
  generalize B * 2 ^ d % 18446744073709551616 = B1 at *
  go_region
  clear hb1
  have H2 : Keep (Has (w1.setCell { block := b, off := o + 1 } (Value.int IntKind.u64 B1)).drew b (cs.set (o + 1) (uv B1)) 97 ∧ w.grownBy (w1.setCell { block := b, off := o + 1 } (Value.int IntKind.u64 B1)).drew (some b)) := ⟨HK.out.setCell (o + 1) (uv B1), ((HG.out.but _).trans (gr_set w1 b (o + 1) (uv B1))).trans (gr_drew _ _)⟩
  clear HK HG c0 c1 z1 z0 hw HD hd1
  generalize (w1.setCell { block := b, off := o + 1 } (Value.int IntKind.u64 B1)).drew = w2 at *
  have z0 := H2.out.1.frozen o
  have c0 := H2.out.1.cellv o (uv h) (by rw [List.getElem?_set_ne (by omega)]; exact HCC.out.1)
  have H3 : Keep (Has (w2.setCell { block := b, off := o } (uv s)) b ((cs.set (o + 1) (uv B1)).set o (uv s)) 97 ∧ w.grownBy (w2.setCell { block := b, off := o } (uv s)) (some b)) := ⟨H2.out.1.setCell o (uv s), H2.out.2.trans (gr_set w2 b o (uv s))⟩
  clear H2
  have hws : IntKind.u64.wrap ((s : Int) - (s : Int)) = 0 := by rw [Int.sub_self]; rfl
  have hor : bits .or .u64 (B1 : Int) 1 = ((B1 ||| 1 : Nat) : Int) := u64_or_nat B1 1 HB1.out (by omega)
  go_wp2_with fail
  generalize w2.setCell { block := b, off := o } (uv s) = w3 at *
  clear z0 c0
  have c0 := H3.out.1.cellv o (uv s) (by rw [List.getElem?_set_self (by simp; exact (List.getElem?_eq_some_iff.1 HCC.out.1).1)])
  have c1 := H3.out.1.cellv (o + 1) (uv B1) (by rw [List.getElem?_set_ne (by omega), List.getElem?_set_self ((List.getElem?_eq_some_iff.1 HCC.out.2).1)])
  have z1 := H3.out.1.frozen (o + 1)
  have H4 : Keep (Has (w3.setCell { block := b, off := o + 1 } (Value.int IntKind.u64 (B1 ||| 1 : Nat))).drew b ((cs.set o (uv s)).set (o + 1) (uv (B1 ||| 1))) 97 ∧ w.grownBy (w3.setCell { block := b, off := o + 1 } (Value.int IntKind.u64 (B1 ||| 1 : Nat))).drew (some b)) := ⟨by have q := H3.out.1.setCell (o + 1) (uv (B1 ||| 1)); rw [List.set_comm _ _ (by omega), List.set_set, List.set_comm _ _ (by omega)] at q; exact q, (H3.out.2.trans (gr_set w3 b (o + 1) (uv (B1 ||| 1)))).trans (gr_drew _ _)⟩
  go_region
  go_wp2_with fail
  go_ret
  exact ⟨rfl, by rw [HBe.out]; exact H4.out.1, H4.out.2⟩
set_option maxRecDepth 100000 in
theorem omark_in (b o : Nat) (cs : List Value) (h B s : Nat) (w : World) (k : WO w b o cs h B) (hs : s < 18446744073709551616) (hc : chk h B s = 0) (hu : ¬ h < s) :
    Calls Tryd.prog 69 #[.pointer (some ⟨b, o, none⟩), uv s] w fun e w' => e = .returned (.int .i64 0) ∧ Has w' b (cs.set (o + 1) (uv (B ||| 2 ^ (h - s)))) 97 ∧ w.grownBy w' (some b) := by
  have c0 := k.has.cellv o _ k.c0
  have c1 := k.has.cellv (o + 1) _ k.c1
  have HC : Keep (∀ w, Calls Tryd.prog 50 #[.agg #[uv h, uv B], uv s] w fun e w' => e = .returned (.int .i64 (chk h B s : Nat)) ∧ w.grownBy w' none) := ⟨fun w => check_c h B s w k.h1 k.b1 hs⟩
  rw [hc] at HC
  have hd1 : h - s < 64 := by
    unfold chk at hc
    rw [if_neg hu] at hc
    split at hc
    · cases hc
    · omega
  have hw : IntKind.u64.wrap ((h : Int) - (s : Int)) = ((h - s : Nat) : Int) := by have := k.h1; rw [wu _ (by omega) (by omega)]; omega
  have HK := Keep.mk k.has
  have HCC : Keep (cs[o]? = some (uv h) ∧ cs[o + 1]? = some (uv B)) := ⟨k.c0, k.c1⟩
  have hh := k.h1
  have hB := k.b1
  clear k hc
  obtain ⟨d, hd⟩ : ∃ d, h - s = d := ⟨_, rfl⟩
  rw [hd] at hw hd1
  have HD := Keep.mk hd
  have hsi : ¬ (h : Int) < (s : Int) := by omega
  clear hd
  have hp : 2 ^ d < 18446744073709551616 := by
    have := Nat.pow_le_pow_right (show 0 < 2 by omega) (show d ≤ 63 by omega)
    omega
  have hb1 : IntKind.u64.wrap (2 ^ d) = ((2 ^ d : Nat) : Int) := by
    have e : ((2 : Int) ^ d) = ((2 ^ d : Nat) : Int) := by simp
    rw [e]
    generalize 2 ^ d = P at *
    exact wu _ (by omega) (by omega)
  have hor : bits .or .u64 (B : Int) ((2 ^ d : Nat) : Int) = ((B ||| 2 ^ d : Nat) : Int) := u64_or_nat B _ hB hp
  have HBe : Keep (B ||| 2 ^ (h - s) = B ||| 2 ^ d) := ⟨by rw [HD.out]⟩
  generalize B ||| 2 ^ d = B2 at *
  generalize 2 ^ d = P at hb1 hor
  clear hp
  go_enter Tryd.func69, Tryd.ntmps69
  go_wp2_with fail
  refine (HC.out _).mono ?_
  rintro e w1 ⟨rfl, g⟩
  have HG := Keep.mk g
  replace HK := Keep.mk (HK.out.kept g (by simp))
  clear HC c0 c1 g
  have c0 := HK.out.cellv o _ HCC.out.1
  have c1 := HK.out.cellv (o + 1) _ HCC.out.2
  have z1 := HK.out.frozen (o + 1)
  have H4 : Keep (Has (w1.setCell { block := b, off := o + 1 } (uv B2)).drew b (cs.set (o + 1) (uv B2)) 97 ∧ w.grownBy (w1.setCell { block := b, off := o + 1 } (uv B2)).drew (some b)) := ⟨HK.out.setCell (o + 1) (uv B2), ((HG.out.but _).trans (gr_set w1 b (o + 1) (uv B2))).trans (gr_drew _ _)⟩
  go_wp2_with fail
  go_region
  go_wp2_with fail
  go_ret
  exact ⟨rfl, by rw [HBe.out]; exact H4.out.1, H4.out.2⟩
set_option maxRecDepth 100000 in
theorem set_same {cs : List Value} {o : Nat} {v : Value} (h : cs[o]? = some v) : cs.set o v = cs := by
  apply List.ext_getElem?
  intro i
  rw [List.getElem?_set]
  by_cases e : o = i
  · subst e
    have := (List.getElem?_eq_some_iff.1 h).1
    simpa [h] using this
  · simp [e]
set_option maxRecDepth 100000 in
theorem omark_c (b o : Nat) (cs : List Value) (h B s : Nat) (w : World) (k : WO w b o cs h B) (hs : s < 18446744073709551616) :
    Calls Tryd.prog 69 #[.pointer (some ⟨b, o, none⟩), uv s] w fun e w' => e = .returned (.int .i64 (chk h B s : Nat)) ∧ Has w' b ((cs.set o (uv (mkH h B s))).set (o + 1) (uv (mkB h B s))) 97 ∧ w.grownBy w' (some b) := by
  by_cases hc : chk h B s = 0
  · by_cases hu : h < s
    · refine (omark_up b o cs h B s w k hs hc hu).mono ?_
      rintro e w1 ⟨rfl, hh, g⟩
      refine ⟨by rw [hc]; rfl, ?_, g⟩
      unfold mkH mkB
      rw [if_pos hc, if_pos hc, if_pos hu, show max h s = s by omega]
      exact hh
    · refine (omark_in b o cs h B s w k hs hc hu).mono ?_
      rintro e w1 ⟨rfl, hh, g⟩
      refine ⟨by rw [hc]; rfl, ?_, g⟩
      unfold mkH mkB
      rw [if_pos hc, if_pos hc, if_neg hu, show max h s = h by omega, set_same k.c0]
      exact hh
  · refine (omark_no b o cs h B s w k hs hc).mono ?_
    rintro e w1 ⟨rfl, g⟩
    refine ⟨rfl, ?_, g.but _⟩
    rw [mkH_no hc, mkB_no hc, set_same k.c0, set_same k.c1]
    exact k.has.kept g (by simp)
end Go.Proofs.YtplcicbpkbamnaaDoor.Lo.Wi

/- lobby: a lobby as it lies; New. -/
namespace Go.Proofs.YtplcicbpkbamnaaDoor.Lo
open Go Go.RowKit Go.Maps

/-- a session -/
structure Se where
  num : Nat
  pl : Nat
  nm : ByteArray
  fr : ByteArray
  heard : Nat
  high : Nat
  sent : Nat
  acc : Nat
  key : List UInt8
  wh : Nat
  wb : Nat
  y : Int
/-- what is told of it -/
def lvc (s : Se) : List Value := [uv s.num, iv (s.pl : Nat), .string s.nm, .string s.fr, uv s.heard, uv s.high, uv s.sent]
/-- its cells -/
def sev (r u : Int) (s : Se) : List Value := lvc s ++ [iv (s.acc : Nat)] ++ s.key.map b8 ++ [uv s.wh, uv s.wb, iv r, iv u, iv s.y]
/-- a lobby -/
structure Lb where
  most : Nat
  idle : Nat
  r : Int
  u : Int
  A : List Ac
  next : Nat
  S : List Se
def lobL (lb : Nat) (X : Lb) (q : Value × Nat × List (Nat × Se)) : List As :=
  pureA (q.2.2.map (fun p => p.2) = X.S) :: boxA lb [iv (X.most : Nat), uv X.idle, iv X.r, iv X.u, iv (16 * X.u), q.1, uv X.next, .map (some q.2.1)] 80 :: rowV 87 33 q.1 X.A.length (acs X.A) :: mapA q.2.1 (q.2.2.map fun p => (p.2.num, p.1)) :: (q.2.2.map fun p => boxA p.1 (sev X.r X.u p.2) 97)
/-- a lobby, as a thing that lies apart -/
def lobA (lb : Nat) (X : Lb) : As := exA (lobL lb X)
/-- what is handed to New -/
structure Cf where
  ses : Int
  o1 : Int
  rate : Int
  burst : Int
  o4 : Int
  o5 : Int
  idle : Int
  o7 : Int
  o8 : Int
  o9 : Int
  seed : ByteArray
  board : ByteArray
def cfv (c : Cf) (v : Value) : Array Value := #[iv c.ses, iv c.o1, iv c.rate, iv c.burst, iv c.o4, iv c.o5, iv c.idle, iv c.o7, iv c.o8, iv c.o9, .string c.seed, .string c.board, v]
instance (r u : Int) : Decidable (Bu.okay r u) := by unfold Bu.okay; infer_instance
/-- the lobby that comes of it -/
def newL (c : Cf) (P : List Pr) : Option Lb :=
  if Bu.okay c.rate c.burst ∧ (1 ≤ c.ses ∧ c.ses ≤ 32) ∧ (1 ≤ c.idle ∧ c.idle ≤ 100000) then (cpyL P).map fun A => ⟨c.ses.toNat, c.idle.toNat, c.rate, c.burst, A, 1, []⟩ else none
def NwR (w : World) : Option Lb → Ending → World → Prop
  | none, e, w' => e = .returned (.tuple #[np, iv 230]) ∧ w.grownBy w' none
  | some X, e, w' => ∃ lb, e = .returned (.tuple #[pt lb, iv 0]) ∧ Sep w w' [lobA lb X]
set_option maxRecDepth 100000 in
set_option maxHeartbeats 8000000 in
theorem new_bad (w : World) (c : Cf) (v : Value) (h : ¬ Bu.okay c.rate c.burst) (hv : ∃ a n cap, v = .slice a n cap) :
    Calls Tryd.prog 9 #[.agg (cfv c v)] w fun e w' => e = .returned (.tuple #[np, iv 230]) ∧ w.grownBy w' none := by
  obtain ⟨ses, o1, rate, burst, o4, o5, idle, o7, o8, o9, seed, board⟩ := c
  obtain ⟨a, n, cap, rfl⟩ := hv
  simp only [cfv]
  obtain ⟨W1, hW1⟩ : ∃ W1, w.alloc (.cells #[iv ses, iv o1, iv rate, iv burst, iv o4, iv o5, iv idle, iv o7, iv o8, iv o9, .string seed, .string board, .slice a n cap] 24) = W1 := ⟨_, rfl⟩
  obtain ⟨cb, hcb⟩ : ∃ cb, w.heap.size = cb := ⟨_, rfl⟩
  have hH : Has W1 cb [iv ses, iv o1, iv rate, iv burst, iv o4, iv o5, iv idle, iv o7, iv o8, iv o9, .string seed, .string board, .slice a n cap] 24 := by rw [← hW1, ← hcb]; exact Has.newA _ _ _
  have c2 := hH.cellv 2 _ rfl
  have c3 := hH.cellv 3 _ rfl
  have HG : Keep (w.grownBy W1 none) := ⟨by rw [← hW1]; exact World.grownBy_alloc _ _ _⟩
  have hB := Bu.new_no rate burst W1 h
  clear h hH
  go_enter Tryd.func9, Tryd.ntmps9
  go_wp2_with fail
  refine hB.mono ?_
  rintro e w2 ⟨rfl, g2⟩
  have HG2 := Keep.mk (HG.out.trans g2)
  clear hB g2 HG
  have HG3 : Keep (∀ o, w.grownBy (w2.alloc o) none) := ⟨fun o => HG2.out.trans (World.grownBy_alloc _ _ _)⟩
  go_wp2_with fail
  go_ret2
  exact ⟨rfl, HG3.out _⟩
theorem Sep.ovr {w0 W W' : World} {l0 l : List As} (h : Sep w0 W l0) (k : Sep W W' l) : Sep w0 W' (l ++ l0) := by
  obtain ⟨m, e, q, d⟩ := k.ex
  exact h.new k.g ⟨m, e, fun p hp => ⟨(q p hp).1, fun i hi => .inr ((q p hp).2 i hi)⟩, d⟩
/-- what New has behind its first part -/
structure NwC (W : World) (cb fb : Nat) (ses rate burst idle : Int) (v : Value) : Prop where
  c0 : W.cell? ⟨cb, 0, none⟩ = some (iv ses)
  c6 : W.cell? ⟨cb, 6, none⟩ = some (iv idle)
  c12 : W.cell? ⟨cb, 12, none⟩ = some v
  f0 : W.cell? ⟨fb, 0, none⟩ = some (iv rate)
  f1 : W.cell? ⟨fb, 1, none⟩ = some (iv burst)
  f2 : W.cell? ⟨fb, 2, none⟩ = some (iv (16 * burst))
set_option maxRecDepth 100000 in
set_option maxHeartbeats 16000000 in
theorem new_go (w : World) (c : Cf) (v : Value) (P : List Pr) (h : Bu.okay c.rate c.burst) (hv : InR w v P) (hk : Na.Kc w) :
    Calls Tryd.prog 9 #[.agg (cfv c v)] w (NwR w (newL c P)) := by
  obtain ⟨ses, o1, rate, burst, o4, o5, idle, o7, o8, o9, seed, board⟩ := c
  obtain ⟨a, cap, hve, _⟩ := hv.o
  obtain ⟨n, hn⟩ : ∃ n, P.length = n := ⟨_, rfl⟩
  rw [hn] at hve
  subst hve
  simp only [cfv]
  have HNL : Keep (∀ e w', ((1 ≤ ses ∧ ses ≤ 32) → (1 ≤ idle ∧ idle ≤ 100000) → NwR w ((cpyL P).map fun A => ⟨ses.toNat, idle.toNat, rate, burst, A, 1, []⟩) e w') → (¬ ((1 ≤ ses ∧ ses ≤ 32) ∧ (1 ≤ idle ∧ idle ≤ 100000)) → NwR w none e w') → NwR w (newL ⟨ses, o1, rate, burst, o4, o5, idle, o7, o8, o9, seed, board⟩ P) e w') := ⟨fun e w' h1 h2 => by
    unfold newL
    by_cases q : (1 ≤ ses ∧ ses ≤ 32) ∧ (1 ≤ idle ∧ idle ≤ 100000)
    · rw [if_pos ⟨h, q⟩]; exact h1 q.1 q.2
    · rw [if_neg (fun z => q z.2)]; exact h2 q⟩
  obtain ⟨W1, hW1⟩ : ∃ W1, w.alloc (.cells #[iv ses, iv o1, iv rate, iv burst, iv o4, iv o5, iv idle, iv o7, iv o8, iv o9, .string seed, .string board, .slice a n cap] 24) = W1 := ⟨_, rfl⟩
  obtain ⟨cb, hcb⟩ : ∃ cb, w.heap.size = cb := ⟨_, rfl⟩
  have S1 := (Sep.nil w).newBox #[iv ses, iv o1, iv rate, iv burst, iv o4, iv o5, iv idle, iv o7, iv o8, iv o9, .string seed, .string board, .slice a n cap] 24
  rw [hW1, hcb] at S1
  have c2 : W1.cell? ⟨cb, 2, none⟩ = some (iv rate) := (S1.boxGet k0m).cellv 2 _ rfl
  have c3 : W1.cell? ⟨cb, 3, none⟩ = some (iv burst) := (S1.boxGet k0m).cellv 3 _ rfl
  have hB := Bu.new_yes rate burst W1 h
  have HS1 := Keep.mk S1
  have HV := Keep.mk (And.intro hv hk)
  clear h S1 hv hk hn
  go_enter Tryd.func9, Tryd.ntmps9
  go_wp2_with fail
  refine hB.mono ?_
  rintro e w2 ⟨rfl, g2⟩
  have S3 := (HS1.out.grown g2).newBox #[iv rate, iv burst, iv (16 * burst)] 70
  obtain ⟨W3, hW3⟩ : ∃ W3, w2.alloc (.cells #[iv rate, iv burst, iv (16 * burst)] 70) = W3 := ⟨_, rfl⟩
  obtain ⟨fb, hfb⟩ : ∃ fb, w2.heap.size = fb := ⟨_, rfl⟩
  rw [hW3, hfb] at S3
  have mkC : ∀ ww, W3.grownBy ww none → NwC ww cb fb ses rate burst idle (.slice a n cap) := fun ww g => by
    have S := S3.grown g
    exact ⟨(S.boxGet k1m).cellv 0 _ rfl, (S.boxGet k1m).cellv 6 _ rfl, (S.boxGet k1m).cellv 12 _ rfl, (S.boxGet k0m).cellv 0 _ rfl, (S.boxGet k0m).cellv 1 _ rfl, (S.boxGet k0m).cellv 2 _ rfl⟩
  have HMC := Keep.mk mkC
  obtain ⟨c0, c6, c12, f0, f1, f2⟩ := mkC W3 (World.grownBy.refl _ _)
  have hw1 := within_c ses 32 W3
  have hw2 := within_c idle 100000 W3
  have hcp := copy_c W3 _ P (HV.out.1.kept S3.g) (HV.out.2.kept S3.g)
  have HS3 := Keep.mk S3
  clear hB g2 HS1 HV c2 c3 S3 mkC hW1 hcb
  by_cases q1 : 1 ≤ ses ∧ ses ≤ 32
  · have e1 : (decide (1 ≤ ses) && decide (ses ≤ 32)) = true := by simp [q1]
    rw [e1] at hw1
    go_wp2_with fail
    refine hw1.mono ?_
    rintro e w4 ⟨rfl, hw⟩
    subst w4
    clear hw1 e1
    by_cases q2 : 1 ≤ idle ∧ idle ≤ 100000
    · have e2 : (decide (1 ≤ idle) && decide (idle ≤ 100000)) = true := by simp [q2]
      rw [e2] at hw2
      go_wp2_with fail
      refine hw2.mono ?_
      rintro e w4 ⟨rfl, hw⟩
      subst w4
      clear hw2 e2
      go_wp2_with fail
      refine hcp.mono ?_
      intro e w5 h5
      cases hA : cpyL P with
      | none =>
        rw [hA] at h5
        obtain ⟨rfl, g5⟩ := h5
        have HG := Keep.mk (HS3.out.g.trans g5)
        have HE : Keep (cpyL P = none) := ⟨hA⟩
        have HQ : Keep ((1 ≤ ses ∧ ses ≤ 32) ∧ (1 ≤ idle ∧ idle ≤ 100000)) := ⟨q1, q2⟩
        clear hcp g5 hA q1 q2 hW3 hfb c0 c6 c12 f0 f1 f2
        go_wp2_with fail
        go_ret2
        refine HNL.out _ _ (fun _ _ => ?_) (fun z => absurd HQ.out z)
        rw [HE.out]
        exact ⟨rfl, HG.out⟩
      | some A =>
        rw [hA] at h5
        obtain ⟨hA1, hA2, v5, rfl, S5⟩ := h5
        obtain ⟨va, vc, rfl⟩ := own_slice (S5.rowGet k0m)
        obtain ⟨c0, c6, c12, f0, f1, f2⟩ := HMC.out w5 S5.g
        have S6 := HS3.out.ovr S5
        obtain ⟨sn, rfl⟩ : ∃ sn : Nat, ses = (sn : Int) := ⟨ses.toNat, by omega⟩
        obtain ⟨dn, rfl⟩ : ∃ dn : Nat, idle = (dn : Int) := ⟨idle.toNat, by omega⟩
        obtain ⟨W6, hW6⟩ : ∃ W6, w5.alloc (.map #[] 0) = W6 := ⟨_, rfl⟩
        obtain ⟨mb, hmb⟩ : ∃ mb, w5.heap.size = mb := ⟨_, rfl⟩
        have S7 := S6.mapNew
        rw [hW6, hmb] at S7
        have S8 := S7.newBox #[iv (sn : Nat), uv dn, iv rate, iv burst, iv (16 * burst), .slice va A.length vc, .int .u64 1, .map (some mb)] 80
        obtain ⟨W7, hW7⟩ : ∃ W7, W6.alloc (.cells #[iv (sn : Nat), uv dn, iv rate, iv burst, iv (16 * burst), .slice va A.length vc, .int .u64 1, .map (some mb)] 80) = W7 := ⟨_, rfl⟩
        obtain ⟨lb, hlb⟩ : ∃ lb, W6.heap.size = lb := ⟨_, rfl⟩
        rw [hW7, hlb] at S8
        have HF : Keep (Sep w W7 [lobA lb ⟨sn, dn, rate, burst, A, 1, []⟩]) := ⟨Sep.cls (lobL lb ⟨sn, dn, rate, burst, A, 1, []⟩) (.slice va A.length vc, mb, []) (Sep.know (p := ([] : List (Nat × Se)).map (fun p => p.2) = []) (by
          have S9 := Sep.dropM [_, _, _] [_, _] S8
          exact S9.perm (List.Perm.cons _ (List.Perm.swap _ _ _))) rfl)⟩
        have hwu : IntKind.u64.wrap (dn : Int) = (dn : Int) := Wi.wu _ (by omega) (by omega)
        have HE : Keep (cpyL P = some A) := ⟨hA⟩
        have HQ : Keep ((1 ≤ (sn : Int) ∧ (sn : Int) ≤ 32) ∧ (1 ≤ (dn : Int) ∧ (dn : Int) ≤ 100000)) := ⟨q1, q2⟩
        have hmm := @run_makeMap Tryd.prog
        clear hcp hA q1 q2 hW3 hfb S5 S6 S7 S8 hA1 hA2
        go_wp2_with fail
        go_ret2
        refine HNL.out _ _ (fun _ _ => ?_) (fun z => absurd HQ.out z)
        rw [HE.out]
        refine ⟨lb, rfl, ?_⟩
        simp only [Int.toNat_natCast]
        exact HF.out
    · have e2 : (decide (1 ≤ idle) && decide (idle ≤ 100000)) = false := by
        rcases Int.lt_or_le idle 1 with z | z
        · rw [decide_eq_false (by omega)]; rfl
        · rw [decide_eq_false (p := idle ≤ 100000) (by omega), Bool.and_false]
      rw [e2] at hw2
      have HG := Keep.mk HS3.out.g
      have HQ : Keep (¬ (1 ≤ idle ∧ idle ≤ 100000)) := ⟨q2⟩
      clear q2 hcp
      go_wp2_with fail
      refine hw2.mono ?_
      rintro e w4 ⟨rfl, hw⟩
      subst w4
      clear hw2 e2 c0 c6 c12 f0 f1 f2 hW3
      go_wp2_with fail
      go_ret2
      exact HNL.out _ _ (fun _ z => absurd z HQ.out) (fun _ => ⟨rfl, HG.out⟩)
  · have e1 : (decide (1 ≤ ses) && decide (ses ≤ 32)) = false := by
      rcases Int.lt_or_le ses 1 with z | z
      · rw [decide_eq_false (by omega)]; rfl
      · rw [decide_eq_false (p := ses ≤ 32) (by omega), Bool.and_false]
    rw [e1] at hw1
    have HG := Keep.mk HS3.out.g
    have HQ : Keep (¬ (1 ≤ ses ∧ ses ≤ 32)) := ⟨q1⟩
    clear q1 hcp hw2
    go_wp2_with fail
    refine hw1.mono ?_
    rintro e w4 ⟨rfl, hw⟩
    subst w4
    clear hw1 e1 c0 c6 c12 f0 f1 f2 hW3
    go_wp2_with fail
    go_ret2
    exact HNL.out _ _ (fun z _ => absurd z HQ.out) (fun _ => ⟨rfl, HG.out⟩)
theorem new_c (w : World) (c : Cf) (v : Value) (P : List Pr) (hv : InR w v P) (hk : Na.Kc w) : Calls Tryd.prog 9 #[.agg (cfv c v)] w (NwR w (newL c P)) := by
  by_cases h : Bu.okay c.rate c.burst
  · exact new_go w c v P h hv hk
  · have e : newL c P = none := by unfold newL; rw [if_neg (fun z => h z.1)]
    rw [e]
    obtain ⟨a, cap, hve, _⟩ := hv.o
    exact new_bad w c v h ⟨a, _, cap, hve⟩
/-- what is known of a lobby -/
structure LbOk (X : Lb) : Prop where
  m1 : 1 ≤ X.most
  m2 : X.most ≤ 32
  r : Bu.okay X.r X.u
  a1 : ∀ a ∈ X.A, a.sc.length = 32
  a2 : X.A.length ≤ 64
  n1 : 1 ≤ X.next
  n2 : X.next ≤ 1000000
  nd : (X.S.map Se.num).Nodup
  s : ∀ s ∈ X.S, 1 ≤ s.num ∧ s.num < X.next ∧ s.pl < X.most ∧ s.key.length = 32 ∧ s.acc < X.A.length ∧ s.heard < 18446744073709551616 ∧ s.high < 18446744073709551616 ∧ s.sent < 18446744073709551616 ∧ s.wh < 18446744073709551616 ∧ s.wb < 18446744073709551616 ∧ 0 ≤ s.y ∧ s.y ≤ 16 * X.u ∧ s.nm.size ≤ 281474976710656 ∧ s.fr.size ≤ 281474976710656
  le : X.S.length ≤ X.most
/-- the secret that is told -/
def secS (X : Lb) (nm : ByteArray) : ByteArray := match fdI X.A nm with
  | some i => txt (((X.A[i]?).map Ac.sc).getD [])
  | none => ⟨#[]⟩
set_option maxRecDepth 100000 in
set_option maxHeartbeats 8000000 in
theorem secret_c (w0 W : World) (l : List As) (lb : Nat) (X : Lb) (nm : ByteArray) (h : Sep w0 W (lobA lb X :: l)) (ok : LbOk X) (hk : Na.Kc W) (hs : nm.size ≤ 281474976710656) :
    Calls Tryd.prog 11 #[pt lb, .string nm] W fun e W' => e = .returned (.tuple #[.string (secS X nm), .bool (fdI X.A nm).isSome]) ∧ Sep w0 W' (lobA lb X :: l) := by
  obtain ⟨⟨v, mb, P⟩, h⟩ := h.opn
  have c5 : W.cell? ⟨lb, 5, none⟩ = some v := (h.boxGet k1m).cellv 5 _ rfl
  have hA : AcR W v X.A := acr_of ok.a1 (h.rowGet k2m)
  have hF := find_c W v X.A nm hA hk hs ok.a2
  obtain ⟨a, cap, hve, _⟩ := hA.o
  subst hve
  have HS : Keep (∀ W', W.grownBy W' none → Sep w0 W' (lobA lb X :: l)) := ⟨fun W' g => Sep.cls (lobL lb X) (_, mb, P) (h.grown g)⟩
  have HC : Keep (∀ W', W.grownBy W' none → W'.cell? ⟨lb, 5, none⟩ = some (.slice a X.A.length cap) ∧ AcR W' (.slice a X.A.length cap) X.A) := ⟨fun W' g => ⟨((h.grown g).boxGet k1m).cellv 5 _ rfl, hA.kept g⟩⟩
  cases hfd : fdI X.A nm with
  | none =>
    have HR : Keep (secS X nm = ⟨#[]⟩) := ⟨by unfold secS; rw [hfd]⟩
    rw [hfd] at hF
    simp only [idv] at hF
    rw [HR.out, show (none : Option Nat).isSome = false from rfl]
    clear h hA hfd
    go_enter Tryd.func11, Tryd.ntmps11
    go_wp2_with fail
    refine hF.mono ?_
    rintro e w1 ⟨rfl, g1⟩
    have HF := Keep.mk (HS.out w1 g1)
    clear hF g1 HS HC c5
    go_wp2_with fail
    go_ret2
    exact ⟨rfl, HF.out⟩
  | some i =>
    rw [hfd] at hF
    simp only [idv] at hF
    obtain ⟨x, hx⟩ : ∃ x, X.A[i]? = some x := by
      unfold fdI at hfd
      split at hfd
      · obtain ⟨hi, _⟩ := List.findIdx?_eq_some_iff_getElem.1 hfd
        exact ⟨_, List.getElem?_eq_getElem hi⟩
      · cases hfd
    have HR : Keep (secS X nm = txt x.sc) := ⟨by unfold secS; rw [hfd]; simp [hx]⟩
    rw [HR.out, show (some i : Option Nat).isSome = true from rfl]
    obtain ⟨hi, _⟩ := List.getElem?_eq_some_iff.1 hx
    have hxl := ok.a1 x (List.mem_of_getElem? hx)
    obtain ⟨n, hn⟩ : ∃ n, X.A.length = n := ⟨_, rfl⟩
    rw [hn] at hi c5 hF
    have hi0 : (0 : Int) ≤ (i : Int) := by omega
    have hi1 : (i : Int) < (n : Nat) := by omega
    have hti : ((i : Nat) : Int).toNat = i := by omega
    have HX := Keep.mk (And.intro hx hn)
    have HXL := Keep.mk hxl
    clear h hA hfd hx hxl hn ok
    go_enter Tryd.func11, Tryd.ntmps11
    go_wp2_with fail
    refine hF.mono ?_
    rintro e w1 ⟨rfl, g1⟩
    obtain ⟨c5', hA1⟩ := HC.out w1 g1
    obtain ⟨a', cap', e1, hq⟩ := hA1.o
    injection e1 with e2 e3 e4
    obtain ⟨g, hg, hq⟩ := hq (by rw [HX.out.2]; omega)
    rw [← e2] at hg
    subst hg
    have hrg := hq i x HX.out.1
    have hrk : w1.rangeAt g (i * 33 + 1) (x.sc.map b8) := fun j v hv => by
      have := hrg (j + 1) v (by simpa [acv] using hv)
      rw [show i * 33 + 1 + j = i * 33 + (j + 1) by omega]
      exact this
    rw [HX.out.2] at c5'
    have HRK := Keep.mk hrk
    have hT := text_c x.sc w1 HXL.out
    have HF := Keep.mk (HS.out w1 g1)
    obtain ⟨du, hdu, hdr⟩ : ∃ d, Tryd.prog.underlying 85 = some d ∧ d.isRow = true := ⟨_, Tryd.underlying85, rfl⟩
    have HI85 : Keep ((Tryd.prog.info? 85).map (·.size) = some (x.sc.map b8).length) := ⟨by rw [List.length_map, HXL.out]; kernel_rfl⟩
    clear hF HC hA1 e2 e3 e4 hq hrg hrk c5
    obtain ⟨cs, hcs⟩ : ∃ cs, x.sc.map b8 = cs := ⟨_, rfl⟩
    rw [hcs] at HRK HI85 hT
    obtain ⟨tx, htx⟩ : ∃ tx, txt x.sc = tx := ⟨_, rfl⟩
    rw [htx] at hT
    have HTX := Keep.mk htx
    clear hcs htx HXL HX
    go_wp2_with (first
      | (show wpList _ _ _ ({ dst := _, op := Op.load 85 _, type := _, pos := _, after := _, guard := _ } :: _) _ _
         refine wpList_load_mid rfl 85 _ rfl _ _ rfl _ _ HRK.out hdu hdr HI85.out ?_))
    refine hT.mono ?_
    rintro e w2 ⟨rfl, g2⟩
    have HF2 := Keep.mk (HF.out.grown g2)
    clear hT g2 HF HS
    go_wp2_with fail
    go_ret2
    rw [HTX.out]
    exact ⟨rfl, HF2.out⟩
end Go.Proofs.YtplcicbpkbamnaaDoor.Lo

/- lobby: a session is looked for; Next, Key, Check, Token, Sent. -/
namespace Go.Proofs.YtplcicbpkbamnaaDoor.Lo
open Go Go.RowKit Go.Maps

/-- the session of a number -/
def fds (X : Lb) (k : Nat) : Option Se := X.S.find? fun s => decide (s.num = k)
/-- a session is another -/
def upd (X : Lb) (k : Nat) (s' : Se) : Lb := { X with S := X.S.map fun s => if s.num = k then s' else s }
theorem map_same {S1 : List Se} {k : Nat} {s' : Se} (h : k ∉ S1.map Se.num) : (S1.map fun s => if s.num = k then s' else s) = S1 := by
  conv => rhs; rw [← List.map_id S1]
  refine List.map_congr_left fun s hs => ?_
  have e : ¬ s.num = k := fun e => h (e ▸ List.mem_map_of_mem hs)
  rw [if_neg e]; rfl
theorem lob_at {w0 W : World} {l : List As} {lb : Nat} {X : Lb} (h : Sep w0 W (lobA lb X :: l)) (ok : LbOk X) (k : Nat) (hk : k < 18446744073709551616) :
    ∃ mb, W.cell? ⟨lb, 7, none⟩ = some (.map (some mb)) ∧ ((fds X k = none ∧ (Instr.lookup 78 (.map (some mb)) (uv k) true).run Tryd.prog W = .ok (.tuple #[np, .bool false]) W) ∨
      ∃ b s hole, fds X k = some s ∧ s ∈ X.S ∧ s.num = k ∧ (Instr.lookup 78 (.map (some mb)) (uv k) true).run Tryd.prog W = .ok (.tuple #[pt b, .bool true]) W ∧ Sep w0 W (boxA b (sev X.r X.u s) 97 :: hole) ∧
        ∀ W' s', s'.num = k → Sep w0 W' (boxA b (sev X.r X.u s') 97 :: hole) → Sep w0 W' (lobA lb (upd X k s') :: l)) := by
  obtain ⟨⟨v, mb, P⟩, h⟩ := h.opn
  have hP : P.map (fun p => p.2) = X.S := h.fact k0m
  have c7 : W.cell? ⟨lb, 7, none⟩ = some (.map (some mb)) := (h.boxGet k1m).cellv 7 _ rfl
  have hl := (h.mapGet k3m).look k hk
  refine ⟨mb, c7, ?_⟩
  have hkeys : Tb.keys (P.map fun p => (p.2.num, p.1)) = X.S.map Se.num := by
    rw [← hP]; simp [Tb.keys, Function.comp_def]
  cases hq : Tb.look (P.map fun p => (p.2.num, p.1)) k with
  | none =>
    left
    have hn := Tb.look_none.1 hq
    rw [hkeys] at hn
    refine ⟨?_, ?_⟩
    · unfold fds
      rw [List.find?_eq_none]
      intro s hs
      simp only [decide_eq_true_eq]
      exact fun e => hn (e ▸ List.mem_map_of_mem hs)
    · simp only at hl
      rw [hq] at hl
      exact hl
  | some b =>
    right
    obtain ⟨A, C, hM, hA⟩ := Tb.look_split hq
    obtain ⟨P1, P2', rfl, hP1, hP2⟩ := List.map_eq_append_iff.1 hM
    obtain ⟨p, P2, rfl, hp, hP2⟩ := List.map_eq_cons_iff.1 hP2
    obtain ⟨pb, s⟩ := p
    simp only [Prod.mk.injEq] at hp
    obtain ⟨hs, rfl⟩ := hp
    have hS : X.S = P1.map (fun p => p.2) ++ s :: P2.map (fun p => p.2) := by rw [← hP]; simp
    have hnd := ok.nd
    rw [hS, List.map_append, List.map_cons] at hnd
    obtain ⟨n1, n2, n3⟩ := List.nodup_append.1 hnd
    obtain ⟨n4, n5⟩ := List.nodup_cons.1 n2
    have hk1 : k ∉ (P1.map (fun p => p.2)).map Se.num := fun q => n3 k q k (by rw [hs]; exact List.mem_cons_self ..) rfl
    have hk2 : k ∉ (P2.map (fun p => p.2)).map Se.num := by rw [← hs]; exact n4
    simp only at hl
    rw [hq] at hl
    refine ⟨pb, s, boxA lb [iv (X.most : Nat), uv X.idle, iv X.r, iv X.u, iv (16 * X.u), v, uv X.next, .map (some mb)] 80 :: rowV 87 33 v X.A.length (acs X.A) :: mapA mb (P1.map (fun p => (p.2.num, p.1)) ++ (k, pb) :: P2.map (fun p => (p.2.num, p.1))) :: ((P1.map fun p => boxA p.1 (sev X.r X.u p.2) 97) ++ ((P2.map fun p => boxA p.1 (sev X.r X.u p.2) 97) ++ l)), ?_, by rw [hS]; simp, hs, hl, ?_, ?_⟩
    · unfold fds
      rw [hS, List.find?_append, List.find?_cons]
      have e1 : (P1.map (fun p => p.2)).find? (fun s => decide (s.num = k)) = none := by
        rw [List.find?_eq_none]
        intro z hz
        simp only [decide_eq_true_eq]
        exact fun e => hk1 (e ▸ List.mem_map_of_mem hz)
      rw [e1, hs]
      simp
    · have h1 := h.tail
      simp only [List.map_append, List.map_cons, hs] at h1
      have e : (boxA lb [iv (X.most : Nat), uv X.idle, iv X.r, iv X.u, iv (16 * X.u), v, uv X.next, .map (some mb)] 80 :: rowV 87 33 v X.A.length (acs X.A) :: mapA mb (P1.map (fun p => (p.2.num, p.1)) ++ (k, pb) :: P2.map (fun p => (p.2.num, p.1))) :: ((P1.map fun p => boxA p.1 (sev X.r X.u p.2) 97) ++ boxA pb (sev X.r X.u s) 97 :: (P2.map fun p => boxA p.1 (sev X.r X.u p.2) 97))) ++ l = ([boxA lb [iv (X.most : Nat), uv X.idle, iv X.r, iv X.u, iv (16 * X.u), v, uv X.next, .map (some mb)] 80, rowV 87 33 v X.A.length (acs X.A), mapA mb (P1.map (fun p => (p.2.num, p.1)) ++ (k, pb) :: P2.map (fun p => (p.2.num, p.1)))] ++ (P1.map fun p => boxA p.1 (sev X.r X.u p.2) 97)) ++ boxA pb (sev X.r X.u s) 97 :: ((P2.map fun p => boxA p.1 (sev X.r X.u p.2) 97) ++ l) := by simp
      have h2 : Sep w0 W (([boxA lb [iv (X.most : Nat), uv X.idle, iv X.r, iv X.u, iv (16 * X.u), v, uv X.next, .map (some mb)] 80, rowV 87 33 v X.A.length (acs X.A), mapA mb (P1.map (fun p => (p.2.num, p.1)) ++ (k, pb) :: P2.map (fun p => (p.2.num, p.1)))] ++ (P1.map fun p => boxA p.1 (sev X.r X.u p.2) 97)) ++ boxA pb (sev X.r X.u s) 97 :: ((P2.map fun p => boxA p.1 (sev X.r X.u p.2) 97) ++ l)) := by
        rw [← e]
        refine h1.perm (List.Perm.of_eq ?_)
        simp
      have h3 := fr1 _ h2
      simpa using h3
    · intro W' s' hs' hS'
      have h3 : Sep w0 W' (boxA pb (sev X.r X.u s') 97 :: (([boxA lb [iv (X.most : Nat), uv X.idle, iv X.r, iv X.u, iv (16 * X.u), v, uv X.next, .map (some mb)] 80, rowV 87 33 v X.A.length (acs X.A), mapA mb (P1.map (fun p => (p.2.num, p.1)) ++ (k, pb) :: P2.map (fun p => (p.2.num, p.1)))] ++ (P1.map fun p => boxA p.1 (sev X.r X.u p.2) 97)) ++ ((P2.map fun p => boxA p.1 (sev X.r X.u p.2) 97) ++ l))) := by simpa using hS'
      have h4 := bk1 _ h3
      refine Sep.cls (lobL lb (upd X k s')) (v, mb, P1 ++ (pb, s') :: P2) ?_
      have hU : (P1 ++ (pb, s') :: P2).map (fun p => p.2) = (upd X k s').S := by
        simp only [upd, hS, List.map_append, List.map_cons]
        rw [map_same hk1, map_same hk2, if_pos hs]
      have h5 := h4.know hU
      refine h5.perm (List.Perm.of_eq ?_)
      simp [lobL, upd, hs']
set_option maxHeartbeats 2000000 in
theorem next_c (w0 W : World) (l : List As) (lb : Nat) (X : Lb) (h : Sep w0 W (lobA lb X :: l)) : Calls Tryd.prog 26 #[pt lb] W fun e W' => e = .returned (uv X.next) ∧ W' = W := by
  obtain ⟨⟨v, mb, P⟩, h⟩ := h.opn
  have c6 : W.cell? ⟨lb, 6, none⟩ = some (uv X.next) := (h.boxGet k1m).cellv 6 _ rfl
  clear h
  go_enter Tryd.func26, Tryd.ntmps26
  go_wp2_with fail
  go_ret
  exact ⟨rfl, rfl⟩
theorem sev_len {r u : Int} {s : Se} (h : s.key.length = 32) : (sev r u s).length = 45 := by simp [sev, lvc, h]
theorem sev_get {r u : Int} {s : Se} (h : s.key.length = 32) (j : Nat) (v : Value) (hv : [uv s.wh, uv s.wb, iv r, iv u, iv s.y][j]? = some v) : (sev r u s)[40 + j]? = some v := by
  unfold sev
  rw [List.getElem?_append_right (by simp [lvc, h])]
  simp only [lvc, List.length_append, List.length_map, List.length_cons, List.length_nil, h]
  rw [show 40 + j - (0 + 1 + 1 + 1 + 1 + 1 + 1 + 1 + (0 + 1) + 32) = j by omega]
  exact hv
theorem sev_key {r u : Int} {s : Se} (h : s.key.length = 32) {w : World} {b : Nat} (hh : Has w b (sev r u s) 97) : w.rangeAt b 8 (s.key.map b8) := by
  intro j v hv
  have hj : j < 32 := by have := (List.getElem?_eq_some_iff.1 hv).1; rw [List.length_map, h] at this; exact this
  refine hh.cellv (8 + j) v ?_
  unfold sev
  rw [List.getElem?_append_left (by simp [lvc, h]; omega), List.getElem?_append_right (by simp [lvc])]
  simp only [lvc, List.length_append, List.length_cons, List.length_nil]
  rw [show 8 + j - (0 + 1 + 1 + 1 + 1 + 1 + 1 + 1 + (0 + 1)) = j by omega]
  exact hv
/-- what Key, Check, Token tell -/
def keyS (X : Lb) (k : Nat) : ByteArray := ((fds X k).map fun s => txt s.key).getD ⟨#[]⟩
def chkS (X : Lb) (k q : Nat) : Int := ((fds X k).map fun s => ((Wi.chk s.wh s.wb q : Nat) : Int)).getD 122
def tokS (X : Lb) (k : Nat) : Bool := ((fds X k).map fun s => decide (0 < s.y / 16)).getD false
set_option maxRecDepth 100000 in
set_option maxHeartbeats 8000000 in
theorem key_c (w0 W : World) (l : List As) (lb : Nat) (X : Lb) (k : Nat) (h : Sep w0 W (lobA lb X :: l)) (ok : LbOk X) (hk : k < 18446744073709551616) :
    Calls Tryd.prog 17 #[pt lb, uv k] W fun e W' => e = .returned (.tuple #[.string (keyS X k), .bool (fds X k).isSome]) ∧ Sep w0 W' (lobA lb X :: l) := by
  have HS : Keep (∀ W', W.grownBy W' none → Sep w0 W' (lobA lb X :: l)) := ⟨fun W' g => h.grown g⟩
  obtain ⟨mb, c7, hc⟩ := lob_at h ok k hk
  rcases hc with ⟨hf, hlk⟩ | ⟨b, s, hole, hf, hm, hn, hlk, hS, _⟩
  · have HR : Keep (keyS X k = ⟨#[]⟩ ∧ (fds X k).isSome = false) := ⟨by unfold keyS; rw [hf]; rfl, by rw [hf]; rfl⟩
    have HF := Keep.mk h
    clear h hf ok HS
    go_enter Tryd.func17, Tryd.ntmps17
    go_wp2_with fail
    go_ret2
    rw [HR.out.1, HR.out.2]
    exact ⟨rfl, HF.out⟩
  · have HR : Keep (keyS X k = txt s.key ∧ (fds X k).isSome = true) := ⟨by unfold keyS; rw [hf]; rfl, by rw [hf]; rfl⟩
    have hkl := (ok.s s hm).2.2.2.1
    have HRK := Keep.mk (sev_key hkl (hS.boxGet k0m))
    have hT := text_c s.key W hkl
    obtain ⟨du, hdu, hdr⟩ : ∃ d, Tryd.prog.underlying 85 = some d ∧ d.isRow = true := ⟨_, Tryd.underlying85, rfl⟩
    have HI85 : Keep ((Tryd.prog.info? 85).map (·.size) = some (s.key.map b8).length) := ⟨by rw [List.length_map, hkl]; kernel_rfl⟩
    obtain ⟨cs, hcs⟩ : ∃ cs, s.key.map b8 = cs := ⟨_, rfl⟩
    rw [hcs] at HRK HI85 hT
    obtain ⟨tx, htx⟩ : ∃ tx, txt s.key = tx := ⟨_, rfl⟩
    rw [htx] at hT HR
    clear h hf ok hm hn hS hkl hcs htx
    go_enter Tryd.func17, Tryd.ntmps17
    go_wp2_with (first
      | (show wpList _ _ _ ({ dst := _, op := Op.load 85 _, type := _, pos := _, after := _, guard := _ } :: _) _ _
         refine wpList_load_mid rfl 85 _ rfl _ _ rfl _ _ HRK.out hdu hdr HI85.out ?_))
    refine hT.mono ?_
    rintro e w2 ⟨rfl, g2⟩
    have HF2 := Keep.mk (HS.out w2 g2)
    clear hT g2 HS
    go_wp2_with fail
    go_ret2
    rw [HR.out.1, HR.out.2]
    exact ⟨rfl, HF2.out⟩
set_option maxRecDepth 100000 in
set_option maxHeartbeats 8000000 in
theorem chk_c (w0 W : World) (l : List As) (lb : Nat) (X : Lb) (k q : Nat) (h : Sep w0 W (lobA lb X :: l)) (ok : LbOk X) (hk : k < 18446744073709551616) (hq : q < 18446744073709551616) :
    Calls Tryd.prog 23 #[pt lb, uv k, uv q] W fun e W' => e = .returned (iv (chkS X k q)) ∧ Sep w0 W' (lobA lb X :: l) := by
  have HS : Keep (∀ W', W.grownBy W' none → Sep w0 W' (lobA lb X :: l)) := ⟨fun W' g => h.grown g⟩
  obtain ⟨mb, c7, hc⟩ := lob_at h ok k hk
  rcases hc with ⟨hf, hlk⟩ | ⟨b, s, hole, hf, hm, hn, hlk, hS, _⟩
  · have HR : Keep (chkS X k q = 122) := ⟨by unfold chkS; rw [hf]; rfl⟩
    have HF := Keep.mk h
    clear h hf ok HS
    go_enter Tryd.func23, Tryd.ntmps23
    go_wp2_with fail
    go_ret
    rw [HR.out]
    exact ⟨rfl, HF.out⟩
  · have HR : Keep (chkS X k q = ((Wi.chk s.wh s.wb q : Nat) : Int)) := ⟨by unfold chkS; rw [hf]; rfl⟩
    obtain ⟨_, _, _, hkl, _, _, _, _, h1, h2, _⟩ := ok.s s hm
    have d0 : W.cell? ⟨b, 40, none⟩ = some (uv s.wh) := (hS.boxGet k0m).cellv 40 _ (sev_get hkl 0 _ rfl)
    have d1 : W.cell? ⟨b, 41, none⟩ = some (uv s.wb) := (hS.boxGet k0m).cellv 41 _ (sev_get hkl 1 _ rfl)
    have hT := Wi.check_c s.wh s.wb q W h1 h2 hq
    generalize Wi.chk s.wh s.wb q = z at *
    generalize s.wh = wh at *
    generalize s.wb = wb at *
    clear h hf ok hm hn hS hkl h1 h2
    go_enter Tryd.func23, Tryd.ntmps23
    go_wp2_with fail
    refine hT.mono ?_
    rintro e w2 ⟨rfl, g2⟩
    have HF2 := Keep.mk (HS.out w2 g2)
    clear hT g2 HS
    go_wp2_with fail
    go_ret
    rw [HR.out]
    exact ⟨rfl, HF2.out⟩
theorem bko {r u : Int} {X : Lb} {s : Se} {W : World} {b : Nat} (ok : LbOk X) (hm : s ∈ X.S) (hr : X.r = r) (hu : X.u = u) (hh : Has W b (sev r u s) 97) : Bu.BK W b 42 (sev r u s) r u s.y := by
  obtain ⟨_, _, _, hkl, _, _, _, _, _, _, h3, h4, _⟩ := ok.s s hm
  obtain ⟨o1, o2, o3, o4⟩ := ok.r
  subst hr hu
  exact ⟨hh, sev_get hkl 2 _ rfl, sev_get hkl 3 _ rfl, sev_get hkl 4 _ rfl, o1, o2, o3, o4, h3, h4⟩
set_option maxRecDepth 100000 in
set_option maxHeartbeats 8000000 in
theorem tok_c (w0 W : World) (l : List As) (lb : Nat) (X : Lb) (k : Nat) (h : Sep w0 W (lobA lb X :: l)) (ok : LbOk X) (hk : k < 18446744073709551616) :
    Calls Tryd.prog 22 #[pt lb, uv k] W fun e W' => e = .returned (.bool (tokS X k)) ∧ W' = W := by
  obtain ⟨mb, c7, hc⟩ := lob_at h ok k hk
  rcases hc with ⟨hf, hlk⟩ | ⟨b, s, hole, hf, hm, hn, hlk, hS, _⟩
  · have HR : Keep (tokS X k = false) := ⟨by unfold tokS; rw [hf]; rfl⟩
    clear h hf ok
    go_enter Tryd.func22, Tryd.ntmps22
    go_wp2_with fail
    go_ret
    rw [HR.out]
    exact ⟨rfl, rfl⟩
  · have HR : Keep (tokS X k = decide (0 < s.y / 16)) := ⟨by unfold tokS; rw [hf]; rfl⟩
    have hT := Bu.left_c b 42 _ X.r X.u s.y W (bko ok hm rfl rfl (hS.boxGet k0m))
    generalize s.y / 16 = z at *
    clear h hf ok hm hn hS
    go_enter Tryd.func22, Tryd.ntmps22
    go_wp2_with fail
    refine hT.mono ?_
    rintro e w2 ⟨rfl, hw⟩
    subst w2
    clear hT
    go_wp2_with fail
    go_ret
    rw [HR.out]
    exact ⟨rfl, rfl⟩
end Go.Proofs.YtplcicbpkbamnaaDoor.Lo

