import Derived.Test.YtobdcngjpgndiabDoorD2
import Derived.Test.YtobdcngjpgndiabDoorBRP2
import Derived.Test.YtobdcngjpgndiabDoorBRA3
import Derived.Test.YtobdcngjpgndiabDoorBA7
import Derived.OwnWalk
import Derived.Test.YtobdcngjpgndiabDoorC1
import Derived.Test.YtobdcngjpgndiabDoorC5
import Derived.Test.YtobdcngjpgndiabDoorDr
import Derived.Test.YtobdcngjpgndiabDoorK1
/- both readings of a text -/
namespace Go.Proofs.YtobdcngjpgndiabDoor.Bo
open Go Go.RowKit

set_option maxHeartbeats 8000000 in
set_option maxRecDepth 100000 in
theorem both_c (w : World) (s : ByteArray) (hs : s.size ≤ 1048576) : Calls Tryd.prog 4 #[.string s] w fun e w' => w.grownBy w' none ∧ (e = .returned (.tuple #[.pointer none, .pointer none, .bool true]) ∨ ∃ kb kk L, spn L ≠ [] ∧ e = .returned (.tuple #[pt kb, pt kk, .bool true]) ∧ Bd w' (pt kb) L ∧ RB w' (pt kk) L) := by
  have hP := parse_c w s
  have HR := Keep.mk (fun W => rparse_c W s hs)
  clear hs
  generalize lns s = L at *
  go_enter Tryd.func4, Tryd.ntmps4
  go_wp2_with fail
  refine hP.mono ?_
  rintro e w1 ⟨g1, h1⟩
  have HG := Keep.mk g1
  have hR := HR.out w1
  clear hP g1 HR
  rcases h1 with ⟨h1, rfl⟩ | ⟨h1, h2, rfl⟩ | ⟨h1, h2, v, rfl, hB⟩
  · go_wp2_with fail
    refine hR.mono ?_
    rintro e w2 ⟨g2, h3⟩
    have HG2 := Keep.mk (HG.out.trans g2)
    clear hR g2
    rcases h3 with ⟨_, rfl⟩ | ⟨h3, _⟩ | ⟨h3, _⟩
    · go_wp2_with fail
      go_ret3
      exact ⟨HG2.out, .inl rfl⟩
    · exact absurd h3 h1
    · exact absurd h3 h1
  · go_wp2_with fail
    refine hR.mono ?_
    rintro e w2 ⟨g2, h3⟩
    have HG2 := Keep.mk (HG.out.trans g2)
    clear hR g2
    rcases h3 with ⟨h3, _⟩ | ⟨_, _, rfl⟩ | ⟨_, h3, _⟩
    · exact absurd h1 h3
    · go_wp2_with fail
      go_ret3
      exact ⟨HG2.out, .inl rfl⟩
    · exact absurd h2 h3
  · obtain ⟨kb, _, _, hv, _⟩ := hB.o
    subst hv
    have HB := Keep.mk hB
    clear hB
    go_wp2_with fail
    refine hR.mono ?_
    rintro e w2 ⟨g2, h3⟩
    have HG2 := Keep.mk (HG.out.trans g2)
    have HB2 := Keep.mk (HB.out.kept g2)
    clear hR g2 HB
    rcases h3 with ⟨h3, _⟩ | ⟨_, h3, _⟩ | ⟨_, _, v, rfl, hB⟩
    · exact absurd h1 h3
    · exact absurd h3 h2
    · obtain ⟨kk, _, _, hv, _⟩ := hB.o
      subst hv
      have HK := Keep.mk hB
      have HE := Keep.mk h2
      clear hB h1 h2
      go_wp2_with fail
      go_ret3
      exact ⟨HG2.out, .inr ⟨_, _, L, HE.out, rfl, HB2.out, HK.out⟩⟩
end Go.Proofs.YtobdcngjpgndiabDoor.Bo

/- a board stays when another block than its own is written -/
namespace Go.Proofs.YtobdcngjpgndiabDoor.Bo
open Go Go.RowKit

theorem Bd.keptX {w w' : World} {v : Value} {L : Bo} {xb : Nat} {c : Cr} {T : TypeId} (h : Bd w v L) (hh : Has w xb (crv c) T) (g : w.grownBy w' (some xb)) : Bd w' v L := by
  obtain ⟨kb, kr, cr, rfl, c0, c1, c2, hr⟩ := h.o
  have x0 : w.cell? ⟨xb, 0, none⟩ = some (iv c.pl) := hh.cellv 0 _ rfl
  have x2 : w.cell? ⟨xb, 2, none⟩ = some (iv c.x) := hh.cellv 2 _ rfl
  have n1 : kb ≠ xb := fun e => by subst e; rw [c2] at x2; cases x2
  have hl : 0 < L.length := by have := h.sh.1; omega
  have n2 : kr ≠ xb := fun e => by
    subst e
    obtain ⟨k, c', q1, _⟩ := hr 0 _ (List.getElem?_eq_getElem hl)
    rw [q1] at x0; cases x0
  refine ⟨h.sh, h.ok, kb, kr, cr, rfl, g.cell c0 (by simpa using n1), g.cell c1 (by simpa using n1), g.cell c2 (by simpa using n1), fun y l hy => ?_⟩
  obtain ⟨k, c', q1, q2⟩ := hr y l hy
  refine ⟨k, c', g.cell q1 (by simpa using n2), fun x u hu => g.cell (q2 x u hu) ?_⟩
  have n3 : k ≠ xb := fun e => by
    subst e
    have hx : 0 < l.length := by
      have := (List.getElem?_eq_some_iff.1 hu).1; omega
    have := q2 0 _ (List.getElem?_eq_getElem hx)
    rw [this] at x0; cases x0
  simpa using n3
theorem RB.keptX {w w' : World} {v : Value} {L : Bo} {xb : Nat} {c : Cr} {T : TypeId} (h : RB w v L) (hh : Has w xb (crv c) T) (g : w.grownBy w' (some xb)) : RB w' v L := by
  obtain ⟨kb, kr, cr, rfl, c0, hr⟩ := h.o
  have x0 : w.cell? ⟨xb, 0, none⟩ = some (iv c.pl) := hh.cellv 0 _ rfl
  have n1 : kb ≠ xb := fun e => by subst e; rw [c0] at x0; cases x0
  have hl : 0 < L.length := by have := h.sh.1; omega
  have n2 : kr ≠ xb := fun e => by
    subst e
    obtain ⟨k, c', _, q1, _⟩ := hr 0 hl
    rw [q1] at x0; cases x0
  refine ⟨h.sh, h.ok, kb, kr, cr, rfl, g.cell c0 (by simpa using n1), fun y hy => ?_⟩
  obtain ⟨k, c', q0, q1, q2⟩ := hr y hy
  refine ⟨k, c', q0, g.cell q1 (by simpa using n2), fun x hx => g.cell (q2 x hx) ?_⟩
  have n3 : k ≠ xb := fun e => by
    subst e
    have := q2 0 (by omega)
    rw [this] at x0; cases x0
  simpa using n3
end Go.Proofs.YtobdcngjpgndiabDoor.Bo

/- what a drive leaves as it was, and how far it goes -/
namespace Go.Proofs.YtobdcngjpgndiabDoor.Bo
open Go Go.RowKit

/-- what a drive does not touch -/
structure Kpt (c d : Cr) : Prop where
  pl : d.pl = c.pl
  nm : d.nm = c.nm
  he : d.he = c.he
  am : d.am = c.am
  co : d.co = c.co
  wa : d.wa = c.wa
  sp : d.sp = c.sp
  sc : d.sc = c.sc
theorem Kpt.refl (c : Cr) : Kpt c c := ⟨rfl, rfl, rfl, rfl, rfl, rfl, rfl, rfl⟩
theorem Kpt.trans {a b c : Cr} (h : Kpt a b) (k : Kpt b c) : Kpt a c := ⟨k.pl.trans h.pl, k.nm.trans h.nm, k.he.trans h.he, k.am.trans h.am, k.co.trans h.co, k.wa.trans h.wa, k.sp.trans h.sp, k.sc.trans h.sc⟩
theorem kpt_B (c : Cr) (i : It) : Kpt c (stB c i) := by unfold stB; split <;> exact ⟨rfl, rfl, rfl, rfl, rfl, rfl, rfl, rfl⟩
theorem kpt_X (L : Bo) (c : Cr) : Kpt c (stX L c) := by unfold stX; split <;> exact ⟨rfl, rfl, rfl, rfl, rfl, rfl, rfl, rfl⟩
theorem kpt_Y (L : Bo) (c : Cr) : Kpt c (stY L c) := by unfold stY; split <;> exact ⟨rfl, rfl, rfl, rfl, rfl, rfl, rfl, rfl⟩
/-- the car ahead of its moves -/
def ahd (c : Cr) (i : It) : Cr := stL (stS (stP (stB (stH c i) i) (pwB (stH c i) i (pw0 i))))
theorem kpt_ahd (c : Cr) (i : It) : Kpt c (ahd c i) := by
  have h := kpt_B (stH c i) i
  exact ⟨h.pl, h.nm, h.he, h.am, h.co, h.wa, h.sp, h.sc⟩
theorem ahd_at (c : Cr) (i : It) : (ahd c i).x = c.x ∧ (ahd c i).y = c.y ∧ (ahd c i).hd = (stH c i).hd := by
  have h := stB_f (stH c i) i
  exact ⟨h.2.2.1, h.2.2.2.1, h.2.2.2.2⟩
theorem ahd_sp (c : Cr) (i : It) : (-65536 ≤ (ahd c i).sx ∧ (ahd c i).sx ≤ 65536) ∧ (-65536 ≤ (ahd c i).sy ∧ (ahd c i).sy ≤ 65536) := ⟨kz16 _, kz16 _⟩
theorem ahd_en (c : Cr) (i : It) (h : In c.en) : In (ahd c i).en := by
  show In (stB (stH c i) i).en
  unfold stB
  split
  · rename_i hb
    unfold bst at hb
    simp only [Bool.and_eq_true, decide_eq_true_eq] at hb
    have h4 : 4 ≤ c.en := hb.2
    obtain ⟨h1, h2⟩ := h
    show In (c.en - 4)
    exact ⟨by omega, by omega⟩
  · exact h
theorem drv_go {L : Bo} {c : Cr} (h : ¬ 0 < c.wa) (i : It) : drvC L c i = stY L (stX L (ahd c i)) := by unfold drvC; rw [if_neg h]; rfl
theorem drv_kpt (L : Bo) (c : Cr) (i : It) : Kpt c (drvC L c i) := by
  by_cases h : 0 < c.wa
  · unfold drvC; rw [if_pos h]; exact Kpt.refl c
  · rw [drv_go h]; exact ((kpt_ahd c i).trans (kpt_X L _)).trans (kpt_Y L _)
theorem drv_wreck {L : Bo} {c : Cr} (h : 0 < c.wa) (i : It) : drvC L c i = c := by unfold drvC; rw [if_pos h]
/-- free stays free -/
theorem drv_free {L : Bo} {c : Cr} (i : It) (h : ¬ blk L (c.x, c.y) 98304) : ¬ blk L ((drvC L c i).x, (drvC L c i).y) 98304 := by
  by_cases hw : 0 < c.wa
  · rw [drv_wreck hw]; exact h
  rw [drv_go hw]
  obtain ⟨hx, hy, _⟩ := ahd_at c i
  have h1 : ¬ blk L ((stX L (ahd c i)).x, (stX L (ahd c i)).y) 98304 := by
    unfold stX
    split
    · show ¬ blk L ((ahd c i).x, (ahd c i).y) 98304
      rw [hx, hy]; exact h
    · rename_i hb
      exact hb
  generalize stX L (ahd c i) = d at h1
  unfold stY
  split
  · exact h1
  · rename_i hb
    exact hb
theorem in64 (L : Bo) (he : ev L) {x y : Int} (h : ¬ blk L (x, y) 98304) : (0 ≤ x ∧ x ≤ 33554432) ∧ (0 ≤ y ∧ y ≤ 33554432) := by
  have b1 : 3 ≤ wd L ∧ wd L ≤ 64 := he.2.1
  have b2 : 3 ≤ L.length ∧ L.length ≤ 64 := he.1
  unfold blk at h
  rw [if_neg (by omega)] at h
  simp only [not_or, Decidable.not_not] at h
  obtain ⟨⟨q1, q2⟩, ⟨q3, q4⟩, _⟩ := h
  exact ⟨⟨by omega, by omega⟩, ⟨by omega, by omega⟩⟩
theorem addZ_mid {a s : Int} (h : 0 ≤ addZ a s ∧ addZ a s ≤ 33554432) : addZ a s = a + s := by
  unfold addZ at h ⊢
  rw [bd_eq] at h ⊢
  split at h
  · omega
  · rename_i h1
    rw [if_neg h1]
    split at h
    · omega
    · rename_i h2
      rw [if_neg h2]
/-- how far it goes -/
structure Far (c d : Cr) : Prop where
  sx : -65536 ≤ d.sx ∧ d.sx ≤ 65536
  sy : -65536 ≤ d.sy ∧ d.sy ≤ 65536
  hd : 0 ≤ d.hd ∧ d.hd ≤ 255
  x : d.x = c.x ∨ (-65536 ≤ d.x - c.x ∧ d.x - c.x ≤ 65536)
  y : d.y = c.y ∨ (-65536 ≤ d.y - c.y ∧ d.y - c.y ≤ 65536)
theorem drv_far {L : Bo} (he : ev L) {c : Cr} (h : ¬ 0 < c.wa) (i : It) : Far c (drvC L c i) := by
  rw [drv_go h]
  obtain ⟨hx, hy, hh⟩ := ahd_at c i
  obtain ⟨s1, s2⟩ := ahd_sp c i
  have hhd : 0 ≤ (ahd c i).hd ∧ (ahd c i).hd ≤ 255 := by
    rw [hh]
    show 0 ≤ (c.hd + min (max i.tu (-8)) 8) % 256 ∧ (c.hd + min (max i.tu (-8)) 8) % 256 ≤ 255
    omega
  generalize ahd c i = a at *
  have hX : (-65536 ≤ (stX L a).sx ∧ (stX L a).sx ≤ 65536) ∧ (stX L a).sy = a.sy ∧ (stX L a).hd = a.hd ∧ ((stX L a).x = c.x ∨ (-65536 ≤ (stX L a).x - c.x ∧ (stX L a).x - c.x ≤ 65536)) ∧ (stX L a).y = c.y := by
    unfold stX
    split
    · refine ⟨?_, rfl, rfl, .inl hx, hy⟩
      show -65536 ≤ -(a.sx / 2) ∧ -(a.sx / 2) ≤ 65536
      omega
    · rename_i hb
      refine ⟨s1, rfl, rfl, .inr ?_, hy⟩
      have := addZ_mid (in64 L he hb).1
      show -65536 ≤ addZ a.x a.sx - c.x ∧ addZ a.x a.sx - c.x ≤ 65536
      omega
  obtain ⟨x1, x2, x3, x4, x5⟩ := hX
  generalize stX L a = b at *
  unfold stY
  split
  · refine ⟨x1, ?_, by show 0 ≤ b.hd ∧ b.hd ≤ 255; omega, x4, .inl x5⟩
    show -65536 ≤ -(b.sy / 2) ∧ -(b.sy / 2) ≤ 65536
    omega
  · rename_i hb
    have := addZ_mid (in64 L he hb).2
    refine ⟨x1, by show -65536 ≤ b.sy ∧ b.sy ≤ 65536; omega, by show 0 ≤ b.hd ∧ b.hd ≤ 255; omega, x4, .inr ?_⟩
    show -65536 ≤ addZ b.y b.sy - c.y ∧ addZ b.y b.sy - c.y ≤ 65536
    omega
theorem in_half {s : Int} (h : -65536 ≤ s ∧ s ≤ 65536) : In (-(s / 2)) := ⟨by omega, by omega⟩
theorem drv_ok (L : Bo) {c : Cr} (ok : CrOk c) (i : It) : CrOk (drvC L c i) := by
  by_cases h : 0 < c.wa
  · rw [drv_wreck h]; exact ok
  have k := drv_kpt L c i
  rw [drv_go h] at k ⊢
  obtain ⟨hx, hy, hh⟩ := ahd_at c i
  obtain ⟨s1, s2⟩ := ahd_sp c i
  have hen := ahd_en c i ok.en
  have hhd : In (ahd c i).hd := by
    rw [hh]
    show In ((c.hd + min (max i.tu (-8)) 8) % 256)
    exact ⟨by omega, by omega⟩
  have oX : In (stX L (ahd c i)).x ∧ In (stX L (ahd c i)).y ∧ In (stX L (ahd c i)).sx ∧ (stX L (ahd c i)).sy = (ahd c i).sy ∧ (stX L (ahd c i)).hd = (ahd c i).hd ∧ (stX L (ahd c i)).en = (ahd c i).en := by
    unfold stX
    split
    · exact ⟨by show In (ahd c i).x; rw [hx]; exact ok.x, by show In (ahd c i).y; rw [hy]; exact ok.y, in_half s1, rfl, rfl, rfl⟩
    · exact ⟨addZ_in _ _, by show In (ahd c i).y; rw [hy]; exact ok.y, in_of16 s1, rfl, rfl, rfl⟩
  generalize ahd c i = a at *
  obtain ⟨o1, o2, o3, o4, o5, o6⟩ := oX
  generalize stX L a = b at *
  have oY : In (stY L b).x ∧ In (stY L b).y ∧ In (stY L b).sx ∧ In (stY L b).sy ∧ (stY L b).hd = b.hd ∧ (stY L b).en = b.en := by
    unfold stY
    split
    · exact ⟨o1, o2, o3, by show In (-(b.sy / 2)); rw [o4]; exact in_half s2, rfl, rfl⟩
    · exact ⟨o1, addZ_in _ _, o3, by show In b.sy; rw [o4]; exact in_of16 s2, rfl, rfl⟩
  obtain ⟨y1, y2, y3, y4, y5, y6⟩ := oY
  exact ⟨by rw [k.nm]; exact ok.nm, by rw [k.pl]; exact ok.pl, y1, y2, y3, y4, by rw [y5, o5]; exact hhd, by rw [k.he]; exact ok.he, by rw [y6, o6]; exact hen, by rw [k.am]; exact ok.am, by rw [k.co]; exact ok.co, by rw [k.wa]; exact ok.wa, by rw [k.sp]; exact ok.sp, by rw [k.sc]; exact ok.sc⟩
end Go.Proofs.YtobdcngjpgndiabDoor.Bo

/- CarDrives: the walk -/
namespace Go.Proofs.YtobdcngjpgndiabDoor.Bo
open Go Go.RowKit

theorem wpList_want {P : Program} {ops : Array Oper} {rest : List Oper} {o : Oper} {a : Act} {w : World} {Q : Exit → Act → World → Prop} (hw : Region.wanted o (yielded ops a.tmps) = true)
    (h : ∀ K : Act → World → Prop, (∀ a w, wpList P ops Q rest a w → K a w) → o.wp P a w K Q) : wpList P ops Q (o :: rest) a w :=
  wpList_step fun K hK => by rw [if_pos hw]; exact h K hK
/-- a load under a guard that holds -/
theorem load_g {P : Program} {ops : Array Oper} {rest : List Oper} {op : Oper} {a : Act} {w : World} {Q : Exit → Act → World → Prop} (hw : Region.wanted op (yielded ops a.tmps) = true) (ty : TypeId) (x : Operand) (ho : op.op = .load ty x)
    (b o : Nat) (hx : a.eval x = .pointer (some ⟨b, o, none⟩)) (cs : List Value) (d : TypeDesc) (hc : w.rangeAt b o cs)
    (hu : P.underlying ty = some d) (hd : d.isRow = true) (hi : (P.info? ty).map (·.size) = some cs.length)
    (h : wpList P ops Q rest (a.put op.dst (.agg cs.toArray)) w) : wpList P ops Q (op :: rest) a w :=
  wpList_want hw fun _ hK => wp_load_mid ty x ho b o hx cs d hc hu hd hi (hK _ _ h)
theorem zC14_lit : zC14 = [iv 0, .string ⟨#[]⟩, iv 0, iv 0, iv 0, iv 0, iv 0, iv 0, iv 0, iv 0, iv 0, iv 0, iv 0, iv 0] := rfl
set_option maxRecDepth 100000 in
theorem built34z : Tryd.prog.built 34 [] = some (itv ⟨0, 0, 0, false, false⟩).toArray := by kernel_rfl
set_option maxRecDepth 100000 in
set_option maxHeartbeats 64000000 in
theorem drives_c (w : World) (s : ByteArray) (c0 : Cr) (v : Value) (Ls : List It) (hs : s.size ≤ 1048576) (ok0 : CrOk c0) (hI : Its w v Ls) (hk : Kc w) :
    Calls Tryd.prog 3 #[.string s, .agg (crv c0).toArray, v] w fun e w' => e = .returned (.bool true) ∧ w.grownBy w' none := by
  obtain ⟨du, hdu, hdr⟩ := underC
  obtain ⟨dI, hdI, hdIr⟩ := underI
  have S1 := (Sep.nil w).newBox (crv c0).toArray 25
  obtain ⟨W1, hW1⟩ : ∃ W1, w.alloc (.cells (crv c0).toArray 25) = W1 := ⟨_, rfl⟩
  obtain ⟨xb, hxb⟩ : ∃ xb, w.heap.size = xb := ⟨_, rfl⟩
  rw [hW1, hxb] at S1
  change Sep w W1 [boxA xb (crv c0) 25] at S1
  have hsx : (crv c0).toArray.size = 14 := rfl
  have hBo := both_c W1 s hs
  have HSW := Keep.mk S1
  have HKW := Keep.mk hk
  have HAL := Keep.mk (fun W (g : w.grownBy W none) => alive_c W (hk.kept g))
  obtain ⟨a0, cap, rfl, _⟩ := hI.o
  have hn := hI.n
  have HI := Keep.mk hI
  have HO0 := Keep.mk ok0
  clear S1 hk hI ok0 hs
  obtain ⟨n, hnn⟩ : ∃ n, Ls.length = n := ⟨_, rfl⟩
  rw [hnn] at hn HI
  rw [hnn]
  have HNN := Keep.mk hnn
  clear hnn
  go_enter Tryd.func3, Tryd.ntmps3
  go_wp2_with fail
  refine hBo.mono ?_
  rintro e w1 ⟨g1, h1⟩
  replace HSW := Keep.mk (HSW.out.grown g1)
  clear hBo g1 hW1 hxb
  rcases h1 with rfl | ⟨kb, kk, L, hne, rfl, hB, hR⟩
  · go_wp2_with fail
    refine (HAL.out _ HSW.out.g).mono ?_
    rintro e w2 ⟨rfl, g2⟩
    have HG := Keep.mk (HSW.out.g.trans g2)
    clear g2
    go_wp2_with fail
    go_ret
    exact ⟨rfl, HG.out⟩
  have HBD := Keep.mk (And.intro hB hR)
  clear hB hR hne
  go_wp2_with fail
  refine (HAL.out _ HSW.out.g).mono ?_
  rintro e w2 ⟨rfl, g2⟩
  replace HSW := Keep.mk (HSW.out.grown g2)
  replace HBD := Keep.mk (And.intro (HBD.out.1.kept g2) (HBD.out.2.kept g2))
  clear g2 HAL
  go_wp2_with fail
  go_loopw [10] (fun u wr => ∃ (i : Nat) (c : Cr), i ≤ 200 ∧ u = iv i ∧ Keep (CrOk c) ∧ Keep (Sep w wr [boxA xb (crv c) 25]) ∧ Keep (Bd wr (pt kb) L ∧ RB wr (pt kk) L)) (fun u _ => (200 - intOf u).toNat)
  case atStart => exact ⟨0, c0, by omega, rfl, HO0, HSW, HBD⟩
  case round =>
    obtain ⟨i, c, hi2, rfl, HOC, hR1, hR2⟩ := hrel
    clear HSW HBD
    have HSW := hR1
    have HBD := hR2
    clear hR1 hR2
    have HX : Keep (Has wr xb (crv c) 25) := ⟨HSW.out.boxGet k0m⟩
    have HB : Keep (Sep wr wr []) := ⟨Sep.nil wr⟩
    have hcond : (i < n ∧ i < 200) ∨ ¬ i < n ∨ (i < n ∧ ¬ i < 200) := by omega
    rcases hcond with ⟨hin, h200⟩ | hout
    · have hi1 : (i : Int) < (n : Nat) := by omega
      have hi3 : (i : Int) < 200 := by omega
      have hdi : decide ((i : Int) < (n : Int)) = true := decide_eq_true hi1
      have hd200 : decide ((i : Int) < 200) = true := decide_eq_true hi3
      have hti : ((i : Nat) : Int).toNat = i := by omega
      have hii : IntKind.i64.wrap ((i : Int) + 1) = ((i + 1 : Nat) : Int) := by rw [wi _ (by omega) (by omega)]; omega
      obtain ⟨it, hit⟩ : ∃ it, Ls[i]? = some it := ⟨_, List.getElem?_eq_getElem (by rw [HNN.out]; exact hin)⟩
      obtain ⟨a1, cap1, ea, hcells⟩ := HI.out.o
      obtain ⟨g, o, eg, hcl⟩ := hcells (by rw [HNN.out]; omega)
      injection ea with ea1 ea2 ea3
      subst ea1
      subst eg
      have HIR : Keep (∀ W, wr.grownBy W none → W.rangeAt g (o + i * 5) (itv it)) := ⟨fun W gW j v hv => (HSW.out.g.trans gW).cell (hcl i it hit j v hv) (by simp)⟩
      clear ea2 ea3 hcells hcl hit
      have HDR := Keep.mk (fun W (g : wr.grownBy W none) => drive_c W (pt kb) L c it HOC.out (HBD.out.1.kept g) (HKW.out.kept (HSW.out.g.trans g)))
      have HRD := Keep.mk (fun W (g : wr.grownBy W none) => rdrive_c W (pt kk) L c it HOC.out (HBD.out.2.kept g) (HKW.out.kept (HSW.out.g.trans g)))
      have HOD : Keep (CrOk (drvC L c it)) := ⟨drv_ok L HOC.out it⟩
      generalize drvC L c it = d at *
      go_upto_region 9 with fail
      go_cut [11] (fun sv wx => ∃ nb u, u = wx ∧ sv = pt nb ∧ Keep (Sep wr u [boxA nb (crv d) 25]))
      case first =>
        refine region_X (S := fun w' => Sep wr w' []) [] (by kernel_rfl) (HB.out.grown (gr_drew _ _)) (fun hHeld => ?_)
        replace HB := Keep.mk hHeld
        refine wpAnyX_take (i := 0) (oi := _) (v := ?_) rfl (by kernel_rfl) (by kernel_rfl) (by kernel_rfl) (by kernel_rfl) (by kernel_rfl) (fun _ _ _ h => h) (Or.inl ⟨by rfl, ?_⟩) (by assumption) ?_
        rotate_left
        · (intro w hSw; go_simp; first | done | (with_reducible rfl))
        simp only [Act.put, List.getElem_toArray, List.getElem_cons_zero, List.setIfInBounds_toArray, List.set_cons_zero, List.set_cons_succ]
        refine wpAnyX_take (i := 1) (oi := _) (v := _) rfl (by kernel_rfl) (by kernel_rfl) (by kernel_rfl) (by kernel_rfl) (by kernel_rfl) (fun _ _ _ h => h) (yieldsIf_load_mid (by rfl) 25 _ rfl _ _ rfl _ _ (fun w_ hS_ => (HX.out.kept hS_.g (by simp)).range) hdu hdr (infoC' c)) (by assumption) ?_
        simp only [Act.put, List.getElem_toArray, List.getElem_cons_succ, List.getElem_cons_zero, List.setIfInBounds_toArray, List.set_cons_zero, List.set_cons_succ]
        refine wpAnyX_take (i := 2) (oi := _) (v := ?_) rfl (by kernel_rfl) (by kernel_rfl) (by kernel_rfl) (by kernel_rfl) (by kernel_rfl) (fun _ _ _ h => h) (Or.inl ⟨by rfl, ?_⟩) (by assumption) ?_
        rotate_left
        · (intro w hSw; go_simp; first | done | (with_reducible rfl))
        simp only [Act.put, List.getElem_toArray, List.getElem_cons_succ, List.getElem_cons_zero, List.setIfInBounds_toArray, List.set_cons_zero, List.set_cons_succ]
        refine wpAnyX_take (i := 3) (oi := _) (v := ?_) rfl (by kernel_rfl) (by kernel_rfl) (by kernel_rfl) (by kernel_rfl) (by kernel_rfl) (fun _ _ _ h => h) (Or.inl ⟨by rfl, ?_⟩) (by assumption) ?_
        rotate_left
        · (intro w hSw; go_simp; first | done | (with_reducible rfl))
        simp only [Act.put, List.getElem_toArray, List.getElem_cons_succ, List.getElem_cons_zero, List.setIfInBounds_toArray, List.set_cons_zero, List.set_cons_succ]
        refine wpAnyX_take (i := 4) (oi := _) (v := ?_) rfl (by kernel_rfl) (by kernel_rfl) (by kernel_rfl) (by kernel_rfl) (by kernel_rfl) (fun _ _ _ h => h) (Or.inl ⟨by rfl, ?_⟩) (by assumption) ?_
        rotate_left
        · (intro w hSw; go_simp; first | done | (with_reducible rfl))
        simp only [Act.put, List.getElem_toArray, List.getElem_cons_succ, List.getElem_cons_zero, List.setIfInBounds_toArray, List.set_cons_zero, List.set_cons_succ]
        refine wpAnyX_take (i := 5) (oi := _) (v := _) rfl (by kernel_rfl) (by kernel_rfl) (by kernel_rfl) (by kernel_rfl) (by kernel_rfl) (fun _ _ _ h => h) (yieldsIf_load_mid (by rfl) 34 _ rfl _ _ rfl _ _ (fun w_ hS_ => HIR.out w_ hS_.g) hdI hdIr infoI) (by assumption) ?_
        simp only [Act.put, List.getElem_toArray, List.getElem_cons_succ, List.getElem_cons_zero, List.setIfInBounds_toArray, List.set_cons_zero, List.set_cons_succ]
        obtain ⟨W0, hW0⟩ : ∃ W_, wr.drew = W_ := ⟨_, rfl⟩
        rw [hW0] at HB hHeld ⊢
        clear hW0
        refine wpAnyX_two (i := 6) (j := 7) (by kernel_rfl) rfl rfl (fun K hK => ?_) (fun K hK => ?_)
        · skip
          go_simp
          refine (HRD.out _ HB.out.g).mono ?_
          rintro e wg ⟨rfl, hg⟩
          replace HB := Keep.mk (HB.out.grown hg)
          refine hK.out _ _ HB.out (fun hHeld => ?_)
          clear hK K hg
          refine wpAnyX_one (i := 7) (by kernel_rfl) rfl (fun K hK => ?_)
          have S_ := HB.out.newBox zC14.toArray 25
          obtain ⟨wa, hwa⟩ : ∃ W_, wg.alloc (.cells zC14.toArray 25) = W_ := ⟨_, rfl⟩
          obtain ⟨nb, hnb⟩ : ∃ b_, wg.heap.size = b_ := ⟨_, rfl⟩
          rw [hwa, hnb] at S_
          rw [zC14_lit] at hwa
          replace HB := Keep.mk S_
          clear S_
          go_simp
          refine hK.out _ _ HB.out.tail (fun hHeld => ?_)
          clear hK K
          refine wpAnyX_one (i := 8) (by kernel_rfl) rfl (fun K hK => ?_)
          rw [if_pos (show Region.wanted _ _ = true from rfl)]
          refine wp_store_mid 25 _ _ rfl nb 0 (crv d).toArray rfl rfl ((HB.out.boxGet k0m).there 0 14 (Nat.le_refl _)) infoC (all_oneCell_toArray (crv_one d)) ?_
          have S_ := HB.out.boxTurn ((HB.out.boxGet k0m).setCells (crv d) 0) (gr_sets _ _ _ _)
          rw [over_all zC14 (crv d) rfl] at S_
          refine hK.out _ _ S_.tail (fun hHeld => ?_)
          replace HB := Keep.mk S_
          clear hK K S_
          change Keep (Sep wr (World.setCells wa nb 0 (crv d).toArray.toList) _) at HB
          generalize World.setCells wa nb 0 (crv d).toArray.toList = w9 at HB hHeld ⊢
          simp only [Act.put, List.getElem_toArray, List.getElem_cons_succ, List.getElem_cons_zero]
          refine wpAnyX_done (by kernel_rfl) ?_ _
          clear hHeld
          go_wp2_with fail
          go_meet
          exact ⟨nb, _, rfl, rfl, HB⟩
        · skip
          have S_ := HB.out.newBox zC14.toArray 25
          obtain ⟨wa, hwa⟩ : ∃ W_, W0.alloc (.cells zC14.toArray 25) = W_ := ⟨_, rfl⟩
          obtain ⟨nb, hnb⟩ : ∃ b_, W0.heap.size = b_ := ⟨_, rfl⟩
          rw [hwa, hnb] at S_
          rw [zC14_lit] at hwa
          replace HB := Keep.mk S_
          clear S_
          go_simp
          refine hK.out _ _ HB.out.tail (fun hHeld => ?_)
          clear hK K
          refine wpAnyX_one (i := 6) (by kernel_rfl) rfl (fun K hK => ?_)
          go_simp
          refine (HRD.out _ HB.out.g).mono ?_
          rintro e wg ⟨rfl, hg⟩
          replace HB := Keep.mk (HB.out.grown hg)
          refine hK.out _ _ HB.out.tail (fun hHeld => ?_)
          clear hK K hg
          refine wpAnyX_one (i := 8) (by kernel_rfl) rfl (fun K hK => ?_)
          rw [if_pos (show Region.wanted _ _ = true from rfl)]
          refine wp_store_mid 25 _ _ rfl nb 0 (crv d).toArray rfl rfl ((HB.out.boxGet k0m).there 0 14 (Nat.le_refl _)) infoC (all_oneCell_toArray (crv_one d)) ?_
          have S_ := HB.out.boxTurn ((HB.out.boxGet k0m).setCells (crv d) 0) (gr_sets _ _ _ _)
          rw [over_all zC14 (crv d) rfl] at S_
          refine hK.out _ _ S_.tail (fun hHeld => ?_)
          replace HB := Keep.mk S_
          clear hK K S_
          change Keep (Sep wr (World.setCells wg nb 0 (crv d).toArray.toList) _) at HB
          generalize World.setCells wg nb 0 (crv d).toArray.toList = w9 at HB hHeld ⊢
          simp only [Act.put, List.getElem_toArray, List.getElem_cons_succ, List.getElem_cons_zero]
          refine wpAnyX_done (by kernel_rfl) ?_ _
          clear hHeld
          go_wp2_with fail
          go_meet
          exact ⟨nb, _, rfl, rfl, HB⟩
      case rest =>
      clear HB HRD
      obtain ⟨nb, W6, rfl, rfl, HB⟩ := hcut
      go_upto_region 10 with fail
      go_cut [51] (fun sv wx => ∃ u, u = wx ∧ sv = .bool false ∧ Keep (Sep wr u [boxA nb (crv d) 25]))
      case first =>
        refine region_X (S := fun w' => Sep wr w' [boxA nb (crv d) 25]) [] (by kernel_rfl) (HB.out.grown (gr_drew _ _)) (fun hHeld => ?_)
        replace HB := Keep.mk hHeld
        refine wpAnyX_take (i := 0) (oi := _) (v := ?_) rfl (by kernel_rfl) (by kernel_rfl) (by kernel_rfl) (by kernel_rfl) (by kernel_rfl) (fun _ _ _ h => h) (Or.inl ⟨by rfl, ?_⟩) (by assumption) ?_
        rotate_left
        · (intro w hSw; go_simp; first | done | (with_reducible rfl))
        simp only [Act.put, List.getElem_toArray, List.getElem_cons_zero, List.setIfInBounds_toArray, List.set_cons_zero, List.set_cons_succ]
        refine wpAnyX_take (i := 1) (oi := _) (v := _) rfl (by kernel_rfl) (by kernel_rfl) (by kernel_rfl) (by kernel_rfl) (by kernel_rfl) (fun _ _ _ h => h) (yieldsIf_load_mid (by rfl) 25 _ rfl _ _ rfl _ _ (fun w_ hS_ => (HX.out.kept hS_.g (by simp)).range) hdu hdr (infoC' c)) (by assumption) ?_
        simp only [Act.put, List.getElem_toArray, List.getElem_cons_succ, List.getElem_cons_zero, List.setIfInBounds_toArray, List.set_cons_zero, List.set_cons_succ]
        refine wpAnyX_take (i := 2) (oi := _) (v := ?_) rfl (by kernel_rfl) (by kernel_rfl) (by kernel_rfl) (by kernel_rfl) (by kernel_rfl) (fun _ _ _ h => h) (Or.inl ⟨by rfl, ?_⟩) (by assumption) ?_
        rotate_left
        · (intro w hSw; go_simp; first | done | (with_reducible rfl))
        simp only [Act.put, List.getElem_toArray, List.getElem_cons_succ, List.getElem_cons_zero, List.setIfInBounds_toArray, List.set_cons_zero, List.set_cons_succ]
        refine wpAnyX_take (i := 3) (oi := _) (v := ?_) rfl (by kernel_rfl) (by kernel_rfl) (by kernel_rfl) (by kernel_rfl) (by kernel_rfl) (fun _ _ _ h => h) (Or.inl ⟨by rfl, ?_⟩) (by assumption) ?_
        rotate_left
        · (intro w hSw; go_simp; first | done | (with_reducible rfl))
        simp only [Act.put, List.getElem_toArray, List.getElem_cons_succ, List.getElem_cons_zero, List.setIfInBounds_toArray, List.set_cons_zero, List.set_cons_succ]
        refine wpAnyX_take (i := 4) (oi := _) (v := ?_) rfl (by kernel_rfl) (by kernel_rfl) (by kernel_rfl) (by kernel_rfl) (by kernel_rfl) (fun _ _ _ h => h) (Or.inl ⟨by rfl, ?_⟩) (by assumption) ?_
        rotate_left
        · (intro w hSw; go_simp; first | done | (with_reducible rfl))
        simp only [Act.put, List.getElem_toArray, List.getElem_cons_succ, List.getElem_cons_zero, List.setIfInBounds_toArray, List.set_cons_zero, List.set_cons_succ]
        refine wpAnyX_take (i := 5) (oi := _) (v := _) rfl (by kernel_rfl) (by kernel_rfl) (by kernel_rfl) (by kernel_rfl) (by kernel_rfl) (fun _ _ _ h => h) (yieldsIf_load_mid (by rfl) 34 _ rfl _ _ rfl _ _ (fun w_ hS_ => HIR.out w_ hS_.g) hdI hdIr infoI) (by assumption) ?_
        simp only [Act.put, List.getElem_toArray, List.getElem_cons_succ, List.getElem_cons_zero, List.setIfInBounds_toArray, List.set_cons_zero, List.set_cons_succ]
        refine wpAnyX_take (i := 7) (oi := _) (v := _) rfl (by kernel_rfl) (by kernel_rfl) (by kernel_rfl) (by kernel_rfl) (by kernel_rfl) (fun _ _ _ h => h) (yieldsIf_load_mid (by rfl) 25 _ rfl _ _ rfl _ _ (fun w_ hS_ => (hS_.boxGet k0m).range) hdu hdr (infoC' d)) (by assumption) ?_
        simp only [Act.put, List.getElem_toArray, List.getElem_cons_succ, List.getElem_cons_zero, List.setIfInBounds_toArray, List.set_cons_zero, List.set_cons_succ]
        refine wpAnyX_one (i := 6) (by kernel_rfl) rfl (fun K hK => ?_)
        go_simp
        refine (HDR.out _ HB.out.g).mono ?_
        rintro e wg ⟨rfl, hg⟩
        replace HB := Keep.mk (HB.out.grown hg)
        refine hK.out _ _ HB.out (fun hHeld => ?_)
        clear hK K hg
        refine wpAnyX_take (i := 8) (oi := _) (v := ?_) rfl (by kernel_rfl) (by kernel_rfl) (by kernel_rfl) (by kernel_rfl) (by kernel_rfl) (fun _ _ _ h => h) (Or.inl ⟨by rfl, ?_⟩) (by assumption) ?_
        rotate_left
        · (intro w hSw; have hE := eq32 d w; go_simp; first | done | (with_reducible rfl))
        simp only [Act.put, List.getElem_toArray, List.getElem_cons_succ, List.getElem_cons_zero, List.setIfInBounds_toArray, List.set_cons_zero, List.set_cons_succ]
        refine wpAnyX_done (by kernel_rfl) ?_ _
        go_wp2_with fail
        go_meet
        exact ⟨_, rfl, rfl, HB⟩
      case rest =>
      clear HB HDR HIR
      obtain ⟨W7, rfl, rfl, HB⟩ := hcut
      have HS2 := Keep.mk (HSW.out.grown HB.out.g)
      have HBD2 := Keep.mk (And.intro (HBD.out.1.kept HB.out.g) (HBD.out.2.kept HB.out.g))
      have RN11 := Keep.mk (HB.out.boxGet k0m).range
      have HX_ := Keep.mk (HS2.out.boxGet k0m)
      have HO_ := Keep.mk (crv_one d)
      clear HB HSW HBD HX
      go_wp2_with (first
        | (show wpList _ _ _ ({ dst := _, op := Op.load 25 (Operand.tmp 11), type := _, pos := _, after := _, guard := _ } :: _) _ _
           refine load_g (by rfl) 25 _ rfl _ _ rfl _ _ RN11.out hdu hdr (infoC' d) ?_)
        | (show wpList _ _ _ ({ dst := _, op := Op.store 25 (Operand.tmp 4) _, type := _, pos := _, after := _, guard := _ } :: _) _ _
           refine store_at _ xb 0 (crv c) (crv d) 25 25 rfl rfl rfl rfl HX_.out (Nat.le_refl _) (infoC' d) HO_.out ?_))
      intro w2_ hS_ g_
      have S_ := hS_ _ _ HS2.out
      rw [over_all (crv c) (crv d) rfl] at S_
      have HS3 := Keep.mk S_
      have HBD3 := Keep.mk (And.intro (HBD2.out.1.keptX HX_.out g_) (HBD2.out.2.keptX HX_.out g_))
      clear S_ hS_ g_ HX_ HO_ RN11 HS2 HBD2
      go_wp2_with fail
      go_roundw
      case rel => exact ⟨i + 1, d, by omega, rfl, HOD, HS3, HBD3⟩
      case measure => simp [intOf]; omega
    · have hdo : (decide ((i : Int) < (n : Int)) = false) ∨ (decide ((i : Int) < (n : Int)) = true ∧ decide ((i : Int) < 200) = false) := by
        rcases hout with h | ⟨h1, h2⟩
        · exact .inl (decide_eq_false (by omega))
        · exact .inr ⟨decide_eq_true (by omega), decide_eq_false (by omega)⟩
      have HDR := Keep.mk (fun W (g : wr.grownBy W none) => drive_c W (pt kb) L c ⟨0, 0, 0, false, false⟩ HOC.out (HBD.out.1.kept g) (HKW.out.kept (HSW.out.g.trans g)))
      have HRD := Keep.mk (fun W (g : wr.grownBy W none) => rdrive_c W (pt kk) L c ⟨0, 0, 0, false, false⟩ HOC.out (HBD.out.2.kept g) (HKW.out.kept (HSW.out.g.trans g)))
      generalize drvC L c ⟨0, 0, 0, false, false⟩ = d at *
      rcases hdo with q | ⟨q1, q2⟩
      · have q' : ¬ (i : Int) < (n : Int) := of_decide_eq_false q
        go_wp2_with fail
        refine region_X (S := fun w' => Sep wr w' []) [] (by kernel_rfl) (HB.out.grown (gr_drew _ _)) (fun hHeld => ?_)
        replace HB := Keep.mk hHeld
        refine wpAnyX_take (i := 0) (oi := _) (v := ?_) rfl (by kernel_rfl) (by kernel_rfl) (by kernel_rfl) (by kernel_rfl) (by kernel_rfl) (fun _ _ _ h => h) (Or.inl ⟨by rfl, ?_⟩) (by assumption) ?_
        rotate_left
        · (intro w hSw; go_simp; first | done | (with_reducible rfl))
        simp only [Act.put, List.getElem_toArray, List.getElem_cons_zero, List.setIfInBounds_toArray, List.set_cons_zero, List.set_cons_succ]
        refine wpAnyX_take (i := 1) (oi := _) (v := _) rfl (by kernel_rfl) (by kernel_rfl) (by kernel_rfl) (by kernel_rfl) (by kernel_rfl) (fun _ _ _ h => h) (yieldsIf_load_mid (by rfl) 25 _ rfl _ _ rfl _ _ (fun w_ hS_ => (HX.out.kept hS_.g (by simp)).range) hdu hdr (infoC' c)) (by assumption) ?_
        simp only [Act.put, List.getElem_toArray, List.getElem_cons_succ, List.getElem_cons_zero, List.setIfInBounds_toArray, List.set_cons_zero, List.set_cons_succ]
        refine wpAnyX_take (i := 2) (oi := _) (v := .agg (itv ⟨0, 0, 0, false, false⟩).toArray) rfl (by kernel_rfl) (by kernel_rfl) (by kernel_rfl) (by kernel_rfl) (by kernel_rfl) (fun _ _ _ h => h) (yieldsIf_build (by rfl) 34 _ rfl _ ?_) (by assumption) ?_
        · refine (congrArg (Tryd.prog.built 34) ?_).trans built34z
          simp only [List.map_toArray, List.map_nil]
        simp only [Act.put, List.getElem_toArray, List.getElem_cons_succ, List.getElem_cons_zero, List.setIfInBounds_toArray, List.set_cons_zero, List.set_cons_succ]
        refine wpAnyX_take (i := 4) (oi := _) (v := ?_) rfl (by kernel_rfl) (by kernel_rfl) (by kernel_rfl) (by kernel_rfl) (by kernel_rfl) (fun _ _ _ h => h) (Or.inl ⟨by rfl, ?_⟩) (by assumption) ?_
        rotate_left
        · (intro w hSw; go_simp; first | done | (with_reducible rfl))
        simp only [Act.put, List.getElem_toArray, List.getElem_cons_succ, List.getElem_cons_zero, List.setIfInBounds_toArray, List.set_cons_zero, List.set_cons_succ]
        refine wpAnyX_take (i := 5) (oi := _) (v := _) rfl (by kernel_rfl) (by kernel_rfl) (by kernel_rfl) (by kernel_rfl) (by kernel_rfl) (fun _ _ _ h => h) (yieldsIf_load_mid (by rfl) 25 _ rfl _ _ rfl _ _ (fun w_ hS_ => (HX.out.kept hS_.g (by simp)).range) hdu hdr (infoC' c)) (by assumption) ?_
        simp only [Act.put, List.getElem_toArray, List.getElem_cons_succ, List.getElem_cons_zero, List.setIfInBounds_toArray, List.set_cons_zero, List.set_cons_succ]
        refine wpAnyX_take (i := 6) (oi := _) (v := .agg (itv ⟨0, 0, 0, false, false⟩).toArray) rfl (by kernel_rfl) (by kernel_rfl) (by kernel_rfl) (by kernel_rfl) (by kernel_rfl) (fun _ _ _ h => h) (yieldsIf_build (by rfl) 34 _ rfl _ ?_) (by assumption) ?_
        · refine (congrArg (Tryd.prog.built 34) ?_).trans built34z
          simp only [List.map_toArray, List.map_nil]
        simp only [Act.put, List.getElem_toArray, List.getElem_cons_succ, List.getElem_cons_zero, List.setIfInBounds_toArray, List.set_cons_zero, List.set_cons_succ]
        refine wpAnyX_one (i := 3) (by kernel_rfl) rfl (fun K hK => ?_)
        go_simp
        refine (HDR.out _ HB.out.g).mono ?_
        rintro e wg ⟨rfl, hg⟩
        replace HB := Keep.mk (HB.out.grown hg)
        refine hK.out _ _ HB.out (fun hHeld => ?_)
        clear hK K hg
        refine wpAnyX_one (i := 7) (by kernel_rfl) rfl (fun K hK => ?_)
        go_simp
        refine (HRD.out _ HB.out.g).mono ?_
        rintro e wg ⟨rfl, hg⟩
        replace HB := Keep.mk (HB.out.grown hg)
        refine hK.out _ _ HB.out (fun hHeld => ?_)
        clear hK K hg
        refine wpAnyX_take (i := 8) (oi := _) (v := ?_) rfl (by kernel_rfl) (by kernel_rfl) (by kernel_rfl) (by kernel_rfl) (by kernel_rfl) (fun _ _ _ h => h) (Or.inl ⟨by rfl, ?_⟩) (by assumption) ?_
        rotate_left
        · (intro w hSw; have hE := eq32 d w; go_simp; first | done | (with_reducible rfl))
        simp only [Act.put, List.getElem_toArray, List.getElem_cons_succ, List.getElem_cons_zero, List.setIfInBounds_toArray, List.set_cons_zero, List.set_cons_succ]
        refine wpAnyX_take (i := 9) (oi := _) (v := ?_) rfl (by kernel_rfl) (by kernel_rfl) (by kernel_rfl) (by kernel_rfl) (by kernel_rfl) (fun _ _ _ h => h) (Or.inl ⟨by rfl, ?_⟩) (by assumption) ?_
        rotate_left
        · (intro w hSw; go_simp; first | done | (with_reducible rfl))
        simp only [Act.put, List.getElem_toArray, List.getElem_cons_succ, List.getElem_cons_zero, List.setIfInBounds_toArray, List.set_cons_zero, List.set_cons_succ]
        refine wpAnyX_done (by kernel_rfl) ?_ _
        go_wp2_with fail
        go_ret
        exact ⟨rfl, HSW.out.g.trans HB.out.g⟩
      · have q1' : (i : Int) < (n : Int) := of_decide_eq_true q1
        have q2' : ¬ (i : Int) < 200 := of_decide_eq_false q2
        go_wp2_with fail
        refine region_X (S := fun w' => Sep wr w' []) [] (by kernel_rfl) (HB.out.grown (gr_drew _ _)) (fun hHeld => ?_)
        replace HB := Keep.mk hHeld
        refine wpAnyX_take (i := 0) (oi := _) (v := ?_) rfl (by kernel_rfl) (by kernel_rfl) (by kernel_rfl) (by kernel_rfl) (by kernel_rfl) (fun _ _ _ h => h) (Or.inl ⟨by rfl, ?_⟩) (by assumption) ?_
        rotate_left
        · (intro w hSw; go_simp; first | done | (with_reducible rfl))
        simp only [Act.put, List.getElem_toArray, List.getElem_cons_zero, List.setIfInBounds_toArray, List.set_cons_zero, List.set_cons_succ]
        refine wpAnyX_take (i := 1) (oi := _) (v := _) rfl (by kernel_rfl) (by kernel_rfl) (by kernel_rfl) (by kernel_rfl) (by kernel_rfl) (fun _ _ _ h => h) (yieldsIf_load_mid (by rfl) 25 _ rfl _ _ rfl _ _ (fun w_ hS_ => (HX.out.kept hS_.g (by simp)).range) hdu hdr (infoC' c)) (by assumption) ?_
        simp only [Act.put, List.getElem_toArray, List.getElem_cons_succ, List.getElem_cons_zero, List.setIfInBounds_toArray, List.set_cons_zero, List.set_cons_succ]
        refine wpAnyX_take (i := 2) (oi := _) (v := .agg (itv ⟨0, 0, 0, false, false⟩).toArray) rfl (by kernel_rfl) (by kernel_rfl) (by kernel_rfl) (by kernel_rfl) (by kernel_rfl) (fun _ _ _ h => h) (yieldsIf_build (by rfl) 34 _ rfl _ ?_) (by assumption) ?_
        · refine (congrArg (Tryd.prog.built 34) ?_).trans built34z
          simp only [List.map_toArray, List.map_nil]
        simp only [Act.put, List.getElem_toArray, List.getElem_cons_succ, List.getElem_cons_zero, List.setIfInBounds_toArray, List.set_cons_zero, List.set_cons_succ]
        refine wpAnyX_take (i := 4) (oi := _) (v := ?_) rfl (by kernel_rfl) (by kernel_rfl) (by kernel_rfl) (by kernel_rfl) (by kernel_rfl) (fun _ _ _ h => h) (Or.inl ⟨by rfl, ?_⟩) (by assumption) ?_
        rotate_left
        · (intro w hSw; go_simp; first | done | (with_reducible rfl))
        simp only [Act.put, List.getElem_toArray, List.getElem_cons_succ, List.getElem_cons_zero, List.setIfInBounds_toArray, List.set_cons_zero, List.set_cons_succ]
        refine wpAnyX_take (i := 5) (oi := _) (v := _) rfl (by kernel_rfl) (by kernel_rfl) (by kernel_rfl) (by kernel_rfl) (by kernel_rfl) (fun _ _ _ h => h) (yieldsIf_load_mid (by rfl) 25 _ rfl _ _ rfl _ _ (fun w_ hS_ => (HX.out.kept hS_.g (by simp)).range) hdu hdr (infoC' c)) (by assumption) ?_
        simp only [Act.put, List.getElem_toArray, List.getElem_cons_succ, List.getElem_cons_zero, List.setIfInBounds_toArray, List.set_cons_zero, List.set_cons_succ]
        refine wpAnyX_take (i := 6) (oi := _) (v := .agg (itv ⟨0, 0, 0, false, false⟩).toArray) rfl (by kernel_rfl) (by kernel_rfl) (by kernel_rfl) (by kernel_rfl) (by kernel_rfl) (fun _ _ _ h => h) (yieldsIf_build (by rfl) 34 _ rfl _ ?_) (by assumption) ?_
        · refine (congrArg (Tryd.prog.built 34) ?_).trans built34z
          simp only [List.map_toArray, List.map_nil]
        simp only [Act.put, List.getElem_toArray, List.getElem_cons_succ, List.getElem_cons_zero, List.setIfInBounds_toArray, List.set_cons_zero, List.set_cons_succ]
        refine wpAnyX_one (i := 3) (by kernel_rfl) rfl (fun K hK => ?_)
        go_simp
        refine (HDR.out _ HB.out.g).mono ?_
        rintro e wg ⟨rfl, hg⟩
        replace HB := Keep.mk (HB.out.grown hg)
        refine hK.out _ _ HB.out (fun hHeld => ?_)
        clear hK K hg
        refine wpAnyX_one (i := 7) (by kernel_rfl) rfl (fun K hK => ?_)
        go_simp
        refine (HRD.out _ HB.out.g).mono ?_
        rintro e wg ⟨rfl, hg⟩
        replace HB := Keep.mk (HB.out.grown hg)
        refine hK.out _ _ HB.out (fun hHeld => ?_)
        clear hK K hg
        refine wpAnyX_take (i := 8) (oi := _) (v := ?_) rfl (by kernel_rfl) (by kernel_rfl) (by kernel_rfl) (by kernel_rfl) (by kernel_rfl) (fun _ _ _ h => h) (Or.inl ⟨by rfl, ?_⟩) (by assumption) ?_
        rotate_left
        · (intro w hSw; have hE := eq32 d w; go_simp; first | done | (with_reducible rfl))
        simp only [Act.put, List.getElem_toArray, List.getElem_cons_succ, List.getElem_cons_zero, List.setIfInBounds_toArray, List.set_cons_zero, List.set_cons_succ]
        refine wpAnyX_take (i := 9) (oi := _) (v := ?_) rfl (by kernel_rfl) (by kernel_rfl) (by kernel_rfl) (by kernel_rfl) (by kernel_rfl) (fun _ _ _ h => h) (Or.inl ⟨by rfl, ?_⟩) (by assumption) ?_
        rotate_left
        · (intro w hSw; go_simp; first | done | (with_reducible rfl))
        simp only [Act.put, List.getElem_toArray, List.getElem_cons_succ, List.getElem_cons_zero, List.setIfInBounds_toArray, List.set_cons_zero, List.set_cons_succ]
        refine wpAnyX_done (by kernel_rfl) ?_ _
        go_wp2_with fail
        go_ret
        exact ⟨rfl, HSW.out.g.trans HB.out.g⟩
end Go.Proofs.YtobdcngjpgndiabDoor.Bo

