import Derived.Test.YtkdjcknikhgfkaaGreatDoorX42
/- SnapBack: the walk -/
namespace Go.Proofs.YtkdjcknikhgfkaaGreatDoor.Pk.Sn
open Go Go.RowKit

/-- a box with a view -/
structure Bx where
  b : Nat
  V : Vw
  a : Option Addr
  c : Nat
/-- where a law's walk stands -/
structure St (w0 w : World) (L : List Bx) : Prop where
  g : w0.grownBy w none
  b : ∀ x ∈ L, Has w x.b (x.V.cs x.a x.c) 29 ∧ SeenR w x.a x.V.S
theorem St.kept {w0 w w' : World} {L : List Bx} (h : St w0 w L) (g : w.grownBy w' none) : St w0 w' L := ⟨h.g.trans g, fun x hx => ⟨(h.b x hx).1.kept g (by simp), (h.b x hx).2.kept g⟩⟩
theorem St.add {w0 w w' : World} {L : List Bx} {V : Vw} {a : Option Addr} {c : Nat} (h : St w0 w L) (h6 : Has w' w.heap.size (V.cs a c) 29) (g : w.grownBy w' none) (hs : SeenR w a V.S) : St w0 w' (⟨w.heap.size, V, a, c⟩ :: L) :=
  ⟨h.g.trans g, fun x hx => by
    rcases List.mem_cons.1 hx with rfl | hx
    · exact ⟨h6, hs.kept g⟩
    · exact ⟨(h.b x hx).1.kept g (by simp), (h.b x hx).2.kept g⟩⟩
theorem St.has {w0 w : World} {L : List Bx} {b : Nat} {V : Vw} {a : Option Addr} {c : Nat} (h : St w0 w L) (hm : (⟨b, V, a, c⟩ : Bx) ∈ L) : Has w b (V.cs a c) 29 := (h.b _ hm).1
theorem St.seen {w0 w : World} {L : List Bx} {b : Nat} {V : Vw} {a : Option Addr} {c : Nat} (h : St w0 w L) (hm : (⟨b, V, a, c⟩ : Bx) ∈ L) : SeenR w a V.S := (h.b _ hm).2
theorem mm0 {α : Type} {a : α} {l : List α} : a ∈ a :: l := List.mem_cons_self ..
theorem mm1 {α : Type} {a b : α} {l : List α} : a ∈ b :: a :: l := List.mem_cons_of_mem _ mm0
theorem mm2 {α : Type} {a b c : α} {l : List α} : a ∈ b :: c :: a :: l := List.mem_cons_of_mem _ mm1
theorem mm3 {α : Type} {a b c d : α} {l : List α} : a ∈ b :: c :: d :: a :: l := List.mem_cons_of_mem _ mm2
theorem mm4 {α : Type} {a b c d e : α} {l : List α} : a ∈ b :: c :: d :: e :: a :: l := List.mem_cons_of_mem _ mm3
theorem mm5 {α : Type} {a b c d e f : α} {l : List α} : a ∈ b :: c :: d :: e :: f :: a :: l := List.mem_cons_of_mem _ mm4
theorem St.start {w w' : World} {V : Vw} {a : Option Addr} {c : Nat} (h6 : Has w' w.heap.size (V.cs a c) 29) (g : w.grownBy w' none) (hs : SeenR w a V.S) : St w w' [⟨w.heap.size, V, a, c⟩] :=
  (⟨World.grownBy.refl _ _, fun _ hx => absurd hx List.not_mem_nil⟩ : St w w []).add h6 g hs
theorem seen_nil (w : World) : SeenR w none ([] : List Sn) := fun q => absurd rfl q
set_option maxHeartbeats 8000000 in
set_option maxRecDepth 100000 in
theorem snapBack_c (V : Vw) (a : Option Addr) (c : Nat) (data : ByteArray) (w : World) (hk : Kc w) (ho : V.ok) (hr : SeenR w a V.S) (hsz : V.S.length ≤ 140737488355328) (hds : data.size ≤ 140737488355328) :
    Calls Tryz.prog 3 #[.agg (V.cs a c).toArray, .string data] w fun e w' => e = .returned (.bool true) ∧ w.grownBy w' none := by
  obtain ⟨d, hd, hrw⟩ := underV
  have HBT := Keep.mk builtV
  obtain ⟨n, hn⟩ : ∃ n, V.S.length = n := ⟨_, rfl⟩
  obtain ⟨w0, hw0⟩ : ∃ q, w.alloc (.cells (V.cs a c).toArray 29) = q := ⟨_, rfl⟩
  obtain ⟨h0, g0, s0⟩ := hasN hw0
  have HS := Keep.mk (St.start h0 g0 hr)
  have HK := Keep.mk (And.intro hk (And.intro ho (And.intro hsz (And.intro hds hn))))
  unfold Vw.cs at hw0 ⊢
  rw [hn] at hw0 ⊢
  clear h0 g0 s0 hr hk ho hsz hds hn
  go_enter Tryz.func3, Tryz.ntmps3
  go_wp2_with fail
  refine (alive_c w0 (HK.out.1.kept HS.out.g (by simp))).mono ?_
  rintro e wk1 ⟨rfl, g1⟩
  have HS1 := Keep.mk (HS.out.kept g1)
  clear g1
  go_wp2_with (first
    | (with_reducible show wpList _ _ _ ({ dst := _, op := Op.load 29 (Operand.tmp 2), type := _, pos := _, after := _, guard := _ } :: _) _ _
       refine load_g rfl 29 _ rfl w.heap.size 0 rfl (V.cs a c) d (HS1.out.has mm0).range hd hrw infoV ?_))
  refine (write_c V a c wk1 HK.out.2.1 (HS1.out.seen mm0)).mono ?_
  rintro e wk2 ⟨rfl, g2⟩
  have HS2 := Keep.mk (HS1.out.kept g2)
  clear g2
  by_cases hf : fitV V
  · have HF := Keep.mk hf
    have hwr := wrV_yes HK.out.2.1 hf
    rw [hwr]
    obtain ⟨s, hs⟩ : ∃ q, ba (encV V) = q := ⟨_, rfl⟩
    have HE : Keep (sl s = encV V) := ⟨by rw [← hs]; exact sl_mk _⟩
    obtain ⟨N, hN⟩ : ∃ N, s.size = N := ⟨_, rfl⟩
    obtain ⟨nm, hnm⟩ : ∃ q, V.n.size = q := ⟨_, rfl⟩
    have HNN : Keep (N = 107 + nm + 26 * n) := by
      have h := encV_len V
      rw [← HE.out, sl_len, HK.out.2.2.2.2, hN, hnm] at h
      exact ⟨h⟩
    rw [show (⟨(encV V, (0 : Int)).1.toArray⟩ : ByteArray) = s from hs]
    have hnmb : nm ≤ 255 := by
      have h2 : (sl V.n).length < 256 := hf.h.2.2.1
      rw [sl_len, hnm] at h2; omega
    have hn5 : n ≤ 255 := by have := fit_cnt hf.h; rw [HK.out.2.2.2.2] at this; exact this
    have hN107 : ¬ ((N : Int) < 107) := by have := HNN.out; omega
    have hNb : (N : Int) ≤ 7000 := by have := HNN.out; omega
    have hNe : ((N : Int) != 107 + (nm : Int) + 26 * (n : Int)) = false := by have := HNN.out; simp; omega
    have HRD : Keep (rdV (sl s) = (V, 0)) := ⟨by rw [HE.out]; exact rd_wr HK.out.2.1 HF.out⟩
    clear hf hwr hs
    go_wp2_with (first
      | (with_reducible show wpList _ _ _ ({ dst := _, op := Op.load 29 (Operand.tmp 2), type := _, pos := _, after := _, guard := _ } :: _) _ _
         refine load_g rfl 29 _ rfl w.heap.size 0 rfl (V.cs a c) d (HS2.out.has mm0).range hd hrw infoV ?_))
    have R1 := read_c s wk2
    rw [HRD.out] at R1
    refine R1.mono ?_
    rintro e wk3 ⟨a3, c3, rfl, RR3⟩
    have HS3 := Keep.mk (HS2.out.kept RR3.g)
    have HR3 := Keep.mk (rd_seen RR3)
    clear R1 RR3
    go_wp2_with (first
      | (with_reducible show wpList _ _ _ ({ dst := _, op := Op.load 29 (Operand.tmp 7), type := _, pos := _, after := _, guard := _ } :: _) _ _
         refine load_g rfl 29 _ rfl wk3.heap.size 0 rfl (V.cs a3 c3) d (HS4.out.has mm0).range hd hrw infoV ?_)
      | (with_reducible show wpList _ _ _ ({ dst := _, op := Op.load 29 (Operand.tmp 2), type := _, pos := _, after := _, guard := _ } :: _) _ _
         refine load_g rfl 29 _ rfl w.heap.size 0 rfl (V.cs a c) d (HS4.out.has mm1).range hd hrw infoV ?_)
      | (with_reducible show wpList _ _ _ ({ dst := none, op := Op.store 29 (Operand.tmp 7) _, type := _, pos := _, after := _, guard := _ } :: _) _ _
         refine st_new wk3 (V.cs a3 c3) 29 rfl rfl rfl rfl rfl infoV (vw_one _ _ _) ?_
         intro wk4 h6 g6
         have HS4 := Keep.mk (HS3.out.add h6 g6 HR3.out)
         clear h6 g6)
      | (with_reducible show wpList _ _ _ ({ dst := _, op := Op.load 29 (Operand.tmp 2), type := _, pos := _, after := _, guard := _ } :: _) _ _
         refine load_g rfl 29 _ rfl w.heap.size 0 rfl (V.cs a c) d (HS3.out.has mm0).range hd hrw infoV ?_))
    refine (same_c V V a3 a c3 c wk4 (HS4.out.seen mm0) (HS4.out.seen mm1) HK.out.2.2.1).mono ?_
    rintro e wk5 ⟨b, rfl, hb, g4⟩
    obtain rfl : b = true := hb.2 rfl
    have HS5 := Keep.mk (HS4.out.kept g4)
    have cn : wk5.cell? ⟨w.heap.size, 2, none⟩ = some (.string V.n) := (HS5.out.has mm1).cellv 2 _ rfl
    have c15 : wk5.cell? ⟨w.heap.size, 15, none⟩ = some (.slice a n c) := by rw [← HK.out.2.2.2.2]; exact (HS5.out.has mm1).cellv 15 _ rfl
    clear hb g4
    obtain ⟨s1, hs1⟩ : ∃ q, ba ((encV V).take (N - 1)) = q := ⟨_, rfl⟩
    have hsl : ∀ W, (Instr.slice 9 (.string s) none (some (.int .i64 ((N : Int) - 1))) none).run Tryz.prog W = .ok (.string s1) W := fun W => by
      rw [run_slice_string_h W 9 s under9 .i64 ((N : Int) - 1) (by omega) (by omega), show (((N : Int) - 1).toNat) = N - 1 by omega, ext_to, HE.out, hs1]
    obtain ⟨s2, hs2⟩ : ∃ q, s ++ ({ data := #[0] } : ByteArray) = q := ⟨_, rfl⟩
    have hadd : ∀ W, (Op.stringOp .add s { data := #[0] }).run Tryz.prog W = .ok (.string s2) W := fun W => by
      rw [← hs2]; exact addS s _ (by rw [hN]; show N + 1 ≤ _; omega) W
    have HS12 : Keep (rdV (sl s1) = (Vw.zero, 50) ∧ rdV (sl s2) = (Vw.zero, 51)) := by
      refine ⟨?_, ?_⟩
      · rw [← hs1, show sl (ba ((encV V).take (N - 1))) = (encV V).take (N - 1) from sl_mk _]
        refine rd_short HK.out.2.1 HF.out ((encV V).take (N - 1)) ((encV V).drop (N - 1)) (List.take_append_drop _ _).symm (fun e => ?_)
        have h := congrArg List.length e
        rw [List.length_drop, ← HE.out, sl_len, hN] at h
        simp at h; omega
      · rw [← hs2, sl_app, HE.out]
        exact rd_more HK.out.2.1 HF.out 0
    clear hs1 hs2
    go_wp2_with (first
      | (with_reducible show wpList _ _ _ ({ dst := _, op := Op.load 29 (Operand.tmp 7), type := _, pos := _, after := _, guard := _ } :: _) _ _
         refine load_g rfl 29 _ rfl wk3.heap.size 0 rfl (V.cs a3 c3) d (HS5.out.has mm0).range hd hrw infoV ?_)
      | (with_reducible show wpList _ _ _ ({ dst := _, op := Op.load 29 (Operand.tmp 2), type := _, pos := _, after := _, guard := _ } :: _) _ _
         refine load_g rfl 29 _ rfl w.heap.size 0 rfl (V.cs a c) d (HS5.out.has mm1).range hd hrw infoV ?_))
    have R4 := read_c s1 wk5
    rw [HS12.out.1] at R4
    refine R4.mono ?_
    rintro e wk6 ⟨a4, c4, rfl, RR4⟩
    have HS6 := Keep.mk (HS5.out.kept RR4.g)
    have HR4 := Keep.mk (rd_seen RR4)
    clear R4 RR4
    go_wp2_with (first
      | (with_reducible show wpList _ _ _ ({ dst := _, op := Op.load 29 (Operand.tmp 9), type := _, pos := _, after := _, guard := _ } :: _) _ _
         refine load_g rfl 29 _ rfl wk6.heap.size 0 rfl (Vw.zero.cs a4 c4) d (HS7.out.has mm0).range hd hrw infoV ?_)
      | (with_reducible show wpList _ _ _ ({ dst := _, op := Op.load 29 (Operand.tmp 7), type := _, pos := _, after := _, guard := _ } :: _) _ _
         refine load_g rfl 29 _ rfl wk3.heap.size 0 rfl (V.cs a3 c3) d (HS7.out.has mm1).range hd hrw infoV ?_)
      | (with_reducible show wpList _ _ _ ({ dst := _, op := Op.load 29 (Operand.tmp 2), type := _, pos := _, after := _, guard := _ } :: _) _ _
         refine load_g rfl 29 _ rfl w.heap.size 0 rfl (V.cs a c) d (HS7.out.has mm2).range hd hrw infoV ?_)
      | (with_reducible show wpList _ _ _ ({ dst := none, op := Op.store 29 (Operand.tmp 9) _, type := _, pos := _, after := _, guard := _ } :: _) _ _
         refine st_new wk6 (Vw.zero.cs a4 c4) 29 rfl rfl rfl rfl rfl infoV (vw_one _ _ _) ?_
         intro wk7 h6 g6
         have HS7 := Keep.mk (HS6.out.add h6 g6 HR4.out)
         clear h6 g6)
      | (with_reducible show wpList _ _ _ ({ dst := _, op := Op.load 29 (Operand.tmp 7), type := _, pos := _, after := _, guard := _ } :: _) _ _
         refine load_g rfl 29 _ rfl wk3.heap.size 0 rfl (V.cs a3 c3) d (HS6.out.has mm0).range hd hrw infoV ?_)
      | (with_reducible show wpList _ _ _ ({ dst := _, op := Op.load 29 (Operand.tmp 2), type := _, pos := _, after := _, guard := _ } :: _) _ _
         refine load_g rfl 29 _ rfl w.heap.size 0 rfl (V.cs a c) d (HS6.out.has mm1).range hd hrw infoV ?_))
    have R5 := read_c s2 wk7
    rw [HS12.out.2] at R5
    refine R5.mono ?_
    rintro e wk8 ⟨a5, c5, rfl, RR5⟩
    have HS8 := Keep.mk (HS7.out.kept RR5.g)
    have HR5 := Keep.mk (rd_seen RR5)
    clear R5 RR5
    go_wp2_with (first
      | (with_reducible show wpList _ _ _ ({ dst := _, op := Op.load 29 (Operand.tmp 11), type := _, pos := _, after := _, guard := _ } :: _) _ _
         refine load_g rfl 29 _ rfl wk8.heap.size 0 rfl (Vw.zero.cs a5 c5) d (HS9.out.has mm0).range hd hrw infoV ?_)
      | (with_reducible show wpList _ _ _ ({ dst := _, op := Op.load 29 (Operand.tmp 9), type := _, pos := _, after := _, guard := _ } :: _) _ _
         refine load_g rfl 29 _ rfl wk6.heap.size 0 rfl (Vw.zero.cs a4 c4) d (HS9.out.has mm1).range hd hrw infoV ?_)
      | (with_reducible show wpList _ _ _ ({ dst := _, op := Op.load 29 (Operand.tmp 7), type := _, pos := _, after := _, guard := _ } :: _) _ _
         refine load_g rfl 29 _ rfl wk3.heap.size 0 rfl (V.cs a3 c3) d (HS9.out.has mm2).range hd hrw infoV ?_)
      | (with_reducible show wpList _ _ _ ({ dst := _, op := Op.load 29 (Operand.tmp 2), type := _, pos := _, after := _, guard := _ } :: _) _ _
         refine load_g rfl 29 _ rfl w.heap.size 0 rfl (V.cs a c) d (HS9.out.has mm3).range hd hrw infoV ?_)
      | (with_reducible show wpList _ _ _ ({ dst := none, op := Op.store 29 (Operand.tmp 11) _, type := _, pos := _, after := _, guard := _ } :: _) _ _
         refine st_new wk8 (Vw.zero.cs a5 c5) 29 rfl rfl rfl rfl rfl infoV (vw_one _ _ _) ?_
         intro wk9 h6 g6
         have HS9 := Keep.mk (HS8.out.add h6 g6 HR5.out)
         clear h6 g6)
      | (with_reducible show wpList _ _ _ ({ dst := _, op := Op.build 29 _, type := _, pos := _, after := _, guard := _ } :: _) _ _
         refine build_g rfl 29 _ rfl _ ((congrArg (Tryz.prog.built 29) (by simp only [List.map_toArray, List.map_nil]; rfl)).trans HBT.out) ?_
         simp only [Act.put, List.setIfInBounds_toArray, List.set_cons_zero, List.set_cons_succ])
      | (with_reducible show wpList _ _ _ ({ dst := _, op := Op.load 29 (Operand.tmp 9), type := _, pos := _, after := _, guard := _ } :: _) _ _
         refine load_g rfl 29 _ rfl wk6.heap.size 0 rfl (Vw.zero.cs a4 c4) d (HS8.out.has mm0).range hd hrw infoV ?_)
      | (with_reducible show wpList _ _ _ ({ dst := _, op := Op.load 29 (Operand.tmp 7), type := _, pos := _, after := _, guard := _ } :: _) _ _
         refine load_g rfl 29 _ rfl wk3.heap.size 0 rfl (V.cs a3 c3) d (HS8.out.has mm1).range hd hrw infoV ?_)
      | (with_reducible show wpList _ _ _ ({ dst := _, op := Op.load 29 (Operand.tmp 2), type := _, pos := _, after := _, guard := _ } :: _) _ _
         refine load_g rfl 29 _ rfl w.heap.size 0 rfl (V.cs a c) d (HS8.out.has mm2).range hd hrw infoV ?_))
    refine (same_c Vw.zero Vw.zero a4 none c4 0 wk9 (HS9.out.seen mm1) (seen_nil _) (by show 0 ≤ _; omega)).mono ?_
    rintro e wk10 ⟨b, rfl, hb, g4⟩
    obtain rfl : b = true := hb.2 rfl
    have HS10 := Keep.mk (HS9.out.kept g4)
    clear hb g4
    go_wp2_with (first
      | (with_reducible show wpList _ _ _ ({ dst := _, op := Op.build 29 _, type := _, pos := _, after := _, guard := _ } :: _) _ _
         refine build_g rfl 29 _ rfl _ ((congrArg (Tryz.prog.built 29) (by simp only [List.map_toArray, List.map_nil]; rfl)).trans HBT.out) ?_
         simp only [Act.put, List.setIfInBounds_toArray, List.set_cons_zero, List.set_cons_succ])
      | (with_reducible show wpList _ _ _ ({ dst := _, op := Op.load 29 (Operand.tmp 11), type := _, pos := _, after := _, guard := _ } :: _) _ _
         refine load_g rfl 29 _ rfl wk8.heap.size 0 rfl (Vw.zero.cs a5 c5) d (HS10.out.has mm0).range hd hrw infoV ?_)
      | (with_reducible show wpList _ _ _ ({ dst := _, op := Op.load 29 (Operand.tmp 9), type := _, pos := _, after := _, guard := _ } :: _) _ _
         refine load_g rfl 29 _ rfl wk6.heap.size 0 rfl (Vw.zero.cs a4 c4) d (HS10.out.has mm1).range hd hrw infoV ?_)
      | (with_reducible show wpList _ _ _ ({ dst := _, op := Op.load 29 (Operand.tmp 7), type := _, pos := _, after := _, guard := _ } :: _) _ _
         refine load_g rfl 29 _ rfl wk3.heap.size 0 rfl (V.cs a3 c3) d (HS10.out.has mm2).range hd hrw infoV ?_)
      | (with_reducible show wpList _ _ _ ({ dst := _, op := Op.load 29 (Operand.tmp 2), type := _, pos := _, after := _, guard := _ } :: _) _ _
         refine load_g rfl 29 _ rfl w.heap.size 0 rfl (V.cs a c) d (HS10.out.has mm3).range hd hrw infoV ?_))
    refine (same_c Vw.zero Vw.zero a5 none c5 0 wk10 (HS10.out.seen mm0) (seen_nil _) (by show 0 ≤ _; omega)).mono ?_
    rintro e wk11 ⟨b, rfl, hb, g4⟩
    obtain rfl : b = true := hb.2 rfl
    have HS11 := Keep.mk (HS10.out.kept g4)
    clear hb g4
    go_wp2_with fail
    have RD := read_c data wk11
    obtain ⟨V2, hV2⟩ : ∃ q, (rdV (sl data)).1 = q := ⟨_, rfl⟩
    obtain ⟨cd, hcd⟩ : ∃ q, (rdV (sl data)).2 = q := ⟨_, rfl⟩
    have HV2 := Keep.mk (And.intro hV2 hcd)
    rw [hV2, hcd] at RD
    clear hV2 hcd
    refine RD.mono ?_
    rintro e wk12 ⟨aD, cD, rfl, RRD⟩
    have HS12 := Keep.mk (HS11.out.kept RRD.g)
    have HRD2 := Keep.mk (rd_seen RRD)
    clear RD RRD
    by_cases hz : cd = 0
    · have hq : (cd == 0) = true := by simp [hz]
      have hq2 : (cd != 0) = false := by simp [hz]
      have HW : Keep (V2.ok ∧ fitV V2 ∧ encV V2 = sl data) := by
        have h := wr_rd (b := sl data) (by rw [HV2.out.2]; exact hz)
        rw [HV2.out.1] at h
        exact ⟨h⟩
      have HW2 : Keep (wrV V2 = (sl data, 0)) := ⟨by rw [wrV_yes HW.out.1 HW.out.2.1, HW.out.2.2]⟩
      clear hz
      go_wp2_with (first
        | (with_reducible show wpList _ _ _ ({ dst := _, op := Op.load 29 (Operand.tmp 13), type := _, pos := _, after := _, guard := _ } :: _) _ _
           refine load_g rfl 29 _ rfl wk12.heap.size 0 rfl (V2.cs aD cD) d (HS13.out.has mm0).range hd hrw infoV ?_)
        | (with_reducible show wpList _ _ _ ({ dst := _, op := Op.load 29 (Operand.tmp 11), type := _, pos := _, after := _, guard := _ } :: _) _ _
           refine load_g rfl 29 _ rfl wk8.heap.size 0 rfl (Vw.zero.cs a5 c5) d (HS13.out.has mm1).range hd hrw infoV ?_)
        | (with_reducible show wpList _ _ _ ({ dst := _, op := Op.load 29 (Operand.tmp 9), type := _, pos := _, after := _, guard := _ } :: _) _ _
           refine load_g rfl 29 _ rfl wk6.heap.size 0 rfl (Vw.zero.cs a4 c4) d (HS13.out.has mm2).range hd hrw infoV ?_)
        | (with_reducible show wpList _ _ _ ({ dst := _, op := Op.load 29 (Operand.tmp 7), type := _, pos := _, after := _, guard := _ } :: _) _ _
           refine load_g rfl 29 _ rfl wk3.heap.size 0 rfl (V.cs a3 c3) d (HS13.out.has mm3).range hd hrw infoV ?_)
        | (with_reducible show wpList _ _ _ ({ dst := _, op := Op.load 29 (Operand.tmp 2), type := _, pos := _, after := _, guard := _ } :: _) _ _
           refine load_g rfl 29 _ rfl w.heap.size 0 rfl (V.cs a c) d (HS13.out.has mm4).range hd hrw infoV ?_)
        | (with_reducible show wpList _ _ _ ({ dst := none, op := Op.store 29 (Operand.tmp 13) _, type := _, pos := _, after := _, guard := _ } :: _) _ _
           refine st_new wk12 (V2.cs aD cD) 29 rfl rfl rfl rfl rfl infoV (vw_one _ _ _) ?_
           intro wk13 h6 g6
           have HS13 := Keep.mk (HS12.out.add h6 g6 HRD2.out)
           clear h6 g6)
        | (with_reducible show wpList _ _ _ ({ dst := _, op := Op.load 29 (Operand.tmp 11), type := _, pos := _, after := _, guard := _ } :: _) _ _
           refine load_g rfl 29 _ rfl wk8.heap.size 0 rfl (Vw.zero.cs a5 c5) d (HS12.out.has mm0).range hd hrw infoV ?_)
        | (with_reducible show wpList _ _ _ ({ dst := _, op := Op.load 29 (Operand.tmp 9), type := _, pos := _, after := _, guard := _ } :: _) _ _
           refine load_g rfl 29 _ rfl wk6.heap.size 0 rfl (Vw.zero.cs a4 c4) d (HS12.out.has mm1).range hd hrw infoV ?_)
        | (with_reducible show wpList _ _ _ ({ dst := _, op := Op.load 29 (Operand.tmp 7), type := _, pos := _, after := _, guard := _ } :: _) _ _
           refine load_g rfl 29 _ rfl wk3.heap.size 0 rfl (V.cs a3 c3) d (HS12.out.has mm2).range hd hrw infoV ?_)
        | (with_reducible show wpList _ _ _ ({ dst := _, op := Op.load 29 (Operand.tmp 2), type := _, pos := _, after := _, guard := _ } :: _) _ _
           refine load_g rfl 29 _ rfl w.heap.size 0 rfl (V.cs a c) d (HS12.out.has mm3).range hd hrw infoV ?_))
      have WD := write_c V2 aD cD wk13 HW.out.1 (HS13.out.seen mm0)
      rw [HW2.out, show (⟨(sl data, (0 : Int)).1.toArray⟩ : ByteArray) = data from sl_back data] at WD
      refine WD.mono ?_
      rintro e wF ⟨rfl, gF⟩
      have HGF := Keep.mk (HS13.out.g.trans gF)
      clear WD gF
      go_wp2_with fail
      go_ret
      exact ⟨rfl, HGF.out⟩
    · have hq : (cd == 0) = false := by simp [hz]
      have hq2 : (cd != 0) = true := by simp [hz]
      have hcc : cd = 50 ∨ cd = 51 := by
        have h := (rd_codes (sl data)).1
        rw [HV2.out.2] at h
        rcases h with h | h
        · exact absurd h hz
        · exact h
      obtain rfl : V2 = Vw.zero := by
        have h := (rd_codes (sl data)).2 (by rw [HV2.out.2]; exact hz)
        rw [HV2.out.1] at h
        exact h
      clear hz
      rcases hcc with hcc | hcc
      · rw [hcc] at hq hq2 ⊢
        clear hcc
        go_wp2_with (first
          | (with_reducible show wpList _ _ _ ({ dst := _, op := Op.load 29 (Operand.tmp 13), type := _, pos := _, after := _, guard := _ } :: _) _ _
             refine load_g rfl 29 _ rfl wk12.heap.size 0 rfl (Vw.zero.cs aD cD) d (HS13.out.has mm0).range hd hrw infoV ?_)
          | (with_reducible show wpList _ _ _ ({ dst := _, op := Op.load 29 (Operand.tmp 11), type := _, pos := _, after := _, guard := _ } :: _) _ _
             refine load_g rfl 29 _ rfl wk8.heap.size 0 rfl (Vw.zero.cs a5 c5) d (HS13.out.has mm1).range hd hrw infoV ?_)
          | (with_reducible show wpList _ _ _ ({ dst := _, op := Op.load 29 (Operand.tmp 9), type := _, pos := _, after := _, guard := _ } :: _) _ _
             refine load_g rfl 29 _ rfl wk6.heap.size 0 rfl (Vw.zero.cs a4 c4) d (HS13.out.has mm2).range hd hrw infoV ?_)
          | (with_reducible show wpList _ _ _ ({ dst := _, op := Op.load 29 (Operand.tmp 7), type := _, pos := _, after := _, guard := _ } :: _) _ _
             refine load_g rfl 29 _ rfl wk3.heap.size 0 rfl (V.cs a3 c3) d (HS13.out.has mm3).range hd hrw infoV ?_)
          | (with_reducible show wpList _ _ _ ({ dst := _, op := Op.load 29 (Operand.tmp 2), type := _, pos := _, after := _, guard := _ } :: _) _ _
             refine load_g rfl 29 _ rfl w.heap.size 0 rfl (V.cs a c) d (HS13.out.has mm4).range hd hrw infoV ?_)
          | (with_reducible show wpList _ _ _ ({ dst := none, op := Op.store 29 (Operand.tmp 13) _, type := _, pos := _, after := _, guard := _ } :: _) _ _
             refine st_new wk12 (Vw.zero.cs aD cD) 29 rfl rfl rfl rfl rfl infoV (vw_one _ _ _) ?_
             intro wk13 h6 g6
             have HS13 := Keep.mk (HS12.out.add h6 g6 HRD2.out)
             clear h6 g6)
          | (with_reducible show wpList _ _ _ ({ dst := _, op := Op.build 29 _, type := _, pos := _, after := _, guard := _ } :: _) _ _
             refine build_g rfl 29 _ rfl _ ((congrArg (Tryz.prog.built 29) (by simp only [List.map_toArray, List.map_nil]; rfl)).trans HBT.out) ?_
             simp only [Act.put, List.setIfInBounds_toArray, List.set_cons_zero, List.set_cons_succ])
          | (with_reducible show wpList _ _ _ ({ dst := _, op := Op.load 29 (Operand.tmp 11), type := _, pos := _, after := _, guard := _ } :: _) _ _
             refine load_g rfl 29 _ rfl wk8.heap.size 0 rfl (Vw.zero.cs a5 c5) d (HS12.out.has mm0).range hd hrw infoV ?_)
          | (with_reducible show wpList _ _ _ ({ dst := _, op := Op.load 29 (Operand.tmp 9), type := _, pos := _, after := _, guard := _ } :: _) _ _
             refine load_g rfl 29 _ rfl wk6.heap.size 0 rfl (Vw.zero.cs a4 c4) d (HS12.out.has mm1).range hd hrw infoV ?_)
          | (with_reducible show wpList _ _ _ ({ dst := _, op := Op.load 29 (Operand.tmp 7), type := _, pos := _, after := _, guard := _ } :: _) _ _
             refine load_g rfl 29 _ rfl wk3.heap.size 0 rfl (V.cs a3 c3) d (HS12.out.has mm2).range hd hrw infoV ?_)
          | (with_reducible show wpList _ _ _ ({ dst := _, op := Op.load 29 (Operand.tmp 2), type := _, pos := _, after := _, guard := _ } :: _) _ _
             refine load_g rfl 29 _ rfl w.heap.size 0 rfl (V.cs a c) d (HS12.out.has mm3).range hd hrw infoV ?_))
        refine (same_c Vw.zero Vw.zero aD none cD 0 wk13 (HS13.out.seen mm0) (seen_nil _) (by show 0 ≤ _; omega)).mono ?_
        rintro e wk14 ⟨b, rfl, hb, g4⟩
        obtain rfl : b = true := hb.2 rfl
        have HS14 := Keep.mk (HS13.out.kept g4)
        clear hb g4
        go_wp2_with fail
        go_ret
        exact ⟨rfl, HS14.out.g⟩
      · rw [hcc] at hq hq2 ⊢
        clear hcc
        go_wp2_with (first
          | (with_reducible show wpList _ _ _ ({ dst := _, op := Op.load 29 (Operand.tmp 13), type := _, pos := _, after := _, guard := _ } :: _) _ _
             refine load_g rfl 29 _ rfl wk12.heap.size 0 rfl (Vw.zero.cs aD cD) d (HS13.out.has mm0).range hd hrw infoV ?_)
          | (with_reducible show wpList _ _ _ ({ dst := _, op := Op.load 29 (Operand.tmp 11), type := _, pos := _, after := _, guard := _ } :: _) _ _
             refine load_g rfl 29 _ rfl wk8.heap.size 0 rfl (Vw.zero.cs a5 c5) d (HS13.out.has mm1).range hd hrw infoV ?_)
          | (with_reducible show wpList _ _ _ ({ dst := _, op := Op.load 29 (Operand.tmp 9), type := _, pos := _, after := _, guard := _ } :: _) _ _
             refine load_g rfl 29 _ rfl wk6.heap.size 0 rfl (Vw.zero.cs a4 c4) d (HS13.out.has mm2).range hd hrw infoV ?_)
          | (with_reducible show wpList _ _ _ ({ dst := _, op := Op.load 29 (Operand.tmp 7), type := _, pos := _, after := _, guard := _ } :: _) _ _
             refine load_g rfl 29 _ rfl wk3.heap.size 0 rfl (V.cs a3 c3) d (HS13.out.has mm3).range hd hrw infoV ?_)
          | (with_reducible show wpList _ _ _ ({ dst := _, op := Op.load 29 (Operand.tmp 2), type := _, pos := _, after := _, guard := _ } :: _) _ _
             refine load_g rfl 29 _ rfl w.heap.size 0 rfl (V.cs a c) d (HS13.out.has mm4).range hd hrw infoV ?_)
          | (with_reducible show wpList _ _ _ ({ dst := none, op := Op.store 29 (Operand.tmp 13) _, type := _, pos := _, after := _, guard := _ } :: _) _ _
             refine st_new wk12 (Vw.zero.cs aD cD) 29 rfl rfl rfl rfl rfl infoV (vw_one _ _ _) ?_
             intro wk13 h6 g6
             have HS13 := Keep.mk (HS12.out.add h6 g6 HRD2.out)
             clear h6 g6)
          | (with_reducible show wpList _ _ _ ({ dst := _, op := Op.build 29 _, type := _, pos := _, after := _, guard := _ } :: _) _ _
             refine build_g rfl 29 _ rfl _ ((congrArg (Tryz.prog.built 29) (by simp only [List.map_toArray, List.map_nil]; rfl)).trans HBT.out) ?_
             simp only [Act.put, List.setIfInBounds_toArray, List.set_cons_zero, List.set_cons_succ])
          | (with_reducible show wpList _ _ _ ({ dst := _, op := Op.load 29 (Operand.tmp 11), type := _, pos := _, after := _, guard := _ } :: _) _ _
             refine load_g rfl 29 _ rfl wk8.heap.size 0 rfl (Vw.zero.cs a5 c5) d (HS12.out.has mm0).range hd hrw infoV ?_)
          | (with_reducible show wpList _ _ _ ({ dst := _, op := Op.load 29 (Operand.tmp 9), type := _, pos := _, after := _, guard := _ } :: _) _ _
             refine load_g rfl 29 _ rfl wk6.heap.size 0 rfl (Vw.zero.cs a4 c4) d (HS12.out.has mm1).range hd hrw infoV ?_)
          | (with_reducible show wpList _ _ _ ({ dst := _, op := Op.load 29 (Operand.tmp 7), type := _, pos := _, after := _, guard := _ } :: _) _ _
             refine load_g rfl 29 _ rfl wk3.heap.size 0 rfl (V.cs a3 c3) d (HS12.out.has mm2).range hd hrw infoV ?_)
          | (with_reducible show wpList _ _ _ ({ dst := _, op := Op.load 29 (Operand.tmp 2), type := _, pos := _, after := _, guard := _ } :: _) _ _
             refine load_g rfl 29 _ rfl w.heap.size 0 rfl (V.cs a c) d (HS12.out.has mm3).range hd hrw infoV ?_))
        refine (same_c Vw.zero Vw.zero aD none cD 0 wk13 (HS13.out.seen mm0) (seen_nil _) (by show 0 ≤ _; omega)).mono ?_
        rintro e wk14 ⟨b, rfl, hb, g4⟩
        obtain rfl : b = true := hb.2 rfl
        have HS14 := Keep.mk (HS13.out.kept g4)
        clear hb g4
        go_wp2_with fail
        go_ret
        exact ⟨rfl, HS14.out.g⟩
  · have hwr := wrV_no HK.out.2.1 hf
    rw [hwr]
    clear hf hwr
    go_wp2_with fail
    have RD := read_c data wk2
    obtain ⟨V2, hV2⟩ : ∃ q, (rdV (sl data)).1 = q := ⟨_, rfl⟩
    obtain ⟨cd, hcd⟩ : ∃ q, (rdV (sl data)).2 = q := ⟨_, rfl⟩
    have HV2 := Keep.mk (And.intro hV2 hcd)
    rw [hV2, hcd] at RD
    clear hV2 hcd
    refine RD.mono ?_
    rintro e wk3 ⟨aD, cD, rfl, RRD⟩
    have HS3 := Keep.mk (HS2.out.kept RRD.g)
    have HRD2 := Keep.mk (rd_seen RRD)
    clear RD RRD
    by_cases hz : cd = 0
    · have hq : (cd == 0) = true := by simp [hz]
      have hq2 : (cd != 0) = false := by simp [hz]
      have HW : Keep (V2.ok ∧ fitV V2 ∧ encV V2 = sl data) := by
        have h := wr_rd (b := sl data) (by rw [HV2.out.2]; exact hz)
        rw [HV2.out.1] at h
        exact ⟨h⟩
      have HW2 : Keep (wrV V2 = (sl data, 0)) := ⟨by rw [wrV_yes HW.out.1 HW.out.2.1, HW.out.2.2]⟩
      clear hz
      go_wp2_with (first
        | (with_reducible show wpList _ _ _ ({ dst := _, op := Op.load 29 (Operand.tmp 13), type := _, pos := _, after := _, guard := _ } :: _) _ _
           refine load_g rfl 29 _ rfl wk3.heap.size 0 rfl (V2.cs aD cD) d (HS4.out.has mm0).range hd hrw infoV ?_)
        | (with_reducible show wpList _ _ _ ({ dst := _, op := Op.load 29 (Operand.tmp 2), type := _, pos := _, after := _, guard := _ } :: _) _ _
           refine load_g rfl 29 _ rfl w.heap.size 0 rfl (V.cs a c) d (HS4.out.has mm1).range hd hrw infoV ?_)
        | (with_reducible show wpList _ _ _ ({ dst := none, op := Op.store 29 (Operand.tmp 13) _, type := _, pos := _, after := _, guard := _ } :: _) _ _
           refine st_new wk3 (V2.cs aD cD) 29 rfl rfl rfl rfl rfl infoV (vw_one _ _ _) ?_
           intro wk4 h6 g6
           have HS4 := Keep.mk (HS3.out.add h6 g6 HRD2.out)
           clear h6 g6)
        | (with_reducible show wpList _ _ _ ({ dst := _, op := Op.load 29 (Operand.tmp 2), type := _, pos := _, after := _, guard := _ } :: _) _ _
           refine load_g rfl 29 _ rfl w.heap.size 0 rfl (V.cs a c) d (HS3.out.has mm0).range hd hrw infoV ?_))
      have WD := write_c V2 aD cD wk4 HW.out.1 (HS4.out.seen mm0)
      rw [HW2.out, show (⟨(sl data, (0 : Int)).1.toArray⟩ : ByteArray) = data from sl_back data] at WD
      refine WD.mono ?_
      rintro e wF ⟨rfl, gF⟩
      have HGF := Keep.mk (HS4.out.g.trans gF)
      clear WD gF
      go_wp2_with fail
      go_ret
      exact ⟨rfl, HGF.out⟩
    · have hq : (cd == 0) = false := by simp [hz]
      have hq2 : (cd != 0) = true := by simp [hz]
      have hcc : cd = 50 ∨ cd = 51 := by
        have h := (rd_codes (sl data)).1
        rw [HV2.out.2] at h
        rcases h with h | h
        · exact absurd h hz
        · exact h
      obtain rfl : V2 = Vw.zero := by
        have h := (rd_codes (sl data)).2 (by rw [HV2.out.2]; exact hz)
        rw [HV2.out.1] at h
        exact h
      clear hz
      rcases hcc with hcc | hcc
      · rw [hcc] at hq hq2 ⊢
        clear hcc
        go_wp2_with (first
          | (with_reducible show wpList _ _ _ ({ dst := _, op := Op.load 29 (Operand.tmp 13), type := _, pos := _, after := _, guard := _ } :: _) _ _
             refine load_g rfl 29 _ rfl wk3.heap.size 0 rfl (Vw.zero.cs aD cD) d (HS4.out.has mm0).range hd hrw infoV ?_)
          | (with_reducible show wpList _ _ _ ({ dst := _, op := Op.load 29 (Operand.tmp 2), type := _, pos := _, after := _, guard := _ } :: _) _ _
             refine load_g rfl 29 _ rfl w.heap.size 0 rfl (V.cs a c) d (HS4.out.has mm1).range hd hrw infoV ?_)
          | (with_reducible show wpList _ _ _ ({ dst := none, op := Op.store 29 (Operand.tmp 13) _, type := _, pos := _, after := _, guard := _ } :: _) _ _
             refine st_new wk3 (Vw.zero.cs aD cD) 29 rfl rfl rfl rfl rfl infoV (vw_one _ _ _) ?_
             intro wk4 h6 g6
             have HS4 := Keep.mk (HS3.out.add h6 g6 HRD2.out)
             clear h6 g6)
          | (with_reducible show wpList _ _ _ ({ dst := _, op := Op.build 29 _, type := _, pos := _, after := _, guard := _ } :: _) _ _
             refine build_g rfl 29 _ rfl _ ((congrArg (Tryz.prog.built 29) (by simp only [List.map_toArray, List.map_nil]; rfl)).trans HBT.out) ?_
             simp only [Act.put, List.setIfInBounds_toArray, List.set_cons_zero, List.set_cons_succ])
          | (with_reducible show wpList _ _ _ ({ dst := _, op := Op.load 29 (Operand.tmp 2), type := _, pos := _, after := _, guard := _ } :: _) _ _
             refine load_g rfl 29 _ rfl w.heap.size 0 rfl (V.cs a c) d (HS3.out.has mm0).range hd hrw infoV ?_))
        refine (same_c Vw.zero Vw.zero aD none cD 0 wk4 (HS4.out.seen mm0) (seen_nil _) (by show 0 ≤ _; omega)).mono ?_
        rintro e wk5 ⟨b, rfl, hb, g4⟩
        obtain rfl : b = true := hb.2 rfl
        have HS5 := Keep.mk (HS4.out.kept g4)
        clear hb g4
        go_wp2_with fail
        go_ret
        exact ⟨rfl, HS5.out.g⟩
      · rw [hcc] at hq hq2 ⊢
        clear hcc
        go_wp2_with (first
          | (with_reducible show wpList _ _ _ ({ dst := _, op := Op.load 29 (Operand.tmp 13), type := _, pos := _, after := _, guard := _ } :: _) _ _
             refine load_g rfl 29 _ rfl wk3.heap.size 0 rfl (Vw.zero.cs aD cD) d (HS4.out.has mm0).range hd hrw infoV ?_)
          | (with_reducible show wpList _ _ _ ({ dst := _, op := Op.load 29 (Operand.tmp 2), type := _, pos := _, after := _, guard := _ } :: _) _ _
             refine load_g rfl 29 _ rfl w.heap.size 0 rfl (V.cs a c) d (HS4.out.has mm1).range hd hrw infoV ?_)
          | (with_reducible show wpList _ _ _ ({ dst := none, op := Op.store 29 (Operand.tmp 13) _, type := _, pos := _, after := _, guard := _ } :: _) _ _
             refine st_new wk3 (Vw.zero.cs aD cD) 29 rfl rfl rfl rfl rfl infoV (vw_one _ _ _) ?_
             intro wk4 h6 g6
             have HS4 := Keep.mk (HS3.out.add h6 g6 HRD2.out)
             clear h6 g6)
          | (with_reducible show wpList _ _ _ ({ dst := _, op := Op.build 29 _, type := _, pos := _, after := _, guard := _ } :: _) _ _
             refine build_g rfl 29 _ rfl _ ((congrArg (Tryz.prog.built 29) (by simp only [List.map_toArray, List.map_nil]; rfl)).trans HBT.out) ?_
             simp only [Act.put, List.setIfInBounds_toArray, List.set_cons_zero, List.set_cons_succ])
          | (with_reducible show wpList _ _ _ ({ dst := _, op := Op.load 29 (Operand.tmp 2), type := _, pos := _, after := _, guard := _ } :: _) _ _
             refine load_g rfl 29 _ rfl w.heap.size 0 rfl (V.cs a c) d (HS3.out.has mm0).range hd hrw infoV ?_))
        refine (same_c Vw.zero Vw.zero aD none cD 0 wk4 (HS4.out.seen mm0) (seen_nil _) (by show 0 ≤ _; omega)).mono ?_
        rintro e wk5 ⟨b, rfl, hb, g4⟩
        obtain rfl : b = true := hb.2 rfl
        have HS5 := Keep.mk (HS4.out.kept g4)
        clear hb g4
        go_wp2_with fail
        go_ret
        exact ⟨rfl, HS5.out.g⟩
end Go.Proofs.YtkdjcknikhgfkaaGreatDoor.Pk.Sn
