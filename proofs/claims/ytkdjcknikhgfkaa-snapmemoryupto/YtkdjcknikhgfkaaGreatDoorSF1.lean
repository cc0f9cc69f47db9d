import Derived.Test.YtkdjcknikhgfkaaGreatDoorSF0
/- SnapFits: the walk -/
namespace Go.Proofs.YtkdjcknikhgfkaaGreatDoor.Pk.Sn
open Go Go.RowKit

theorem Sep.addBox {w0 W W' : World} {l : List As} {cs : List Value} {t : TypeId} (h : Sep w0 W l) (h6 : Has W' W.heap.size cs t) (g : W.grownBy W' none) : Sep w0 W' (boxA W.heap.size cs t :: l) :=
  h.new g (Loc.one (a := boxA _ _ _) _ ⟨h6, rfl⟩ (fun i hi => .inr (by rw [hi]; exact Nat.le_refl _)))
theorem Sep.boxAll {w0 W W' : World} {l : List As} {b : Nat} {cs ds : List Value} {t : TypeId} (h : Sep w0 W (boxA b cs t :: l)) (h6 : Has W' b ds t) (g : W.grownBy W' (some b)) : Sep w0 W' (boxA b ds t :: l) := by
  obtain ⟨F, ⟨h1, rfl⟩, _, hu⟩ := h.use
  exact hu _ [_] (Fr.ofSome g rfl) (Loc.one (a := boxA _ _ _) _ ⟨h6, rfl⟩ (fun i hi => .inl hi))
theorem World.rangeAt_of {w : World} {b o : Nat} {cs : List Value} (h : ∀ (i : Nat) (z : Value), cs[i]? = some z → w.cell? ⟨b, o + i, none⟩ = some z) : w.rangeAt b o cs := h
theorem row_seen {w0 W : World} {l : List As} {v : Value} {n : Nat} {S : List Sn} (h : Sep w0 W (rowV 40 5 v n (fls S) :: l)) (hn : 0 < n) : ∃ g c, v = .slice (some ⟨g, 0, none⟩) n c ∧ SnR W g 0 S := by
  obtain ⟨g, c, e, hc⟩ := own_any (h.rowGet mm0) hn
  exact ⟨g, c, e, fun j s hj i z hz => by rw [Nat.zero_add]; exact (hc _ _ (fls_at S j s hj i z hz)).1⟩
set_option maxHeartbeats 8000000 in
set_option maxRecDepth 100000 in
theorem snapFits_c (V : Vw) (a : Option Addr) (c : Nat) (key : ByteArray) (w : World) (hk : Kc w) (ho : V.ok) (hr : SeenR w a V.S) (hl : V.S.length ≤ 140737488355328) (hks : key.size ≤ 140737488355328) :
    Calls Tryz.prog 4 #[.agg (V.cs a c).toArray, .string key] w fun e w' => e = .returned (.bool true) ∧ w.grownBy w' none := by
  obtain ⟨d, hd, hrw⟩ := underV
  obtain ⟨d4, hd4, hrw4⟩ := underSn
  obtain ⟨n, hn⟩ : ∃ n, V.S.length = n := ⟨_, rfl⟩
  obtain ⟨w0, hw0⟩ : ∃ q, w.alloc (.cells (V.cs a c).toArray 29) = q := ⟨_, rfl⟩
  have HS0 : Keep (Sep w w0 [boxA w.heap.size (V.cs a c) 29]) := ⟨by rw [← hw0]; exact (Sep.nil w).newBox _ _⟩
  have HK := Keep.mk (And.intro hk (And.intro ho (And.intro hr (And.intro hl (And.intro hks hn)))))
  unfold Vw.cs at hw0 ⊢
  rw [hn] at hw0 ⊢
  clear hk ho hr hl hks hn
  go_enter Tryz.func4, Tryz.ntmps4
  go_wp2_with fail
  refine (alive_c w0 (HK.out.1.kept HS0.out.g (by simp))).mono ?_
  rintro e w1 ⟨rfl, g1⟩
  have HS1 := Keep.mk (HS0.out.grown g1)
  clear g1
  obtain ⟨p, hp⟩ : ∃ q, (IntKind.u64.wrap V.p).tmod 32 = q := ⟨_, rfl⟩
  have HP : Keep (0 ≤ p ∧ p < 32) := ⟨by rw [← hp]; exact md_in V.p 32 (by omega)⟩
  have hp0 : 0 ≤ p := HP.out.1
  have hp1 : p < 32 := HP.out.2
  have cp : w1.cell? ⟨w.heap.size, 1, none⟩ = some (.int .i64 V.p) := (HS1.out.boxGet mm0).cellv 1 _ rfl
  have fp := (HS1.out.boxGet mm0).frozen 1
  obtain ⟨w2, hw2⟩ : ∃ q, w1.setCell ⟨w.heap.size, 1, none⟩ (.int .i64 p) = q := ⟨_, rfl⟩
  have HS2 : Keep (Sep w w2 [boxA w.heap.size (Vw.cs { V with p := p } a c) 29]) := ⟨by rw [← hw2]; exact HS1.out.boxPut 1 (iv p)⟩
  have cn : w2.cell? ⟨w.heap.size, 2, none⟩ = some (.string V.n) := (HS2.out.boxGet mm0).cellv 2 _ rfl
  have fn := (HS2.out.boxGet mm0).frozen 2
  obtain ⟨m, hm⟩ : ∃ q, V.n.size = q := ⟨_, rfl⟩
  by_cases hmb : 24 < m
  · have hmb' : (24 : Int) < (m : Int) := by omega
    have hmb2 : (24 : Int) ≤ (m : Int) := by omega
    obtain ⟨n2, hn2⟩ : ∃ q, V.n.extract 0 24 = q := ⟨_, rfl⟩
    have HN2 : Keep (n2.size ≤ 24) := ⟨by rw [← hn2, ByteArray.size_extract]; omega⟩
    have hsl : ∀ W, (Instr.slice 9 (.string V.n) none (some (.int .i64 24)) none).run Tryz.prog W = .ok (.string n2) W := fun W => by
      rw [run_slice_string_h W 9 V.n under9 .i64 24 (by omega) (by rw [hm]; omega), show ((24 : Int).toNat) = 24 by rfl, hn2]
    obtain ⟨w3, hw3⟩ : ∃ q, w2.setCell ⟨w.heap.size, 2, none⟩ (.string n2) = q := ⟨_, rfl⟩
    have HS3 : Keep (Sep w w3 [boxA w.heap.size (Vw.cs { V with p := p, n := n2 } a c) 29]) := ⟨by rw [← hw3]; exact HS2.out.boxPut 2 (.string n2)⟩
    go_wp2_with fail
    clear cn fn cp fp hw2
    go_loopw [5, 6] (fun u5 u wr => ∃ j : Nat, j ≤ 32 ∧ u = .int .i64 j ∧ Keep (Sep w wr [rowV 40 5 u5 (ftL V.S j).length (fls (ftL V.S j)), boxA w.heap.size (Vw.cs { V with p := p, n := n2 } a c) 29])) (fun _ u _ => 32 - (intOf u).toNat)
    case atStart => exact ⟨0, by omega, rfl, ⟨HS3.out.nilV 40 5⟩⟩
    case round =>
      obtain ⟨j, hj, rfl, hrel⟩ := hrel
      by_cases hlt : j < 32
      · have hlt' : (j : Int) < 32 := by omega
        obtain ⟨r, hr⟩ : ∃ q, (j : Int).tmod 2 = q := ⟨_, rfl⟩
        have HR : Keep (0 ≤ r ∧ r ≤ 1) := ⟨by rw [← hr]; exact r2_in j⟩
        have hr0 : 0 ≤ r := HR.out.1
        have hr1 : r ≤ 1 := HR.out.2
        have HSR := hrel
        have HBS := Keep.mk (builtSn (1 + r) (j : Int))
        clear hrel
        by_cases hjn : j < n
        · have hs := List.getElem?_eq_getElem (l := V.S) (i := j) (by rw [HK.out.2.2.2.2.2]; exact hjn)
          obtain ⟨s, hs2⟩ : ∃ s, V.S[j]? = some s := ⟨_, hs⟩
          have hne : V.S ≠ [] := fun e => by rw [e] at hs2; cases hs2
          obtain ⟨sb, so, rfl, R0⟩ := HK.out.2.2.1 hne
          have HS2' := Keep.mk (And.intro hs2 R0)
          obtain ⟨hh, hhe⟩ : ∃ q, (IntKind.u64.wrap s.h).tmod 256 = q := ⟨_, rfl⟩
          have HH : Keep (0 ≤ hh ∧ hh < 256) := ⟨by rw [← hhe]; exact md_in s.h 256 (by omega)⟩
          have hh0 : 0 ≤ hh := HH.out.1
          have hh1 : hh < 256 := HH.out.2
          have HFT : Keep (ftS V.S j = ⟨1 + r, s.i, s.x, s.y, hh⟩) := ⟨by unfold ftS; rw [hs2]; simp only [hr, hhe]⟩
          have hjn' : (j : Int) < (n : Int) := by omega
          clear hs hs2 hne R0
          go_wp2_with (first
            | (with_reducible show wpList _ _ _ ({ dst := some 43, op := Op.build 40 _, type := _, pos := _, after := _, guard := _ } :: _) _ _
               refine build_g rfl 40 _ rfl _ ((congrArg (Tryz.prog.built 40) (by first | (simp only [List.map_toArray, List.map_cons, List.map_nil, Act.eval]; done) | (simp only [List.map_toArray, List.map_cons, List.map_nil, Act.eval]; with_reducible rfl) | (simp only [List.map_toArray, List.map_cons, List.map_nil, Act.eval]; rfl))).trans HBS.out) ?_
               simp only [Act.put, List.setIfInBounds_toArray, List.set_cons_zero, List.set_cons_succ])
            | (with_reducible show wpList _ _ _ ({ dst := none, op := Op.store 40 _ (Operand.tmp 43), type := _, pos := _, after := _, guard := _ } :: _) _ _
               refine st_new wr (Sn.cs ⟨1 + r, (j : Int), 0, 0, 0⟩) 40 rfl rfl rfl rfl rfl infoSz (sn_one _) ?_
               intro w4 h6 g6
               have HS4 := Keep.mk (HSR.out.addBox h6 g6)
               have c15 : w4.cell? ⟨w.heap.size, 15, none⟩ = some (.slice (some ⟨sb, so, none⟩) n c) := by rw [← HK.out.2.2.2.2.2]; exact (HS4.out.boxGet mm2).cellv 15 _ rfl
               have HR4 := Keep.mk (World.rangeAt_of (fun i z hz => HS4.out.g.cell (HS2'.out.2 j s HS2'.out.1 i z hz) (by simp)))
               clear h6 g6)
            | (with_reducible show wpList _ _ _ ({ dst := some 53, op := Op.load 40 _, type := _, pos := _, after := _, guard := _ } :: _) _ _
               refine load_g rfl 40 _ rfl sb _ rfl s.cs d4 (by first | exact HR4.out | (rw [Nat.mul_comm]; exact HR4.out)) hd4 hrw4 infoSz ?_)
            | (with_reducible show wpList _ _ _ ({ dst := none, op := Op.store 40 _ (Operand.tmp 53), type := _, pos := _, after := _, guard := _ } :: _) _ _
               refine st_all _ wr.heap.size (Sn.cs ⟨1 + r, (j : Int), 0, 0, 0⟩) s.cs 40 40 rfl rfl rfl rfl (HS4.out.boxGet mm0) rfl infoSz (sn_one s) ?_
               intro w5 h7 g7
               have HS5 := Keep.mk (HS4.out.boxAll h7 g7)
               clear h7 g7 c15
               have x0 : w5.cell? ⟨wr.heap.size, 0, none⟩ = some (.int .i64 s.k) := (HS5.out.boxGet mm0).cellv 0 _ rfl
               have f0 := (HS5.out.boxGet mm0).frozen 0
               obtain ⟨w6, hw6⟩ : ∃ q, w5.setCell ⟨wr.heap.size, 0, none⟩ (.int .i64 (1 + r)) = q := ⟨_, rfl⟩
               have HS6 : Keep (Sep w w6 (boxA wr.heap.size (s.cs.set 0 (iv (1 + r))) 40 :: [rowV 40 5 u5 (ftL V.S j).length (fls (ftL V.S j)), boxA w.heap.size (Vw.cs { V with p := p, n := n2 } (some ⟨sb, so, none⟩) c) 29])) := ⟨by rw [← hw6]; exact HS5.out.boxPut 0 (iv (1 + r))⟩
               have x4 : w6.cell? ⟨wr.heap.size, 4, none⟩ = some (.int .i64 s.h) := (HS6.out.boxGet mm0).cellv 4 _ rfl
               have f4 := (HS6.out.boxGet mm0).frozen 4
               obtain ⟨w7, hw7⟩ : ∃ q, w6.setCell ⟨wr.heap.size, 4, none⟩ (.int .i64 hh) = q := ⟨_, rfl⟩
               have HS7 : Keep (Sep w w7 (boxA wr.heap.size (ftS V.S j).cs 40 :: [rowV 40 5 u5 (ftL V.S j).length (fls (ftL V.S j)), boxA w.heap.size (Vw.cs { V with p := p, n := n2 } (some ⟨sb, so, none⟩) c) 29])) := ⟨by rw [← hw7, HFT.out]; exact HS6.out.boxPut 4 (iv hh)⟩
               obtain ⟨g8, k8, w8, AP, HS8⟩ := Sep.appSn (ftS V.S j) HS7.out.swap (by rw [ftL_len]; omega)
               have HS9 := Keep.mk (HS8.dropM [_] [_])
               have HXV := Keep.mk (HS7.out.boxGet mm0).range
               clear HS8)
            | (with_reducible show wpList _ _ _ ({ dst := some 65, op := Op.load 40 _, type := _, pos := _, after := _, guard := _ } :: _) _ _
               refine load_g rfl 40 _ rfl _ 0 rfl (ftS V.S j).cs d4 HXV.out hd4 hrw4 infoSz ?_)
            | (with_reducible show wpList _ _ _ ({ dst := some 66, op := Op.buildSlice 27 _ _, type := _, pos := _, after := _, guard := _ } :: _) _ _
               refine wpList_bs_run rfl (.tmp 65) 27 rfl _ rfl (bsSn _ _) ?_)
            | (with_reducible show wpList _ _ _ ({ dst := some 67, op := Op.call { callee := Callee.builtin Builtin.append, args := _, argTypes := _ }, type := _, pos := _, after := _, guard := _ } :: _) _ _
               refine wpList_append_run _ rfl (.tmp 64) (.tmp 66) 27 rfl _ _ rfl rfl AP ?_))
          clear AP HXV
          go_roundw
          case rel => exact ⟨j + 1, by omega, by go_num, by rw [ftL_next]; exact HS9⟩
          case measure => simp [intOf]; omega
        · have hjn' : ¬ (j : Int) < (n : Int) := by omega
          have HFT : Keep (ftS V.S j = ⟨1 + r, (j : Int), 0, 0, 0⟩) := ⟨by unfold ftS; rw [List.getElem?_eq_none (by rw [HK.out.2.2.2.2.2]; omega)]; simp only [hr]⟩
          go_wp2_with (first
            | (with_reducible show wpList _ _ _ ({ dst := some 43, op := Op.build 40 _, type := _, pos := _, after := _, guard := _ } :: _) _ _
               refine build_g rfl 40 _ rfl _ ((congrArg (Tryz.prog.built 40) (by first | (simp only [List.map_toArray, List.map_cons, List.map_nil, Act.eval]; done) | (simp only [List.map_toArray, List.map_cons, List.map_nil, Act.eval]; with_reducible rfl) | (simp only [List.map_toArray, List.map_cons, List.map_nil, Act.eval]; rfl))).trans HBS.out) ?_
               simp only [Act.put, List.setIfInBounds_toArray, List.set_cons_zero, List.set_cons_succ])
            | (with_reducible show wpList _ _ _ ({ dst := none, op := Op.store 40 _ (Operand.tmp 43), type := _, pos := _, after := _, guard := _ } :: _) _ _
               refine st_new wr (Sn.cs ⟨1 + r, (j : Int), 0, 0, 0⟩) 40 rfl rfl rfl rfl rfl infoSz (sn_one _) ?_
               intro w4 h6 g6
               rw [← HFT.out] at h6
               have HS4 := Keep.mk (HSR.out.addBox h6 g6)
               have c15 : w4.cell? ⟨w.heap.size, 15, none⟩ = some (.slice a n c) := by rw [← HK.out.2.2.2.2.2]; exact (HS4.out.boxGet mm2).cellv 15 _ rfl
               obtain ⟨g8, k8, w8, AP, HS8⟩ := Sep.appSn (ftS V.S j) HS4.out.swap (by rw [ftL_len]; omega)
               have HS9 := Keep.mk (HS8.dropM [_] [_])
               have HXV := Keep.mk (HS4.out.boxGet mm0).range
               clear HS8
               clear h6 g6)
            | (with_reducible show wpList _ _ _ ({ dst := some 65, op := Op.load 40 _, type := _, pos := _, after := _, guard := _ } :: _) _ _
               refine load_g rfl 40 _ rfl _ 0 rfl (ftS V.S j).cs d4 HXV.out hd4 hrw4 infoSz ?_)
            | (with_reducible show wpList _ _ _ ({ dst := some 66, op := Op.buildSlice 27 _ _, type := _, pos := _, after := _, guard := _ } :: _) _ _
               refine wpList_bs_run rfl (.tmp 65) 27 rfl _ rfl (bsSn _ _) ?_)
            | (with_reducible show wpList _ _ _ ({ dst := some 67, op := Op.call { callee := Callee.builtin Builtin.append, args := _, argTypes := _ }, type := _, pos := _, after := _, guard := _ } :: _) _ _
               refine wpList_append_run _ rfl (.tmp 64) (.tmp 66) 27 rfl _ _ rfl rfl AP ?_))
          clear AP HXV
          go_roundw
          case rel => exact ⟨j + 1, by omega, by go_num, by rw [ftL_next]; exact HS9⟩
          case measure => simp [intOf]; omega
      · have hlt' : ¬ (j : Int) < 32 := by omega
        obtain rfl : j = 32 := by omega
        have HSR := hrel
        clear hrel
        obtain ⟨g, c', e5, _⟩ := own_any (HSR.out.rowGet mm0) (by rw [ftL_len]; omega)
        rw [ftL_len] at e5
        subst e5
        have c15 : wr.cell? ⟨w.heap.size, 15, none⟩ = some (.slice a n c) := by rw [← HK.out.2.2.2.2.2]; exact (HSR.out.boxGet mm1).cellv 15 _ rfl
        have f15 := (HSR.out.boxGet mm1).frozen 15
        obtain ⟨w5, hw5⟩ : ∃ q, wr.setCell ⟨w.heap.size, 15, none⟩ (.slice (some ⟨g, 0, none⟩) 32 c') = q := ⟨_, rfl⟩
        have HS5 : Keep (Sep w w5 (boxA w.heap.size ((ftV V p n2).cs (some ⟨g, 0, none⟩) c') 29 :: [rowV 40 5 (.slice (some ⟨g, 0, none⟩) 32 c') (ftL V.S 32).length (fls (ftL V.S 32))])) := by
          have h := HSR.out.swap.boxPut 15 (.slice (some ⟨g, 0, none⟩) 32 c')
          rw [hw5] at h
          have e : (Vw.cs { V with p := p, n := n2 } a c).set 15 (.slice (some ⟨g, 0, none⟩) 32 c') = (ftV V p n2).cs (some ⟨g, 0, none⟩) c' := by
            unfold ftV Vw.cs
            simp only [ftL_len]
            rfl
          rw [e] at h
          exact ⟨h⟩
        have HSN : Keep (SeenR w5 (some ⟨g, 0, none⟩) (ftV V p n2).S) := by
          obtain ⟨g2, c2, e2, R⟩ := row_seen HS5.out.swap (by rw [ftL_len]; omega)
          injection e2 with e3
          injection (Option.some.inj e3) with e4
          subst e4
          exact ⟨fun _ => ⟨g, 0, rfl, R⟩⟩
        obtain ⟨F, hF⟩ : ∃ q, ftV V p n2 = q := ⟨_, rfl⟩
        obtain ⟨nm, hnm⟩ : ∃ q, n2.size = q := ⟨_, rfl⟩
        have hnm24 : nm ≤ 24 := by have := HN2.out; omega
        have HF : Keep (F.ok ∧ fitV F ∧ F.S.length = 32 ∧ F.n = n2) := by
          have h := ftV_ok (n := n2) HK.out.2.1 HP.out HN2.out
          rw [hF] at h
          exact ⟨h.1, h.2, by rw [← hF]; exact ftL_len _ _, by rw [← hF]; rfl⟩
        rw [hF] at HS5 HSN
        have HSt : Keep (St w5 w5 [⟨w.heap.size, F, some ⟨g, 0, none⟩, c'⟩]) := ⟨⟨World.grownBy.refl _ _, fun x hx => by
          rw [List.mem_singleton] at hx; subst hx
          exact ⟨HS5.out.boxGet mm0, HSN.out⟩⟩⟩
        have HG5 : Keep (w.grownBy w5 none) := ⟨HS5.out.g⟩
        obtain ⟨E, hE⟩ : ∃ q, snB 1 1 (encV F) = q := ⟨_, rfl⟩
        obtain ⟨t, ht⟩ : ∃ q, ba (E ++ Mac.hmac (sl key) E) = q := ⟨_, rfl⟩
        obtain ⟨N, hN⟩ : ∃ q, t.size = q := ⟨_, rfl⟩
        have HEL : Keep ((encV F).length = 939 + nm) := ⟨by rw [encV_len, HF.out.2.2.1, HF.out.2.2.2, hnm]; omega⟩
        have HNN : Keep (N = 991 + nm) := by
          refine ⟨?_⟩
          rw [← hN, ← ht, ba_size, List.length_append, Mac.hmac_len, ← hE, snB_len, HEL.out]; omega
        have HMK : Keep (mkS 1 1 F key = (t, 0)) := ⟨by rw [mk_yes (by omega) (by omega) HF.out.1 HF.out.2.1 (by rw [HEL.out]; omega), hE, ht]⟩
        have HOP : Keep (opS t key = (1, 1, F, 0)) := by
          have hrd : rdV (sl (ba (encV F))) = (F, 0) := by rw [show sl (ba (encV F)) = encV F from sl_mk _]; exact rd_wr HF.out.1 HF.out.2.1
          have h := op_yes (ses := 1) (seq := 1) (b := ba (encV F)) (key := key) (by omega) (by omega) (by rw [ba_size, HEL.out]; omega) (Mac.hmac_len _ _) (by rw [hrd])
          rw [show sl (ba (encV F)) = encV F from sl_mk _, hE, ht] at h
          rw [show sl (ba (encV F)) = encV F from sl_mk _] at hrd
          rw [hrd] at h
          exact ⟨h⟩
        have hN1 : (N : Int) ≤ 1015 := by have := HNN.out; omega
        have hN2 : (N : Int) = 991 + (nm : Int) := by have := HNN.out; omega
        have HN2' := Keep.mk hN2
        clear hF ht hE HS5 HSN hN2
        go_wp2_with (first
          | (with_reducible show wpList _ _ _ ({ dst := _, op := Op.load 29 (Operand.tmp 2), type := _, pos := _, after := _, guard := _ } :: _) _ _
             refine load_g rfl 29 _ rfl w.heap.size 0 rfl (F.cs (some ⟨g, 0, none⟩) c') d (HSt.out.has mm0).range hd hrw infoV ?_))
        have MK := make_c 1 1 F (some ⟨g, 0, none⟩) c' key w5 (by omega) (by omega) HF.out.1 (HSt.out.seen mm0) (HK.out.1.kept HG5.out (by simp)) (by have := HK.out.2.2.2.2.1; omega)
        rw [HMK.out] at MK
        refine MK.mono ?_
        rintro e w6 ⟨rfl, g6⟩
        have HS6 := Keep.mk (HSt.out.kept g6)
        clear MK g6 c15 f15 hw5
        go_wp2_with fail
        have OP := open_c t key w6 (HK.out.1.kept (HG5.out.trans HS6.out.g) (by simp)) (by rw [hN]; omega) (by have := HK.out.2.2.2.2.1; omega)
        rw [HOP.out] at OP
        refine OP.mono ?_
        rintro e w7 ⟨a7, c7, rfl, RR⟩
        have HS7 := Keep.mk (HS6.out.kept RR.g)
        have HR7 := Keep.mk (rd_seen RR)
        clear OP RR
        have hNe : ((N : Int) == 991 + (nm : Int)) = true := by have := HN2'.out; simp; omega
        go_wp2_with (first
          | (with_reducible show wpList _ _ _ ({ dst := _, op := Op.load 29 (Operand.tmp 12), type := _, pos := _, after := _, guard := _ } :: _) _ _
             refine load_g rfl 29 _ rfl w7.heap.size 0 rfl (F.cs a7 c7) d (HS8.out.has mm0).range hd hrw infoV ?_)
          | (with_reducible show wpList _ _ _ ({ dst := _, op := Op.load 29 (Operand.tmp 2), type := _, pos := _, after := _, guard := _ } :: _) _ _
             refine load_g rfl 29 _ rfl w.heap.size 0 rfl (F.cs (some ⟨g, 0, none⟩) c') d (HS8.out.has mm1).range hd hrw infoV ?_)
          | (with_reducible show wpList _ _ _ ({ dst := none, op := Op.store 29 (Operand.tmp 12) _, type := _, pos := _, after := _, guard := _ } :: _) _ _
             refine st_new w7 (F.cs a7 c7) 29 rfl rfl rfl rfl rfl infoV (vw_one _ _ _) ?_
             intro wk8 h6 g6
             have HS8 := Keep.mk (HS7.out.add h6 g6 HR7.out)
             have cn : wk8.cell? ⟨w.heap.size, 2, none⟩ = some (.string n2) := by rw [← HF.out.2.2.2]; exact (HS8.out.has mm1).cellv 2 _ rfl
             clear h6 g6)
          | (with_reducible show wpList _ _ _ ({ dst := _, op := Op.load 29 (Operand.tmp 2), type := _, pos := _, after := _, guard := _ } :: _) _ _
             refine load_g rfl 29 _ rfl w.heap.size 0 rfl (F.cs (some ⟨g, 0, none⟩) c') d (HS7.out.has mm0).range hd hrw infoV ?_))
        refine (same_c F F a7 (some ⟨g, 0, none⟩) c7 c' wk8 (HS8.out.seen mm0) (HS8.out.seen mm1) (by rw [HF.out.2.2.1]; omega)).mono ?_
        rintro e w9 ⟨b, rfl, hb, g9⟩
        obtain rfl : b = true := hb.2 rfl
        have HS9 := Keep.mk (HS8.out.kept g9)
        clear hb g9
        go_wp2_with fail
        go_ret
        exact ⟨rfl, HG5.out.trans HS9.out.g⟩
  · have hmb' : ¬ (24 : Int) < (m : Int) := by omega
    obtain ⟨n2, hn2⟩ : ∃ q, V.n = q := ⟨_, rfl⟩
    have HN2 : Keep (n2.size ≤ 24) := ⟨by rw [← hn2]; omega⟩
    have HS3 : Keep (Sep w w2 [boxA w.heap.size (Vw.cs { V with p := p, n := n2 } a c) 29]) := ⟨by rw [← hn2]; exact HS2.out⟩
    clear hn2
    go_wp2_with fail
    clear cn fn cp fp hw2
    go_loopw [5, 6] (fun u5 u wr => ∃ j : Nat, j ≤ 32 ∧ u = .int .i64 j ∧ Keep (Sep w wr [rowV 40 5 u5 (ftL V.S j).length (fls (ftL V.S j)), boxA w.heap.size (Vw.cs { V with p := p, n := n2 } a c) 29])) (fun _ u _ => 32 - (intOf u).toNat)
    case atStart => exact ⟨0, by omega, rfl, ⟨HS3.out.nilV 40 5⟩⟩
    case round =>
      obtain ⟨j, hj, rfl, hrel⟩ := hrel
      by_cases hlt : j < 32
      · have hlt' : (j : Int) < 32 := by omega
        obtain ⟨r, hr⟩ : ∃ q, (j : Int).tmod 2 = q := ⟨_, rfl⟩
        have HR : Keep (0 ≤ r ∧ r ≤ 1) := ⟨by rw [← hr]; exact r2_in j⟩
        have hr0 : 0 ≤ r := HR.out.1
        have hr1 : r ≤ 1 := HR.out.2
        have HSR := hrel
        have HBS := Keep.mk (builtSn (1 + r) (j : Int))
        clear hrel
        by_cases hjn : j < n
        · have hs := List.getElem?_eq_getElem (l := V.S) (i := j) (by rw [HK.out.2.2.2.2.2]; exact hjn)
          obtain ⟨s, hs2⟩ : ∃ s, V.S[j]? = some s := ⟨_, hs⟩
          have hne : V.S ≠ [] := fun e => by rw [e] at hs2; cases hs2
          obtain ⟨sb, so, rfl, R0⟩ := HK.out.2.2.1 hne
          have HS2' := Keep.mk (And.intro hs2 R0)
          obtain ⟨hh, hhe⟩ : ∃ q, (IntKind.u64.wrap s.h).tmod 256 = q := ⟨_, rfl⟩
          have HH : Keep (0 ≤ hh ∧ hh < 256) := ⟨by rw [← hhe]; exact md_in s.h 256 (by omega)⟩
          have hh0 : 0 ≤ hh := HH.out.1
          have hh1 : hh < 256 := HH.out.2
          have HFT : Keep (ftS V.S j = ⟨1 + r, s.i, s.x, s.y, hh⟩) := ⟨by unfold ftS; rw [hs2]; simp only [hr, hhe]⟩
          have hjn' : (j : Int) < (n : Int) := by omega
          clear hs hs2 hne R0
          go_wp2_with (first
            | (with_reducible show wpList _ _ _ ({ dst := some 43, op := Op.build 40 _, type := _, pos := _, after := _, guard := _ } :: _) _ _
               refine build_g rfl 40 _ rfl _ ((congrArg (Tryz.prog.built 40) (by first | (simp only [List.map_toArray, List.map_cons, List.map_nil, Act.eval]; done) | (simp only [List.map_toArray, List.map_cons, List.map_nil, Act.eval]; with_reducible rfl) | (simp only [List.map_toArray, List.map_cons, List.map_nil, Act.eval]; rfl))).trans HBS.out) ?_
               simp only [Act.put, List.setIfInBounds_toArray, List.set_cons_zero, List.set_cons_succ])
            | (with_reducible show wpList _ _ _ ({ dst := none, op := Op.store 40 _ (Operand.tmp 43), type := _, pos := _, after := _, guard := _ } :: _) _ _
               refine st_new wr (Sn.cs ⟨1 + r, (j : Int), 0, 0, 0⟩) 40 rfl rfl rfl rfl rfl infoSz (sn_one _) ?_
               intro w4 h6 g6
               have HS4 := Keep.mk (HSR.out.addBox h6 g6)
               have c15 : w4.cell? ⟨w.heap.size, 15, none⟩ = some (.slice (some ⟨sb, so, none⟩) n c) := by rw [← HK.out.2.2.2.2.2]; exact (HS4.out.boxGet mm2).cellv 15 _ rfl
               have HR4 := Keep.mk (World.rangeAt_of (fun i z hz => HS4.out.g.cell (HS2'.out.2 j s HS2'.out.1 i z hz) (by simp)))
               clear h6 g6)
            | (with_reducible show wpList _ _ _ ({ dst := some 53, op := Op.load 40 _, type := _, pos := _, after := _, guard := _ } :: _) _ _
               refine load_g rfl 40 _ rfl sb _ rfl s.cs d4 (by first | exact HR4.out | (rw [Nat.mul_comm]; exact HR4.out)) hd4 hrw4 infoSz ?_)
            | (with_reducible show wpList _ _ _ ({ dst := none, op := Op.store 40 _ (Operand.tmp 53), type := _, pos := _, after := _, guard := _ } :: _) _ _
               refine st_all _ wr.heap.size (Sn.cs ⟨1 + r, (j : Int), 0, 0, 0⟩) s.cs 40 40 rfl rfl rfl rfl (HS4.out.boxGet mm0) rfl infoSz (sn_one s) ?_
               intro w5 h7 g7
               have HS5 := Keep.mk (HS4.out.boxAll h7 g7)
               clear h7 g7 c15
               have x0 : w5.cell? ⟨wr.heap.size, 0, none⟩ = some (.int .i64 s.k) := (HS5.out.boxGet mm0).cellv 0 _ rfl
               have f0 := (HS5.out.boxGet mm0).frozen 0
               obtain ⟨w6, hw6⟩ : ∃ q, w5.setCell ⟨wr.heap.size, 0, none⟩ (.int .i64 (1 + r)) = q := ⟨_, rfl⟩
               have HS6 : Keep (Sep w w6 (boxA wr.heap.size (s.cs.set 0 (iv (1 + r))) 40 :: [rowV 40 5 u5 (ftL V.S j).length (fls (ftL V.S j)), boxA w.heap.size (Vw.cs { V with p := p, n := n2 } (some ⟨sb, so, none⟩) c) 29])) := ⟨by rw [← hw6]; exact HS5.out.boxPut 0 (iv (1 + r))⟩
               have x4 : w6.cell? ⟨wr.heap.size, 4, none⟩ = some (.int .i64 s.h) := (HS6.out.boxGet mm0).cellv 4 _ rfl
               have f4 := (HS6.out.boxGet mm0).frozen 4
               obtain ⟨w7, hw7⟩ : ∃ q, w6.setCell ⟨wr.heap.size, 4, none⟩ (.int .i64 hh) = q := ⟨_, rfl⟩
               have HS7 : Keep (Sep w w7 (boxA wr.heap.size (ftS V.S j).cs 40 :: [rowV 40 5 u5 (ftL V.S j).length (fls (ftL V.S j)), boxA w.heap.size (Vw.cs { V with p := p, n := n2 } (some ⟨sb, so, none⟩) c) 29])) := ⟨by rw [← hw7, HFT.out]; exact HS6.out.boxPut 4 (iv hh)⟩
               obtain ⟨g8, k8, w8, AP, HS8⟩ := Sep.appSn (ftS V.S j) HS7.out.swap (by rw [ftL_len]; omega)
               have HS9 := Keep.mk (HS8.dropM [_] [_])
               have HXV := Keep.mk (HS7.out.boxGet mm0).range
               clear HS8)
            | (with_reducible show wpList _ _ _ ({ dst := some 65, op := Op.load 40 _, type := _, pos := _, after := _, guard := _ } :: _) _ _
               refine load_g rfl 40 _ rfl _ 0 rfl (ftS V.S j).cs d4 HXV.out hd4 hrw4 infoSz ?_)
            | (with_reducible show wpList _ _ _ ({ dst := some 66, op := Op.buildSlice 27 _ _, type := _, pos := _, after := _, guard := _ } :: _) _ _
               refine wpList_bs_run rfl (.tmp 65) 27 rfl _ rfl (bsSn _ _) ?_)
            | (with_reducible show wpList _ _ _ ({ dst := some 67, op := Op.call { callee := Callee.builtin Builtin.append, args := _, argTypes := _ }, type := _, pos := _, after := _, guard := _ } :: _) _ _
               refine wpList_append_run _ rfl (.tmp 64) (.tmp 66) 27 rfl _ _ rfl rfl AP ?_))
          clear AP HXV
          go_roundw
          case rel => exact ⟨j + 1, by omega, by go_num, by rw [ftL_next]; exact HS9⟩
          case measure => simp [intOf]; omega
        · have hjn' : ¬ (j : Int) < (n : Int) := by omega
          have HFT : Keep (ftS V.S j = ⟨1 + r, (j : Int), 0, 0, 0⟩) := ⟨by unfold ftS; rw [List.getElem?_eq_none (by rw [HK.out.2.2.2.2.2]; omega)]; simp only [hr]⟩
          go_wp2_with (first
            | (with_reducible show wpList _ _ _ ({ dst := some 43, op := Op.build 40 _, type := _, pos := _, after := _, guard := _ } :: _) _ _
               refine build_g rfl 40 _ rfl _ ((congrArg (Tryz.prog.built 40) (by first | (simp only [List.map_toArray, List.map_cons, List.map_nil, Act.eval]; done) | (simp only [List.map_toArray, List.map_cons, List.map_nil, Act.eval]; with_reducible rfl) | (simp only [List.map_toArray, List.map_cons, List.map_nil, Act.eval]; rfl))).trans HBS.out) ?_
               simp only [Act.put, List.setIfInBounds_toArray, List.set_cons_zero, List.set_cons_succ])
            | (with_reducible show wpList _ _ _ ({ dst := none, op := Op.store 40 _ (Operand.tmp 43), type := _, pos := _, after := _, guard := _ } :: _) _ _
               refine st_new wr (Sn.cs ⟨1 + r, (j : Int), 0, 0, 0⟩) 40 rfl rfl rfl rfl rfl infoSz (sn_one _) ?_
               intro w4 h6 g6
               rw [← HFT.out] at h6
               have HS4 := Keep.mk (HSR.out.addBox h6 g6)
               have c15 : w4.cell? ⟨w.heap.size, 15, none⟩ = some (.slice a n c) := by rw [← HK.out.2.2.2.2.2]; exact (HS4.out.boxGet mm2).cellv 15 _ rfl
               obtain ⟨g8, k8, w8, AP, HS8⟩ := Sep.appSn (ftS V.S j) HS4.out.swap (by rw [ftL_len]; omega)
               have HS9 := Keep.mk (HS8.dropM [_] [_])
               have HXV := Keep.mk (HS4.out.boxGet mm0).range
               clear HS8
               clear h6 g6)
            | (with_reducible show wpList _ _ _ ({ dst := some 65, op := Op.load 40 _, type := _, pos := _, after := _, guard := _ } :: _) _ _
               refine load_g rfl 40 _ rfl _ 0 rfl (ftS V.S j).cs d4 HXV.out hd4 hrw4 infoSz ?_)
            | (with_reducible show wpList _ _ _ ({ dst := some 66, op := Op.buildSlice 27 _ _, type := _, pos := _, after := _, guard := _ } :: _) _ _
               refine wpList_bs_run rfl (.tmp 65) 27 rfl _ rfl (bsSn _ _) ?_)
            | (with_reducible show wpList _ _ _ ({ dst := some 67, op := Op.call { callee := Callee.builtin Builtin.append, args := _, argTypes := _ }, type := _, pos := _, after := _, guard := _ } :: _) _ _
               refine wpList_append_run _ rfl (.tmp 64) (.tmp 66) 27 rfl _ _ rfl rfl AP ?_))
          clear AP HXV
          go_roundw
          case rel => exact ⟨j + 1, by omega, by go_num, by rw [ftL_next]; exact HS9⟩
          case measure => simp [intOf]; omega
      · have hlt' : ¬ (j : Int) < 32 := by omega
        obtain rfl : j = 32 := by omega
        have HSR := hrel
        clear hrel
        obtain ⟨g, c', e5, _⟩ := own_any (HSR.out.rowGet mm0) (by rw [ftL_len]; omega)
        rw [ftL_len] at e5
        subst e5
        have c15 : wr.cell? ⟨w.heap.size, 15, none⟩ = some (.slice a n c) := by rw [← HK.out.2.2.2.2.2]; exact (HSR.out.boxGet mm1).cellv 15 _ rfl
        have f15 := (HSR.out.boxGet mm1).frozen 15
        obtain ⟨w5, hw5⟩ : ∃ q, wr.setCell ⟨w.heap.size, 15, none⟩ (.slice (some ⟨g, 0, none⟩) 32 c') = q := ⟨_, rfl⟩
        have HS5 : Keep (Sep w w5 (boxA w.heap.size ((ftV V p n2).cs (some ⟨g, 0, none⟩) c') 29 :: [rowV 40 5 (.slice (some ⟨g, 0, none⟩) 32 c') (ftL V.S 32).length (fls (ftL V.S 32))])) := by
          have h := HSR.out.swap.boxPut 15 (.slice (some ⟨g, 0, none⟩) 32 c')
          rw [hw5] at h
          have e : (Vw.cs { V with p := p, n := n2 } a c).set 15 (.slice (some ⟨g, 0, none⟩) 32 c') = (ftV V p n2).cs (some ⟨g, 0, none⟩) c' := by
            unfold ftV Vw.cs
            simp only [ftL_len]
            rfl
          rw [e] at h
          exact ⟨h⟩
        have HSN : Keep (SeenR w5 (some ⟨g, 0, none⟩) (ftV V p n2).S) := by
          obtain ⟨g2, c2, e2, R⟩ := row_seen HS5.out.swap (by rw [ftL_len]; omega)
          injection e2 with e3
          injection (Option.some.inj e3) with e4
          subst e4
          exact ⟨fun _ => ⟨g, 0, rfl, R⟩⟩
        obtain ⟨F, hF⟩ : ∃ q, ftV V p n2 = q := ⟨_, rfl⟩
        obtain ⟨nm, hnm⟩ : ∃ q, n2.size = q := ⟨_, rfl⟩
        have hnm24 : nm ≤ 24 := by have := HN2.out; omega
        have HF : Keep (F.ok ∧ fitV F ∧ F.S.length = 32 ∧ F.n = n2) := by
          have h := ftV_ok (n := n2) HK.out.2.1 HP.out HN2.out
          rw [hF] at h
          exact ⟨h.1, h.2, by rw [← hF]; exact ftL_len _ _, by rw [← hF]; rfl⟩
        rw [hF] at HS5 HSN
        have HSt : Keep (St w5 w5 [⟨w.heap.size, F, some ⟨g, 0, none⟩, c'⟩]) := ⟨⟨World.grownBy.refl _ _, fun x hx => by
          rw [List.mem_singleton] at hx; subst hx
          exact ⟨HS5.out.boxGet mm0, HSN.out⟩⟩⟩
        have HG5 : Keep (w.grownBy w5 none) := ⟨HS5.out.g⟩
        obtain ⟨E, hE⟩ : ∃ q, snB 1 1 (encV F) = q := ⟨_, rfl⟩
        obtain ⟨t, ht⟩ : ∃ q, ba (E ++ Mac.hmac (sl key) E) = q := ⟨_, rfl⟩
        obtain ⟨N, hN⟩ : ∃ q, t.size = q := ⟨_, rfl⟩
        have HEL : Keep ((encV F).length = 939 + nm) := ⟨by rw [encV_len, HF.out.2.2.1, HF.out.2.2.2, hnm]; omega⟩
        have HNN : Keep (N = 991 + nm) := by
          refine ⟨?_⟩
          rw [← hN, ← ht, ba_size, List.length_append, Mac.hmac_len, ← hE, snB_len, HEL.out]; omega
        have HMK : Keep (mkS 1 1 F key = (t, 0)) := ⟨by rw [mk_yes (by omega) (by omega) HF.out.1 HF.out.2.1 (by rw [HEL.out]; omega), hE, ht]⟩
        have HOP : Keep (opS t key = (1, 1, F, 0)) := by
          have hrd : rdV (sl (ba (encV F))) = (F, 0) := by rw [show sl (ba (encV F)) = encV F from sl_mk _]; exact rd_wr HF.out.1 HF.out.2.1
          have h := op_yes (ses := 1) (seq := 1) (b := ba (encV F)) (key := key) (by omega) (by omega) (by rw [ba_size, HEL.out]; omega) (Mac.hmac_len _ _) (by rw [hrd])
          rw [show sl (ba (encV F)) = encV F from sl_mk _, hE, ht] at h
          rw [show sl (ba (encV F)) = encV F from sl_mk _] at hrd
          rw [hrd] at h
          exact ⟨h⟩
        have hN1 : (N : Int) ≤ 1015 := by have := HNN.out; omega
        have hN2 : (N : Int) = 991 + (nm : Int) := by have := HNN.out; omega
        have HN2' := Keep.mk hN2
        clear hF ht hE HS5 HSN hN2
        go_wp2_with (first
          | (with_reducible show wpList _ _ _ ({ dst := _, op := Op.load 29 (Operand.tmp 2), type := _, pos := _, after := _, guard := _ } :: _) _ _
             refine load_g rfl 29 _ rfl w.heap.size 0 rfl (F.cs (some ⟨g, 0, none⟩) c') d (HSt.out.has mm0).range hd hrw infoV ?_))
        have MK := make_c 1 1 F (some ⟨g, 0, none⟩) c' key w5 (by omega) (by omega) HF.out.1 (HSt.out.seen mm0) (HK.out.1.kept HG5.out (by simp)) (by have := HK.out.2.2.2.2.1; omega)
        rw [HMK.out] at MK
        refine MK.mono ?_
        rintro e w6 ⟨rfl, g6⟩
        have HS6 := Keep.mk (HSt.out.kept g6)
        clear MK g6 c15 f15 hw5
        go_wp2_with fail
        have OP := open_c t key w6 (HK.out.1.kept (HG5.out.trans HS6.out.g) (by simp)) (by rw [hN]; omega) (by have := HK.out.2.2.2.2.1; omega)
        rw [HOP.out] at OP
        refine OP.mono ?_
        rintro e w7 ⟨a7, c7, rfl, RR⟩
        have HS7 := Keep.mk (HS6.out.kept RR.g)
        have HR7 := Keep.mk (rd_seen RR)
        clear OP RR
        have hNe : ((N : Int) == 991 + (nm : Int)) = true := by have := HN2'.out; simp; omega
        go_wp2_with (first
          | (with_reducible show wpList _ _ _ ({ dst := _, op := Op.load 29 (Operand.tmp 12), type := _, pos := _, after := _, guard := _ } :: _) _ _
             refine load_g rfl 29 _ rfl w7.heap.size 0 rfl (F.cs a7 c7) d (HS8.out.has mm0).range hd hrw infoV ?_)
          | (with_reducible show wpList _ _ _ ({ dst := _, op := Op.load 29 (Operand.tmp 2), type := _, pos := _, after := _, guard := _ } :: _) _ _
             refine load_g rfl 29 _ rfl w.heap.size 0 rfl (F.cs (some ⟨g, 0, none⟩) c') d (HS8.out.has mm1).range hd hrw infoV ?_)
          | (with_reducible show wpList _ _ _ ({ dst := none, op := Op.store 29 (Operand.tmp 12) _, type := _, pos := _, after := _, guard := _ } :: _) _ _
             refine st_new w7 (F.cs a7 c7) 29 rfl rfl rfl rfl rfl infoV (vw_one _ _ _) ?_
             intro wk8 h6 g6
             have HS8 := Keep.mk (HS7.out.add h6 g6 HR7.out)
             have cn : wk8.cell? ⟨w.heap.size, 2, none⟩ = some (.string n2) := by rw [← HF.out.2.2.2]; exact (HS8.out.has mm1).cellv 2 _ rfl
             clear h6 g6)
          | (with_reducible show wpList _ _ _ ({ dst := _, op := Op.load 29 (Operand.tmp 2), type := _, pos := _, after := _, guard := _ } :: _) _ _
             refine load_g rfl 29 _ rfl w.heap.size 0 rfl (F.cs (some ⟨g, 0, none⟩) c') d (HS7.out.has mm0).range hd hrw infoV ?_))
        refine (same_c F F a7 (some ⟨g, 0, none⟩) c7 c' wk8 (HS8.out.seen mm0) (HS8.out.seen mm1) (by rw [HF.out.2.2.1]; omega)).mono ?_
        rintro e w9 ⟨b, rfl, hb, g9⟩
        obtain rfl : b = true := hb.2 rfl
        have HS9 := Keep.mk (HS8.out.kept g9)
        clear hb g9
        go_wp2_with fail
        go_ret
        exact ⟨rfl, HG5.out.trans HS9.out.g⟩
end Go.Proofs.YtkdjcknikhgfkaaGreatDoor.Pk.Sn
