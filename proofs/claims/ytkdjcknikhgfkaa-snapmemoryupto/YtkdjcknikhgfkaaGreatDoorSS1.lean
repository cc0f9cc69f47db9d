import Derived.Test.YtkdjcknikhgfkaaGreatDoorSS2
/- SnapSealed: the walk -/
namespace Go.Proofs.YtkdjcknikhgfkaaGreatDoor.Pk.Sn
open Go Go.RowKit

theorem zero_ok : Vw.zero.ok := by
  refine ⟨?_, fun s hs => absurd hs List.not_mem_nil⟩
  simp [hK, hMs, Mk.kd, Vw.lv, Vw.zero, okL, okK, sl]
theorem St.set {w0 w w' : World} {L : List Bx} {b : Nat} {V V' : Vw} {a a' : Option Addr} {c c' : Nat} (h : St w0 w (⟨b, V, a, c⟩ :: L)) (h6 : Has w' b (V'.cs a' c') 29) (g : w.grownBy w' (some b)) (hb : w0.heap.size ≤ b) (hs : SeenR w a' V'.S) (hd : ∀ x ∈ L, x.b ≠ b ∧ ∀ b' o, x.a = some ⟨b', o, none⟩ → x.V.S ≠ [] → b' ≠ b) (hs2 : ∀ b' o, a' = some ⟨b', o, none⟩ → V'.S ≠ [] → b' ≠ b) : St w0 w' (⟨b, V', a', c'⟩ :: L) := by
  have sk : ∀ {a : Option Addr} {S : List Sn}, SeenR w a S → (∀ b' o, a = some ⟨b', o, none⟩ → S ≠ [] → b' ≠ b) → SeenR w' a S := fun {a} {S} h hn q => by
    obtain ⟨sb, so, e, r⟩ := h q
    refine ⟨sb, so, e, fun j s e2 i z hz => g.cell (r j s e2 i z hz) ?_⟩
    intro e3
    exact hn sb so e q (Option.some.inj e3)
  refine ⟨gr_new h.g g hb, fun x hx => ?_⟩
  rcases List.mem_cons.1 hx with rfl | hx
  · exact ⟨h6, sk hs hs2⟩
  · have hx2 := h.b x (List.mem_cons_of_mem _ hx)
    exact ⟨hx2.1.kept g (fun e => (hd x hx).1 (Option.some.inj e)), sk hx2.2 (hd x hx).2⟩
theorem seen_lt {w : World} {a : Option Addr} {S : List Sn} (h : SeenR w a S) (hS : S ≠ []) {b o : Nat} (e : a = some ⟨b, o, none⟩) : b < w.heap.size := by
  obtain ⟨sb, so, e2, r⟩ := h hS
  cases S with
  | nil => exact absurd rfl hS
  | cons s S =>
    have h2 := cell_lt (r 0 s rfl 0 _ rfl)
    rw [e] at e2
    have e3 := Option.some.inj e2
    injection e3 with e4
    rw [e4]; exact h2
theorem xor_ne (x : UInt8) : x ^^^ 64 ≠ x := fun h => by
  have h2 := congrArg (fun y => x ^^^ y) h
  simp only [← UInt8.xor_assoc, UInt8.xor_self, UInt8.zero_xor] at h2
  exact absurd h2 (by decide)
set_option maxHeartbeats 8000000 in
set_option maxRecDepth 100000 in
theorem snapSealed_c (V : Vw) (a : Option Addr) (c : Nat) (n0 n1 : Nat) (k0 k1 : ByteArray) (w : World) (hk : Kc w) (ho : V.ok) (hr : SeenR w a V.S) (hl : V.S.length ≤ 140737488355328) (h0 : n0 < 18446744073709551616) (h1 : n1 < 18446744073709551616) (hk0 : k0.size ≤ 140737488355328) (hk1 : k1.size ≤ 140737488355328) :
    Calls Tryz.prog 6 #[.agg (V.cs a c).toArray, .agg #[.int .u64 (n0 : Int), .int .u64 (n1 : Int)], .agg #[.string k0, .string k1]] w fun e w' => e = .returned (.bool true) ∧ w.grownBy w' none := by
  obtain ⟨d, hd, hrw⟩ := underV
  have HBT := Keep.mk builtV
  obtain ⟨wa, hwa⟩ : ∃ q, w.alloc (.cells (V.cs a c).toArray 29) = q := ⟨_, rfl⟩
  obtain ⟨i0, g0, s0⟩ := hasN hwa
  obtain ⟨wb, hwb⟩ : ∃ q, wa.alloc (.cells #[.int .u64 (n0 : Int), .int .u64 (n1 : Int)] 45) = q := ⟨_, rfl⟩
  obtain ⟨i1, g1, s1⟩ := hasN hwb
  obtain ⟨w0, hw0⟩ : ∃ q, wb.alloc (.cells #[.string k0, .string k1] 46) = q := ⟨_, rfl⟩
  obtain ⟨i2, g2, s2⟩ := hasN hw0
  have HG0 : Keep (w.grownBy w0 none) := ⟨(g0.trans g1).trans g2⟩
  have HS : Keep (St w0 w0 [⟨w.heap.size, V, a, c⟩]) := ⟨⟨World.grownBy.refl _ _, fun x hx => by
    rw [List.mem_singleton] at hx; subst hx
    exact ⟨(i0.kept g1 (by simp)).kept g2 (by simp), hr.kept HG0.out⟩⟩⟩
  have HK := Keep.mk (And.intro (hk.kept HG0.out (by simp)) (And.intro ho (And.intro hl (And.intro h0 (And.intro h1 (And.intro hk0 hk1))))))
  have HC : Keep (w0.cell? ⟨wa.heap.size, 0, none⟩ = some (.int .u64 (n0 : Int)) ∧ w0.cell? ⟨wa.heap.size, 1, none⟩ = some (.int .u64 (n1 : Int)) ∧ w0.cell? ⟨wb.heap.size, 0, none⟩ = some (.string k0) ∧ w0.cell? ⟨wb.heap.size, 1, none⟩ = some (.string k1)) := ⟨g2.cell (i1.cellv 0 _ rfl) (by simp), g2.cell (i1.cellv 1 _ rfl) (by simp), i2.cellv 0 _ rfl, i2.cellv 1 _ rfl⟩
  have HSZ : Keep (w.heap.size < w0.heap.size ∧ wa.heap.size < w0.heap.size) := ⟨by omega, by omega⟩
  unfold Vw.cs at hwa ⊢
  clear i0 g0 s0 i1 g1 s1 i2 g2 s2 hr hk ho hl h0 h1 hk0 hk1
  go_enter Tryz.func6, Tryz.ntmps6
  go_wp2_with fail
  refine (alive_c w0 HK.out.1).mono ?_
  rintro e wk1 ⟨rfl, g1⟩
  have HS1 := Keep.mk (HS.out.kept g1)
  clear g1
  have ck0 := HS1.out.g.cell HC.out.2.2.1 (by simp)
  have ck1 := HS1.out.g.cell HC.out.2.2.2 (by simp)
  go_wp2_with fail
  refine region_Y (S := fun w' => wk1.grownBy w' none) [] (by kernel_rfl) ?_
  have hHeld := gr_drew wk1 none
  refine wpAnyY_pure (i := 0) (oi := _) (v := ?_) rfl (by kernel_rfl) (by kernel_rfl) (by kernel_rfl) (by kernel_rfl) (fun _ _ _ h => h) (Or.inl ⟨by rfl, ?_⟩) ?_
  rotate_left
  · (intro w hSw; go_simp; first | done | (with_reducible rfl))
  simp only [Act.put, List.getElem_toArray, List.getElem_cons_zero, List.setIfInBounds_toArray, List.set_cons_zero, List.set_cons_succ]
  refine wpAnyY_take (i := 1) (oi := _) (v := ?_) rfl (by kernel_rfl) (by kernel_rfl) (by kernel_rfl) (by kernel_rfl) (by kernel_rfl) (fun _ _ _ h => h) (Or.inl ⟨by rfl, ?_⟩) (by assumption) ?_
  rotate_left
  · (intro w hSw; have x0 := World.grownBy.cell hSw ck0 (by simp); have x1 := World.grownBy.cell hSw ck1 (by simp); go_simp; first | done | (with_reducible rfl))
  simp only [Act.put, List.getElem_toArray, List.getElem_cons_succ, List.getElem_cons_zero, List.setIfInBounds_toArray, List.set_cons_zero, List.set_cons_succ]
  refine wpAnyY_pure (i := 2) (oi := _) (v := ?_) rfl (by kernel_rfl) (by kernel_rfl) (by kernel_rfl) (by kernel_rfl) (fun _ _ _ h => h) (Or.inl ⟨by rfl, ?_⟩) ?_
  rotate_left
  · (intro w hSw; go_simp; first | done | (with_reducible rfl))
  simp only [Act.put, List.getElem_toArray, List.getElem_cons_succ, List.getElem_cons_zero, List.setIfInBounds_toArray, List.set_cons_zero, List.set_cons_succ]
  refine wpAnyY_take (i := 3) (oi := _) (v := ?_) rfl (by kernel_rfl) (by kernel_rfl) (by kernel_rfl) (by kernel_rfl) (by kernel_rfl) (fun _ _ _ h => h) (Or.inl ⟨by rfl, ?_⟩) (by assumption) ?_
  rotate_left
  · (intro w hSw; have x0 := World.grownBy.cell hSw ck0 (by simp); have x1 := World.grownBy.cell hSw ck1 (by simp); go_simp; first | done | (with_reducible rfl))
  simp only [Act.put, List.getElem_toArray, List.getElem_cons_succ, List.getElem_cons_zero, List.setIfInBounds_toArray, List.set_cons_zero, List.set_cons_succ]
  refine wpAnyY_one (i := 4) (o := _) (by kernel_rfl) rfl (fun K hK => ?_)
  go_simp
  refine hK.out _ _ (fun h => h) ?_
  clear hK K
  refine wpAnyY_one (i := 5) (o := _) (by kernel_rfl) rfl (fun K hK => ?_)
  go_simp
  refine hK.out _ _ (fun h => h) ?_
  clear hK K
  refine wpAnyY_done (by kernel_rfl) ?_ _
  obtain ⟨wk2, hw6⟩ : ∃ q, wk1.drew = q := ⟨_, rfl⟩
  have HS2 : Keep (St w0 wk2 [⟨w.heap.size, V, a, c⟩]) := ⟨by rw [← hw6]; exact HS1.out.kept (gr_drew _ none)⟩
  rw [hw6]
  clear hw6 ck0 ck1 hHeld
  have cn0 := HS2.out.g.cell HC.out.1 (by simp)
  have cn1 := HS2.out.g.cell HC.out.2.1 (by simp)
  go_wp2_with (first
    | (with_reducible show wpList _ _ _ ({ dst := _, op := Op.load 29 (Operand.tmp 3), type := _, pos := _, after := _, guard := _ } :: _) _ _
       refine load_g rfl 29 _ rfl w.heap.size 0 rfl (V.cs a c) d (HS2.out.has mm0).range hd hrw infoV ?_))
  obtain ⟨t, ht⟩ : ∃ q, (mkS n0 n1 V k0).1 = q := ⟨_, rfl⟩
  obtain ⟨cd, hcd⟩ : ∃ q, (mkS n0 n1 V k0).2 = q := ⟨_, rfl⟩
  have HM := Keep.mk (mk_facts (ses := n0) (seq := n1) (V := V) (key := k0) HK.out.2.2.2.1 HK.out.2.2.2.2.1 HK.out.2.1)
  rw [ht, hcd] at HM
  have HMK : Keep (mkS n0 n1 V k0 = (t, cd)) := ⟨Prod.ext ht hcd⟩
  have MK := make_c n0 n1 V a c k0 wk2 HK.out.2.2.2.1 HK.out.2.2.2.2.1 HK.out.2.1 (HS2.out.seen mm0) (HK.out.1.kept HS2.out.g (by simp)) (by have := HK.out.2.2.2.2.2.1; omega)
  rw [HMK.out] at MK
  refine MK.mono ?_
  rintro e wk3 ⟨rfl, g2⟩
  have HS3 := Keep.mk (HS2.out.kept g2)
  clear MK g2
  clear ht hcd cn0 cn1
  go_wp2_with (first
    | (with_reducible show wpList _ _ _ ({ dst := _, op := Op.load 29 (Operand.tmp 3), type := _, pos := _, after := _, guard := _ } :: _) _ _
       refine load_g rfl 29 _ rfl w.heap.size 0 rfl (V.cs a c) d (HS3.out.has mm0).range hd hrw infoV ?_))
  obtain ⟨W, hW⟩ : ∃ q, wrV V = q := ⟨_, rfl⟩
  have WC := write_c V a c wk3 HK.out.2.1 (HS3.out.seen mm0)
  rw [hW] at WC HM
  refine WC.mono ?_
  rintro e wk4 ⟨rfl, g2⟩
  have HS4 := Keep.mk (HS3.out.kept g2)
  clear WC g2
  obtain ⟨s, hs⟩ : ∃ q, (⟨W.1.toArray⟩ : ByteArray) = q := ⟨_, rfl⟩
  obtain ⟨fc', hfc⟩ : ∃ q, W.2 = q := ⟨_, rfl⟩
  obtain ⟨M, hM⟩ : ∃ q, s.size = q := ⟨_, rfl⟩
  rw [hs, hfc]
  rw [hfc] at HM
  have HWW : Keep (wrV V = (sl s, fc')) := ⟨by rw [hW, ← hs, ← hfc, show sl (⟨W.1.toArray⟩ : ByteArray) = W.1 from sl_mk _]⟩
  clear hs hfc hW
  by_cases hz : cd = 0
  rotate_left
  · have hq2 : (cd != 0) = true := by simp [hz]
    obtain ⟨htn, hor⟩ := HM.out.1 hz
    subst htn
    unfold nob
    rcases hor with ⟨hf0, hcf⟩ | ⟨hf0, hc72, hbig⟩
    · subst hcf
      have e1 : (cd != 0) = true := by simp [hf0]
      have e2 : (cd == cd) = true := by simp
      clear hz
      go_wp2_with fail
      go_ret
      exact ⟨rfl, HG0.out.trans HS4.out.g⟩
    · subst hf0
      have HBG : Keep (1148 < M ∧ M ≤ 7000) := by
        have hfit := wrV_fit HK.out.2.1 (by rw [HWW.out])
        have h := wrV_yes HK.out.2.1 hfit
        rw [HWW.out] at h
        have h2 := congrArg (fun x : List UInt8 × Int => x.1.length) h
        simp only [sl_len, hM] at h2
        have h3 := wrV_len HK.out.2.1
        rw [HWW.out] at h3
        simp only [sl_len, hM] at h3
        exact ⟨by omega, h3⟩
      have hMb : (M : Int) ≤ 7000 := by have := HBG.out; omega
      have hg : (1200 : Int) < (M : Int) + 52 := by have := HBG.out; omega
      rw [hc72] at hq2 ⊢
      clear hz hbig hc72
      go_wp2_with fail
      go_ret
      exact ⟨rfl, HG0.out.trans HS4.out.g⟩
  have hq2 : (cd != 0) = false := by simp [hz]
  obtain ⟨hfit, hE, hte⟩ := HM.out.2 hz
  have HF : Keep (fitV V ∧ sl s = encV V ∧ fc' = 0 ∧ M = (encV V).length ∧ M ≤ 1148 ∧ 107 ≤ M) := by
    have h := wrV_yes HK.out.2.1 hfit
    rw [HWW.out] at h
    have h1 : sl s = encV V := congrArg Prod.fst h
    have h2 : M = (encV V).length := by rw [← h1, sl_len, hM]
    exact ⟨hfit, h1, congrArg Prod.snd h, h2, by omega, by rw [h2, encV_len]; omega⟩
  obtain ⟨N, hN⟩ : ∃ q, t.size = q := ⟨_, rfl⟩
  obtain ⟨B, hB⟩ : ∃ q, snB n0 n1 (sl s) = q := ⟨_, rfl⟩
  obtain ⟨tg, htg⟩ : ∃ q, Mac.hmac (sl k0) B = q := ⟨_, rfl⟩
  have HT : Keep (t = ba (B ++ tg) ∧ snB n0 n1 (sl s) = B ∧ Mac.hmac (sl k0) B = tg ∧ tg.length = 32 ∧ B.length = M + 20 ∧ N = M + 52) := by
    have hl : tg.length = 32 := by rw [← htg]; exact Mac.hmac_len _ _
    have hb : B.length = M + 20 := by rw [← hB, snB_len, sl_len, hM]; omega
    have ht2 : t = ba (B ++ tg) := by rw [hte, ← HF.out.2.1, hB, htg]
    refine ⟨ht2, hB, htg, hl, hb, ?_⟩
    rw [← hN, ht2, ba_size, List.length_append]; omega
  have hNe : (N : Int) = (M : Int) + 52 := by have := HT.out.2.2.2.2.2; omega
  have HMb : Keep (107 ≤ M ∧ M ≤ 1148) := ⟨HF.out.2.2.2.2.2, HF.out.2.2.2.2.1⟩
  have hMb : (M : Int) ≤ 1148 := by have := HMb.out; omega
  have hMb2 : (107 : Int) ≤ (M : Int) := by have := HMb.out; omega
  have hN52 : ¬ (N : Int) < 52 := by omega
  have hNM : ((N : Int) != (M : Int) + 52) = false := by simp; omega
  obtain rfl : fc' = 0 := HF.out.2.2.1
  obtain rfl : cd = 0 := hz
  have HNE := Keep.mk hNe
  clear hfit hE hte hB htg hNe HM
  have cn0 := HS4.out.g.cell HC.out.1 (by simp)
  have cn1 := HS4.out.g.cell HC.out.2.1 (by simp)
  go_wp2_with (first
    | (with_reducible show wpList _ _ _ ({ dst := _, op := Op.build 29 _, type := _, pos := _, after := _, guard := _ } :: _) _ _
       refine build_g rfl 29 _ rfl _ ((congrArg (Tryz.prog.built 29) (by simp only [List.map_toArray, List.map_nil]; rfl)).trans HBT.out) ?_
       simp only [Act.put, List.setIfInBounds_toArray, List.set_cons_zero, List.set_cons_succ])
    | (with_reducible show wpList _ _ _ ({ dst := _, op := Op.load 29 (Operand.tmp 3), type := _, pos := _, after := _, guard := _ } :: _) _ _
       refine load_g rfl 29 _ rfl w.heap.size 0 rfl (V.cs a c) d (HS4.out.has mm0).range hd hrw infoV ?_))
  have MZ := make_c n1 n0 Vw.zero none 0 k1 wk4 HK.out.2.2.2.2.1 HK.out.2.2.2.1 zero_ok (seen_nil _) (HK.out.1.kept HS4.out.g (by simp)) (by have := HK.out.2.2.2.2.2.2; omega)
  refine MZ.mono ?_
  rintro e wk5 ⟨rfl, g2⟩
  have HS5 := Keep.mk (HS4.out.kept g2)
  clear MZ g2 cn0 cn1
  have cn0 := HS5.out.g.cell HC.out.1 (by simp)
  have cn1 := HS5.out.g.cell HC.out.2.1 (by simp)
  go_wp2_with (first
    | (with_reducible show wpList _ _ _ ({ dst := _, op := Op.load 29 (Operand.tmp 3), type := _, pos := _, after := _, guard := _ } :: _) _ _
       refine load_g rfl 29 _ rfl w.heap.size 0 rfl (V.cs a c) d (HS5.out.has mm0).range hd hrw infoV ?_))
  have MK := make_c n0 n1 V a c k0 wk5 HK.out.2.2.2.1 HK.out.2.2.2.2.1 HK.out.2.1 (HS5.out.seen mm0) (HK.out.1.kept HS5.out.g (by simp)) (by have := HK.out.2.2.2.2.2.1; omega)
  rw [HMK.out] at MK
  refine MK.mono ?_
  rintro e wk6 ⟨rfl, g2⟩
  have HS6 := Keep.mk (HS5.out.kept g2)
  clear MK g2
  clear cn0 cn1
  go_wp2_with fail
  have DC := decode_c t wk6 (by rw [hN]; have := HMb.out; have := HNE.out; omega)
  obtain ⟨D, hD⟩ : ∃ q, (mkD n0 n1 s).wear (ba tg) = q := ⟨_, rfl⟩
  have HDD : Keep (D.kind = 6 ∧ D.session = n0 ∧ D.seq = n1 ∧ D.data = s ∧ D.tag = ba tg) := by rw [← hD]; exact ⟨rfl, rfl, rfl, rfl, rfl⟩
  have hdec : dec (sl t) = (D, 0) := by
    have h := dec_snap (ses := n0) (seq := n1) (b := s) (t := tg) HK.out.2.2.2.1 HK.out.2.2.2.2.1 HT.out.2.2.2.1 (by rw [hM]; have := HMb.out; omega)
    rw [HT.out.2.1, hD] at h
    rw [HT.out.1, show sl (ba (B ++ tg)) = B ++ tg from sl_mk _]; exact h
  rw [hdec] at DC
  clear hdec hD
  refine DC.mono ?_
  rintro e wk7 ⟨rfl, g2⟩
  have HS7 := Keep.mk (HS6.out.kept g2)
  clear DC g2
  obtain ⟨wd, hwd⟩ : ∃ q, wk7.alloc (.cells D.cells.toArray 50) = q := ⟨_, rfl⟩
  obtain ⟨iD, gD, sD⟩ := hasN hwd
  have HSd := Keep.mk (HS7.out.kept gD)
  have HDB : Keep (Has wd wk7.heap.size D.cells 50) := ⟨iD⟩
  have hwd2 : wk7.alloc (.cells #[.int .i64 D.kind, .string D.nonce, .int .u64 D.epoch, .string D.cookie, .string D.name, .int .u64 D.session, .int .i64 D.player, .string D.salt, .int .u64 D.seq, .int .i64 D.thr, .int .i64 D.turn, .bool D.fire, .bool D.boost, .string D.data, .string D.tag] 50) = wd := hwd
  clear iD gD sD hwd
  unfold dv
  go_wp2_with fail
  clear hwd2
  have OP := open_c t k0 wd (HK.out.1.kept HSd.out.g (by simp)) (by rw [hN]; have := HMb.out; have := HNE.out; omega) (by have := HK.out.2.2.2.2.2.1; omega)
  have hop : opS t k0 = (n0, n1, V, 0) := by
    have hrd : rdV (sl s) = (V, 0) := by rw [HF.out.2.1]; exact rd_wr HK.out.2.1 HF.out.1
    have h := op_yes (ses := n0) (seq := n1) (b := s) (key := k0) HK.out.2.2.2.1 HK.out.2.2.2.2.1 (by rw [hM]; have := HMb.out; omega) (Mac.hmac_len _ _) (by rw [hrd])
    rw [HT.out.2.1, HT.out.2.2.1, hrd] at h
    rw [HT.out.1]; exact h
  rw [hop] at OP
  clear hop
  refine OP.mono ?_
  rintro e wk8 ⟨a6, c6, rfl, RR⟩
  have HS8 := Keep.mk (HSd.out.kept RR.g)
  have HR6 := Keep.mk (And.intro (rd_seen RR) (HDB.out.kept RR.g (by simp)))
  have HGP := Keep.mk RR
  clear OP RR HDB
  go_wp2_with (first
    | (with_reducible show wpList _ _ _ ({ dst := _, op := Op.load 29 (Operand.tmp 19), type := _, pos := _, after := _, guard := _ } :: _) _ _
       refine load_g rfl 29 _ rfl wk8.heap.size 0 rfl (V.cs a6 c6) d (HS9.out.has mm0).range hd hrw infoV ?_)
    | (with_reducible show wpList _ _ _ ({ dst := _, op := Op.load 29 (Operand.tmp 3), type := _, pos := _, after := _, guard := _ } :: _) _ _
       refine load_g rfl 29 _ rfl w.heap.size 0 rfl (V.cs a c) d (HS9.out.has mm1).range hd hrw infoV ?_)
    | (with_reducible show wpList _ _ _ ({ dst := none, op := Op.store 29 (Operand.tmp 19) _, type := _, pos := _, after := _, guard := _ } :: _) _ _
       refine st_new wk8 (V.cs a6 c6) 29 rfl rfl rfl rfl rfl infoV (vw_one _ _ _) ?_
       intro wk9 h6 g6
       have HS9 := Keep.mk (HS8.out.add h6 g6 HR6.out.1)
       have HDB2 := Keep.mk (HR6.out.2.kept g6 (by simp))
       clear h6 g6)
    | (with_reducible show wpList _ _ _ ({ dst := _, op := Op.load 29 (Operand.tmp 3), type := _, pos := _, after := _, guard := _ } :: _) _ _
       refine load_g rfl 29 _ rfl w.heap.size 0 rfl (V.cs a c) d (HS8.out.has mm0).range hd hrw infoV ?_))
  have cn0 := HS9.out.g.cell HC.out.1 (by simp)
  have cn1 := HS9.out.g.cell HC.out.2.1 (by simp)
  obtain ⟨Tg, hTg⟩ : ∃ q, ba tg = q := ⟨_, rfl⟩
  obtain ⟨t3, ht3⟩ : ∃ q, ba ((sl t).take (N - 32)) = q := ⟨_, rfl⟩
  have HT3 : Keep (t3 = ba B ∧ hmacB k0 t3 = Tg ∧ t3.size ≤ 1200 ∧ ba ((sl t).drop (N - 32)) = Tg) := by
    have h1 : sl t = B ++ tg := by rw [HT.out.1]; exact sl_mk _
    have h2 : N - 32 = B.length := by have := HT.out.2.2.2.2; omega
    have h3 : t3 = ba B := by rw [← ht3, h1, h2, List.take_left]
    refine ⟨h3, ?_, ?_, ?_⟩
    · apply sl_inj
      rw [h3, hmS, show sl (ba B) = B from sl_mk _, HT.out.2.2.1, ← hTg, show sl (ba tg) = tg from sl_mk _]
    · rw [h3, ba_size]; have := HT.out.2.2.2.2.1; have := HMb.out; omega
    · rw [h1, h2, List.drop_left, hTg]
  have hsl : ∀ W, (Instr.slice 9 (.string t) none (some (.int .i64 ((N : Int) - 32))) none).run Tryz.prog W = .ok (.string t3) W := fun W => by
    rw [run_slice_string_h W 9 t under9 .i64 ((N : Int) - 32) (by omega) (by rw [hN]; omega), show (((N : Int) - 32).toNat) = N - 32 by omega, ext_to, ht3]
  have cd0 : wk9.cell? ⟨wk7.heap.size, 0, none⟩ = some (.int .i64 6) := by rw [← HDD.out.1]; exact HDB2.out.cellv 0 _ rfl
  have cd5 : wk9.cell? ⟨wk7.heap.size, 5, none⟩ = some (.int .u64 (n0 : Int)) := by rw [← HDD.out.2.1]; exact HDB2.out.cellv 5 _ rfl
  have cd8 : wk9.cell? ⟨wk7.heap.size, 8, none⟩ = some (.int .u64 (n1 : Int)) := by rw [← HDD.out.2.2.1]; exact HDB2.out.cellv 8 _ rfl
  have cd13 : wk9.cell? ⟨wk7.heap.size, 13, none⟩ = some (.string s) := by rw [← HDD.out.2.2.2.1]; exact HDB2.out.cellv 13 _ rfl
  have cd14 : wk9.cell? ⟨wk7.heap.size, 14, none⟩ = some (.string Tg) := by rw [← hTg, ← HDD.out.2.2.2.2]; exact HDB2.out.cellv 14 _ rfl
  have HSV : Keep (St w0 wk9 [⟨wk8.heap.size, V, a6, c6⟩, ⟨w.heap.size, V, a, c⟩]) := HS9
  have hNb : (N : Int) ≤ 1200 := by have := HNE.out; omega
  have HE3 : Keep (t.extract 0 (N - 32) = t3) := ⟨by rw [ext_to, ht3]⟩
  clear ht3
  go_wp2_with fail
  refine r14 (V := V) (a := a) (c := c) (a6 := a6) (c6 := c6) (n0 := n0) (n1 := n1) (N := N) (M := M) (Nm := N - 32) (t3 := t3) (Tg := Tg) ?_ ?_ (HK.out.1.kept HSV.out.g (by simp)) HK.out.2.2.1 HK.out.2.2.2.2.2.1 hM hN HNE.out (by omega) (by omega) HT3.out.2.1 HT3.out.2.2.1 HE3.out (HSV.out.has mm0) (HSV.out.has mm1) (HSV.out.seen mm0) (HSV.out.seen mm1) cd0 cd5 cd8 cd13 cd14 cn0 cn1 ?_
  · kernel_rfl
  · exact fun _ _ _ _ _ h => h
  intro w10 y103 y104 y105 y106 y107 y108 y109 y110 y111 y112 y113 y114 y115 y116 y117 y118 y119 y120 y121 y122 y123 y124 y125 y126 y127 y128 y129 y130 y131 y132 y133 y134 y135 y136 y137 y138 y139 y140 y141 y142 y143 y144 y145 y146 y147 y148 y149 y150 y151 y152 y153 y154 y155 y156 y157 y158 y159 y160 y161 y162 y163 y164 y165 y166 y167 y168 y169 y170 y171 y172 y173 y174 y175 hHeld
  have HS10 : Keep (St w0 w10 [⟨wk8.heap.size, V, a6, c6⟩, ⟨w.heap.size, V, a, c⟩]) := ⟨HSV.out.kept hHeld⟩
  have HXB : Keep (wk8.heap.size < w10.heap.size ∧ w0.heap.size ≤ wk8.heap.size ∧ ∀ b' o, a = some ⟨b', o, none⟩ → V.S ≠ [] → b' ≠ wk8.heap.size) := ⟨(HS10.out.has mm0).lt, by have := HSd.out.g.size; have := HGP.out.g.size; omega, fun b' o e hS => by have := seen_lt (HS8.out.seen mm0) hS e; omega⟩
  clear cd0 cd5 cd8 cd13 cd14 cn0 cn1 hHeld HDB2 HSV HDD HR6
  go_wp2_with fail
  have OP := open_c t k1 w10 (HK.out.1.kept HS10.out.g (by simp)) (by rw [hN]; have := HMb.out; have := HNE.out; omega) (by have := HK.out.2.2.2.2.2.2; omega)
  obtain ⟨H1, hH1⟩ : ∃ q, hmacB k1 t3 = q := ⟨_, rfl⟩
  have HH1 := Keep.mk hH1
  have HTg : Keep (ba tg = Tg) := ⟨hTg⟩
  clear hH1 hTg
  by_cases hHH : H1 = Tg
  · have hop : opS t k1 = (n0, n1, V, 0) := by
      have hrd : rdV (sl s) = (V, 0) := by rw [HF.out.2.1]; exact rd_wr HK.out.2.1 HF.out.1
      have h := op_yes (ses := n0) (seq := n1) (b := s) (key := k1) HK.out.2.2.2.1 HK.out.2.2.2.2.1 (by rw [hM]; have := HMb.out; omega) (Mac.hmac_len _ _) (by rw [hrd])
      have hm : Mac.hmac (sl k1) B = tg := by
        have h1 := congrArg sl (HH1.out.trans (hHH.trans HTg.out.symm))
        rw [hmS, HT3.out.1, show sl (ba B) = B from sl_mk _, show sl (ba tg) = tg from sl_mk _] at h1
        exact h1
      rw [HT.out.2.1, hm, hrd] at h
      rw [HT.out.1]; exact h
    subst hHH
    rw [hop] at OP
    clear hop
    refine OP.mono ?_
    rintro e w11 ⟨a7, c7, rfl, RR⟩
    have HS11 := Keep.mk (HS10.out.kept RR.g)
    have HR7 : Keep (SeenR w11 a7 V.S ∧ (w0.heap.size ≤ wk8.heap.size) ∧ (∀ x ∈ [(⟨w.heap.size, V, a, c⟩ : Bx)], x.b ≠ wk8.heap.size ∧ ∀ b' o, x.a = some ⟨b', o, none⟩ → x.V.S ≠ [] → b' ≠ wk8.heap.size) ∧ ∀ b' o, a7 = some ⟨b', o, none⟩ → V.S ≠ [] → b' ≠ wk8.heap.size) := by
      refine ⟨rd_seen RR, HXB.out.2.1, fun x hx => ?_, fun b' o e hS => ?_⟩
      · rw [List.mem_singleton] at hx; subst hx
        exact ⟨by have h1 := HSZ.out.1; have h2 := HXB.out.2.1; show w.heap.size ≠ _; omega, HXB.out.2.2⟩
      · rcases RR.s with ⟨_, _, h⟩ | ⟨b, h, _, hb, _⟩
        · exact absurd h hS
        · rw [e] at h
          have e3 := Option.some.inj h
          injection e3 with e4
          have := HXB.out.1
          omega
    clear OP RR
    go_wp2_with (first
      | (with_reducible show wpList _ _ _ ({ dst := none, op := Op.store 29 _ _, type := _, pos := _, after := _, guard := _ } :: _) _ _
         refine st_all _ wk8.heap.size (V.cs a6 c6) (V.cs a7 c7) 29 29 rfl rfl rfl rfl (HS11.out.has mm0) rfl infoV (vw_one _ _ _) ?_
         intro w12 h6 g6
         have HS12 := Keep.mk (HS11.out.set h6 g6 HR7.out.2.1 HR7.out.1 HR7.out.2.2.1 HR7.out.2.2.2)
         clear h6 g6))
    refine (tag_any k1 t3 w12 (HK.out.1.kept HS12.out.g (by simp)) (by have := HK.out.2.2.2.2.2.2; omega) (by have := HT3.out.2.2.1; omega)).mono ?_
    rintro e w13 ⟨rfl, g7⟩
    rw [HH1.out]
    have HS13 := Keep.mk (HS12.out.kept g7)
    clear g7
    go_wp2_with fail
    refine (tag_c t w13 (by rw [hN]; omega) (by rw [hN]; have := HMb.out; have := HNE.out; omega)).mono ?_
    rintro e w14 ⟨rfl, hw14⟩
    subst hw14
    rw [hN, HT3.out.2.2.2]
    have hbe : (H1.toList == H1.toList) = true := by simp
    have hcvt : (convert 9 55 (.string t)).run Tryz.prog w14 = .ok (.slice (some ⟨w14.heap.size, 0, none⟩) t.size (grownCap w14 t.size 0 5)) (Lib.bytesWorld w14 5 t) := Lib.run_convert_string_bytes (P := Tryz.prog) w14 9 55 5 t (u := .string) under9 under53 under5
    obtain ⟨wz, hwz⟩ : ∃ q, Lib.bytesWorld w14 5 t = q := ⟨_, rfl⟩
    obtain ⟨bk, hbk⟩ : ∃ q, w14.heap.size = q := ⟨_, rfl⟩
    obtain ⟨cap, hcap⟩ : ∃ q, grownCap w14 t.size 0 5 = q := ⟨_, rfl⟩
    have HW : Keep (Wb wz bk (sl t) ∧ w14.grownBy wz none ∧ N ≤ cap) := ⟨by rw [← hwz, ← hbk]; exact Wb.new _ t, by rw [← hwz]; exact gr_bytes _ t, by rw [← hcap, ← hN]; exact grownCap_ge _ _ _ _⟩
    rw [hwz, hbk, hcap, hN] at hcvt
    have HBK := Keep.mk hbk
    clear hwz hbk hcap
    obtain ⟨p, hp⟩ : ∃ p : Nat, (N : Int) - 1 = (p : Int) := ⟨N - 1, by have := HNE.out; omega⟩
    have hpN : (p : Int) < (N : Int) := by omega
    have HP : Keep (N = p + 1) := ⟨by omega⟩
    obtain ⟨x, hx⟩ : ∃ x, (sl t)[p]? = some x := ⟨_, List.getElem?_eq_getElem (by rw [sl_len, hN]; omega)⟩
    have xc : wz.cell? ⟨bk, p, none⟩ = some (.int .u8 (x.toNat : Int)) := HW.out.1.at_ p x hx
    have xz := HW.out.1.fz p (List.getElem?_eq_some_iff.1 hx).1
    obtain ⟨y, hy⟩ : ∃ y, x ^^^ 64 = y := ⟨_, rfl⟩
    have hxor : bits .xor .u8 (x.toNat : Int) 64 = (y.toNat : Int) := by rw [← hy]; exact c_xor x 64
    obtain ⟨we, hwe⟩ : ∃ q, wz.setCell ⟨bk, p, none⟩ (.int .u8 (y.toNat : Int)) = q := ⟨_, rfl⟩
    have HE : Keep (Wb we bk ((sl t).set p y) ∧ w14.grownBy we none) := ⟨by rw [← hwe]; exact HW.out.1.set p y, by rw [← hwe]; exact gr_new HW.out.2.1 (gr_set wz bk p _) (by rw [HBK.out]; exact Nat.le_refl _)⟩
    have HSE := Keep.mk (HS13.out.kept HE.out.2)
    obtain ⟨t2, ht2⟩ : ∃ q, ba ((sl t).set p y) = q := ⟨_, rfl⟩
    have hcv2 : (convert 55 9 (.slice (some ⟨bk, 0, none⟩) N cap)).run Tryz.prog we = .ok (.string t2) we := by
      have h := HE.out.1.bytes N cap (by rw [List.length_set, sl_len, hN]) HW.out.2.2
      rw [ht2] at h
      exact h
    have hN2 : t2.size = N := by rw [← ht2, ba_size, List.length_set, sl_len, hN]
    have HO : Keep (opS t2 k0 = (0, 0, Vw.zero, 124)) := by
      have h1 : sl t = B ++ tg := by rw [HT.out.1]; exact sl_mk _
      have hpe : p = B.length + 31 := by have := HT.out.2.2.2.2; have := HP.out; omega
      have h2 : (sl t).set p y = B ++ tg.set 31 y := by
        rw [h1, List.set_append_right _ _ (by omega), show p - B.length = 31 by omega]
      have hx2 : tg[31]? = some x := by
        rw [h1, List.getElem?_append_right (by omega), show p - B.length = 31 by omega] at hx
        exact hx
      have hne : tg.set 31 y ≠ Mac.hmac (sl k0) (snB n0 n1 (sl s)) := by
        rw [HT.out.2.1, HT.out.2.2.1]
        intro e
        have h3 : (tg.set 31 y)[31]? = some y := List.getElem?_set_self (by have := HT.out.2.2.2.1; omega)
        rw [e, hx2] at h3
        exact xor_ne x (by rw [hy]; exact (Option.some.inj h3).symm)
      have h := op_tag (ses := n0) (seq := n1) (b := s) (key := k0) (t := tg.set 31 y) HK.out.2.2.2.1 HK.out.2.2.2.2.1 (by rw [List.length_set]; exact HT.out.2.2.2.1) (by rw [hM]; exact HMb.out.2) hne
      rw [HT.out.2.1] at h
      rw [← ht2, h2]; exact ⟨h⟩
    clear hy ht2 hx
    go_wp2_with fail
    clear hcvt hcv2 xc xz hwe
    have OQ := open_c t2 k0 we (HK.out.1.kept HSE.out.g (by simp)) (by rw [hN2]; omega) (by have := HK.out.2.2.2.2.2.1; omega)
    rw [HO.out] at OQ
    refine OQ.mono ?_
    rintro e w16 ⟨a8, c8, rfl, RR⟩
    have HS16 := Keep.mk (HSE.out.kept RR.g)
    clear OQ RR
    go_wp2_with fail
    go_ret
    exact ⟨rfl, HG0.out.trans HS16.out.g⟩
  · have hop : opS t k1 = (0, 0, Vw.zero, 124) := by
      have h := op_tag (ses := n0) (seq := n1) (b := s) (key := k1) (t := tg) HK.out.2.2.2.1 HK.out.2.2.2.2.1 HT.out.2.2.2.1 (by rw [hM]; exact HMb.out.2) (by
        rw [HT.out.2.1]
        intro e
        apply hHH
        rw [← HH1.out, ← HTg.out]
        apply sl_inj
        rw [hmS, HT3.out.1, show sl (ba B) = B from sl_mk _, show sl (ba tg) = tg from sl_mk _]
        exact e.symm)
      rw [HT.out.2.1] at h
      rw [HT.out.1]; exact h
    have hbe : (H1.toList == Tg.toList) = false := by
      have : ¬ H1.toList = Tg.toList := fun e => hHH (bainj e)
      simpa using this
    have hbe2 : ¬ H1.toList = Tg.toList := fun e => hHH (bainj e)
    clear hHH
    rw [hop] at OP
    clear hop
    refine OP.mono ?_
    rintro e w11 ⟨a7, c7, rfl, RR⟩
    have HS11 := Keep.mk (HS10.out.kept RR.g)
    have HR7 : Keep (SeenR w11 a7 Vw.zero.S ∧ (w0.heap.size ≤ wk8.heap.size) ∧ (∀ x ∈ [(⟨w.heap.size, V, a, c⟩ : Bx)], x.b ≠ wk8.heap.size ∧ ∀ b' o, x.a = some ⟨b', o, none⟩ → x.V.S ≠ [] → b' ≠ wk8.heap.size) ∧ ∀ b' o, a7 = some ⟨b', o, none⟩ → Vw.zero.S ≠ [] → b' ≠ wk8.heap.size) := by
      refine ⟨rd_seen RR, HXB.out.2.1, fun x hx => ?_, fun b' o e hS => ?_⟩
      · rw [List.mem_singleton] at hx; subst hx
        exact ⟨by have h1 := HSZ.out.1; have h2 := HXB.out.2.1; show w.heap.size ≠ _; omega, HXB.out.2.2⟩
      · rcases RR.s with ⟨_, _, h⟩ | ⟨b, h, _, hb, _⟩
        · exact absurd h hS
        · rw [e] at h
          have e3 := Option.some.inj h
          injection e3 with e4
          have := HXB.out.1
          omega
    clear OP RR
    go_wp2_with (first
      | (with_reducible show wpList _ _ _ ({ dst := none, op := Op.store 29 _ _, type := _, pos := _, after := _, guard := _ } :: _) _ _
         refine st_all _ wk8.heap.size (V.cs a6 c6) (Vw.zero.cs a7 c7) 29 29 rfl rfl rfl rfl (HS11.out.has mm0) rfl infoV (vw_one _ _ _) ?_
         intro w12 h6 g6
         have HS12 := Keep.mk (HS11.out.set h6 g6 HR7.out.2.1 HR7.out.1 HR7.out.2.2.1 HR7.out.2.2.2)
         clear h6 g6))
    refine (tag_any k1 t3 w12 (HK.out.1.kept HS12.out.g (by simp)) (by have := HK.out.2.2.2.2.2.2; omega) (by have := HT3.out.2.2.1; omega)).mono ?_
    rintro e w13 ⟨rfl, g7⟩
    rw [HH1.out]
    have HS13 := Keep.mk (HS12.out.kept g7)
    clear g7
    go_wp2_with fail
    refine (tag_c t w13 (by rw [hN]; omega) (by rw [hN]; have := HMb.out; have := HNE.out; omega)).mono ?_
    rintro e w14 ⟨rfl, hw14⟩
    subst hw14
    rw [hN, HT3.out.2.2.2]

    go_wp2_with (first
      | (with_reducible show wpList _ _ _ ({ dst := _, op := Op.build 29 _, type := _, pos := _, after := _, guard := _ } :: _) _ _
         refine build_g rfl 29 _ rfl _ ((congrArg (Tryz.prog.built 29) (by simp only [List.map_toArray, List.map_nil]; rfl)).trans HBT.out) ?_
         simp only [Act.put, List.setIfInBounds_toArray, List.set_cons_zero, List.set_cons_succ])
      | (with_reducible show wpList _ _ _ ({ dst := _, op := Op.load 29 (Operand.tmp 19), type := _, pos := _, after := _, guard := _ } :: _) _ _
         refine load_g rfl 29 _ rfl wk8.heap.size 0 rfl (Vw.zero.cs a7 c7) d (HS13.out.has mm0).range hd hrw infoV ?_)
      | (with_reducible show wpList _ _ _ ({ dst := _, op := Op.load 29 (Operand.tmp 3), type := _, pos := _, after := _, guard := _ } :: _) _ _
         refine load_g rfl 29 _ rfl w.heap.size 0 rfl (V.cs a c) d (HS13.out.has mm1).range hd hrw infoV ?_))
    refine (same_c Vw.zero Vw.zero a7 none c7 0 w14 (HS13.out.seen mm0) (seen_nil _) (by show 0 ≤ _; omega)).mono ?_
    rintro e w15 ⟨b, rfl, hb, g9⟩
    obtain rfl : b = true := hb.2 rfl
    have HS15 := Keep.mk (HS13.out.kept g9)
    clear hb g9
    have hcvt : (convert 9 55 (.string t)).run Tryz.prog w15 = .ok (.slice (some ⟨w15.heap.size, 0, none⟩) t.size (grownCap w15 t.size 0 5)) (Lib.bytesWorld w15 5 t) := Lib.run_convert_string_bytes (P := Tryz.prog) w15 9 55 5 t (u := .string) under9 under53 under5
    obtain ⟨wz, hwz⟩ : ∃ q, Lib.bytesWorld w15 5 t = q := ⟨_, rfl⟩
    obtain ⟨bk, hbk⟩ : ∃ q, w15.heap.size = q := ⟨_, rfl⟩
    obtain ⟨cap, hcap⟩ : ∃ q, grownCap w15 t.size 0 5 = q := ⟨_, rfl⟩
    have HW : Keep (Wb wz bk (sl t) ∧ w15.grownBy wz none ∧ N ≤ cap) := ⟨by rw [← hwz, ← hbk]; exact Wb.new _ t, by rw [← hwz]; exact gr_bytes _ t, by rw [← hcap, ← hN]; exact grownCap_ge _ _ _ _⟩
    rw [hwz, hbk, hcap, hN] at hcvt
    have HBK := Keep.mk hbk
    clear hwz hbk hcap
    obtain ⟨p, hp⟩ : ∃ p : Nat, (N : Int) - 1 = (p : Int) := ⟨N - 1, by have := HNE.out; omega⟩
    have hpN : (p : Int) < (N : Int) := by omega
    have HP : Keep (N = p + 1) := ⟨by omega⟩
    obtain ⟨x, hx⟩ : ∃ x, (sl t)[p]? = some x := ⟨_, List.getElem?_eq_getElem (by rw [sl_len, hN]; omega)⟩
    have xc : wz.cell? ⟨bk, p, none⟩ = some (.int .u8 (x.toNat : Int)) := HW.out.1.at_ p x hx
    have xz := HW.out.1.fz p (List.getElem?_eq_some_iff.1 hx).1
    obtain ⟨y, hy⟩ : ∃ y, x ^^^ 64 = y := ⟨_, rfl⟩
    have hxor : bits .xor .u8 (x.toNat : Int) 64 = (y.toNat : Int) := by rw [← hy]; exact c_xor x 64
    obtain ⟨we, hwe⟩ : ∃ q, wz.setCell ⟨bk, p, none⟩ (.int .u8 (y.toNat : Int)) = q := ⟨_, rfl⟩
    have HE : Keep (Wb we bk ((sl t).set p y) ∧ w15.grownBy we none) := ⟨by rw [← hwe]; exact HW.out.1.set p y, by rw [← hwe]; exact gr_new HW.out.2.1 (gr_set wz bk p _) (by rw [HBK.out]; exact Nat.le_refl _)⟩
    have HSE := Keep.mk (HS15.out.kept HE.out.2)
    obtain ⟨t2, ht2⟩ : ∃ q, ba ((sl t).set p y) = q := ⟨_, rfl⟩
    have hcv2 : (convert 55 9 (.slice (some ⟨bk, 0, none⟩) N cap)).run Tryz.prog we = .ok (.string t2) we := by
      have h := HE.out.1.bytes N cap (by rw [List.length_set, sl_len, hN]) HW.out.2.2
      rw [ht2] at h
      exact h
    have hN2 : t2.size = N := by rw [← ht2, ba_size, List.length_set, sl_len, hN]
    have HO : Keep (opS t2 k0 = (0, 0, Vw.zero, 124)) := by
      have h1 : sl t = B ++ tg := by rw [HT.out.1]; exact sl_mk _
      have hpe : p = B.length + 31 := by have := HT.out.2.2.2.2; have := HP.out; omega
      have h2 : (sl t).set p y = B ++ tg.set 31 y := by
        rw [h1, List.set_append_right _ _ (by omega), show p - B.length = 31 by omega]
      have hx2 : tg[31]? = some x := by
        rw [h1, List.getElem?_append_right (by omega), show p - B.length = 31 by omega] at hx
        exact hx
      have hne : tg.set 31 y ≠ Mac.hmac (sl k0) (snB n0 n1 (sl s)) := by
        rw [HT.out.2.1, HT.out.2.2.1]
        intro e
        have h3 : (tg.set 31 y)[31]? = some y := List.getElem?_set_self (by have := HT.out.2.2.2.1; omega)
        rw [e, hx2] at h3
        exact xor_ne x (by rw [hy]; exact (Option.some.inj h3).symm)
      have h := op_tag (ses := n0) (seq := n1) (b := s) (key := k0) (t := tg.set 31 y) HK.out.2.2.2.1 HK.out.2.2.2.2.1 (by rw [List.length_set]; exact HT.out.2.2.2.1) (by rw [hM]; exact HMb.out.2) hne
      rw [HT.out.2.1] at h
      rw [← ht2, h2]; exact ⟨h⟩
    clear hy ht2 hx
    go_wp2_with fail
    clear hcvt hcv2 xc xz hwe
    have OQ := open_c t2 k0 we (HK.out.1.kept HSE.out.g (by simp)) (by rw [hN2]; omega) (by have := HK.out.2.2.2.2.2.1; omega)
    rw [HO.out] at OQ
    refine OQ.mono ?_
    rintro e w16 ⟨a8, c8, rfl, RR⟩
    have HS16 := Keep.mk (HSE.out.kept RR.g)
    clear OQ RR
    go_wp2_with fail
    go_ret
    exact ⟨rfl, HG0.out.trans HS16.out.g⟩
end Go.Proofs.YtkdjcknikhgfkaaGreatDoor.Pk.Sn
