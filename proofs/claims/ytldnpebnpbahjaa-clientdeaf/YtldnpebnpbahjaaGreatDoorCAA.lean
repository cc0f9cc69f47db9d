import Derived.Test.YtldnpebnpbahjaaGreatDoorCA9
/- New and View of a client -/
namespace Go.Proofs.YtldnpebnpbahjaaGreatDoor.Pk.Sn
open Go Go.RowKit

theorem underA : ∃ d, Tryz.prog.underlying 63 = some d ∧ d.isRow = true := ⟨_, Tryz.underlying63, rfl⟩
theorem fls_at (S : List Sn) (j : Nat) (s : Sn) (h : S[j]? = some s) (i : Nat) (z : Value) (hz : s.cs[i]? = some z) : (fls S)[5 * j + i]? = some z := by
  induction S generalizing j with
  | nil => cases h
  | cons a r ih =>
    have e : fls (a :: r) = a.cs ++ fls r := by simp [fls]
    have hi : i < 5 := by
      have := (List.getElem?_eq_some_iff.1 hz).1
      exact this
    rw [e]
    cases j with
    | zero =>
      obtain rfl := Option.some.inj h
      rw [List.getElem?_append_left (by show 5 * 0 + i < 5; omega)]
      simpa using hz
    | succ j =>
      have hl : a.cs.length = 5 := rfl
      rw [List.getElem?_append_right (by rw [hl]; omega), hl, show 5 * (j + 1) + i - 5 = 5 * j + i by omega]
      exact ih j h
theorem fls_snr {w : World} {b : Nat} {S : List Sn} {ty : TypeId} (h : Has w b (fls S) ty) : SnR w b 0 S := fun j s hj i z hz => by
  rw [Nat.zero_add]; exact h.cellv _ z (fls_at S j s hj i z hz)
theorem seen_set {w w' : World} {a : Option Addr} {S : List Sn} {k : Nat} (h : SeenR w a S) (g : w.grownBy w' (some k)) (hn : ∀ b o, a = some ⟨b, o, none⟩ → b ≠ k) : SeenR w' a S := fun q => by
  obtain ⟨sb, so, e, r⟩ := h q
  exact ⟨sb, so, e, fun j s hj i z hz => g.cell (r j s hj i z hz) (by simp; exact hn sb so e)⟩
theorem rd_seen {w w' : World} {V : Vw} {a : Option Addr} {c : Nat} (h : RdR w w' V a c) : SeenR w' a V.S := by
  rcases h.s with ⟨_, _, h0⟩ | ⟨b, e, _, _, hb⟩
  · rw [h0]; exact fun q => absurd rfl q
  · intro _
    exact ⟨b, 0, e, fls_snr hb⟩
/-- may a client be made? -/
def newE (nm sc nc : ByteArray) : Int := if Na.chk nm ≠ 0 then 60 else if sc.size ≠ 32 then 120 else if nc.size ≠ 16 then 73 else 0
theorem new_ok {nm sc nc : ByteArray} (h : newE nm sc nc = 0) : (newS nm sc nc).ok := by
  unfold newE at h
  split at h
  · exact absurd h (by decide)
  rename_i h1
  split at h
  · exact absurd h (by decide)
  rename_i h2
  split at h
  · exact absurd h (by decide)
  rename_i h3
  have hn : nm.size ≤ 24 := by
    have h1 : Na.chk nm = 0 := by simpa using h1
    unfold Na.chk at h1
    split at h1
    · rename_i q
      unfold Na.chkOK at q
      simp only [Bool.and_eq_true, decide_eq_true_eq] at q
      exact q.1.1.2
    · exact absurd h1 (by decide)
  exact ⟨hn, by show sc.size = 32; omega, by show nc.size = 16; omega, by show (0 : Nat) ≤ 32; omega, by show (0 : Nat) < _; omega, by show (-9223372036854775808 : Int) ≤ 0 ∧ (0 : Int) < 9223372036854775808; omega, by show (0 : Nat) < _; omega, by show (0 : Nat) < _; omega, by show (0 : Nat) ≤ _; omega, .inl rfl⟩
set_option maxHeartbeats 8000000 in
set_option maxRecDepth 100000 in
theorem new_c (nm sc nc : ByteArray) (w : World) (hk : Na.Kc w) (h1 : nm.size ≤ 281474976710656) (h2 : sc.size ≤ 281474976710656) (h3 : nc.size ≤ 281474976710656) :
    Calls Tryz.prog 20 #[.agg #[.string nm, .string sc], .string nc] w fun e w' => (newE nm sc nc ≠ 0 ∧ e = .returned (.tuple #[.pointer none, iv (newE nm sc nc)]) ∧ w.grownBy w' none) ∨ (newE nm sc nc = 0 ∧ ∃ cb, e = .returned (.tuple #[pa cb 0, iv 0]) ∧ Has w' cb (newS nm sc nc).cs 83 ∧ w.grownBy w' none ∧ w.heap.size ≤ cb) := by
  obtain ⟨E, hE⟩ : ∃ q, newE nm sc nc = q := ⟨_, rfl⟩
  rw [hE]
  unfold newE at hE
  obtain ⟨w0, hw0⟩ : ∃ q, w.alloc (.cells #[.string nm, .string sc] 63) = q := ⟨_, rfl⟩
  obtain ⟨h0, g0, s0⟩ := hasN hw0
  have HCK := Keep.mk (Na.check_c nm w0 h1 (hk.kept g0))
  have a0 : w0.cell? ⟨w.heap.size, 0, none⟩ = some (.string nm) := h0.cellv 0 _ rfl
  have a1 : w0.cell? ⟨w.heap.size, 1, none⟩ = some (.string sc) := h0.cellv 1 _ rfl
  obtain ⟨ck, hck⟩ : ∃ q, Na.chk nm = q := ⟨_, rfl⟩
  rw [hck] at hE HCK
  have HSZ := Keep.mk (And.intro h1 (And.intro h2 h3))
  have HG := Keep.mk g0
  clear h0 g0 s0 hk h1 h2 h3 hck
  go_enter Tryz.func20, Tryz.ntmps20
  go_wp2_with fail
  refine HCK.out.mono ?_
  rintro e w1 ⟨rfl, g1⟩
  have HG1 := Keep.mk (HG.out.trans g1)
  replace a0 := g1.cell a0 (by simp)
  replace a1 := g1.cell a1 (by simp)
  clear g1 HCK hw0
  by_cases hz : ck ≠ 0
  · rw [if_pos hz] at hE
    subst hE
    have q1 : (ck != 0) = true := by simp [hz]
    clear hz
    go_wp2_with fail
    go_ret2
    exact .inl ⟨by decide, rfl, HG1.out⟩
  rw [if_neg hz] at hE
  have q1 : (ck != 0) = false := by simp; simpa using hz
  clear hz
  by_cases h32 : sc.size ≠ 32
  · rw [if_pos h32] at hE
    subst hE
    have q2 : ((sc.size : Int) != 32) = true := by simp; omega
    have q3 : (sc.size != 32) = true := by simp; omega
    clear h32
    go_wp2_with fail
    go_ret2
    exact .inl ⟨by decide, rfl, HG1.out⟩
  rw [if_neg h32] at hE
  have q2 : ((sc.size : Int) != 32) = false := by simp; omega
  have q3 : (sc.size != 32) = false := by simp; omega
  clear h32
  by_cases h16 : nc.size ≠ 16
  · rw [if_pos h16] at hE
    subst hE
    have q4 : ((nc.size : Int) != 16) = true := by simp; omega
    have q5 : (nc.size != 16) = true := by simp; omega
    clear h16
    go_wp2_with fail
    go_ret2
    exact .inl ⟨by decide, rfl, HG1.out⟩
  rw [if_neg h16] at hE
  subst hE
  have q4 : ((nc.size : Int) != 16) = false := by simp; omega
  have q5 : (nc.size != 16) = false := by simp; omega
  clear h16
  obtain ⟨w0, hw0⟩ : ∃ q, w1 = q := ⟨_, rfl⟩
  rw [hw0] at a0 a1 HG1 ⊢
  clear hw0 w1
  have HB := Keep.mk (builtCl nm sc nc)
  go_wp2_with fail
  refine region_Y (S := fun w' => w0.grownBy w' none) [] (by kernel_rfl) ?_
  have hHeld := gr_drew w0 none
  refine wpAnyY_pure (i := 0) (oi := _) (v := ?_) rfl (by kernel_rfl) (by kernel_rfl) (by kernel_rfl) (by kernel_rfl) (fun _ _ _ h => h) (Or.inl ⟨by rfl, ?_⟩) ?_
  rotate_left
  · (intro w hSw; go_simp; first | done | (with_reducible rfl))
  simp only [Act.put, List.getElem_toArray, List.getElem_cons_zero, List.setIfInBounds_toArray, List.set_cons_zero, List.set_cons_succ]
  refine wpAnyY_take (i := 1) (oi := _) (v := ?_) rfl (by kernel_rfl) (by kernel_rfl) (by kernel_rfl) (by kernel_rfl) (by kernel_rfl) (fun _ _ _ h => h) (Or.inl ⟨by rfl, ?_⟩) (by assumption) ?_
  rotate_left
  · (intro w hSw; have k0 := hSw.cell a0 (by simp); go_simp; first | done | (with_reducible rfl))
  simp only [Act.put, List.getElem_toArray, List.getElem_cons_succ, List.getElem_cons_zero, List.setIfInBounds_toArray, List.set_cons_zero, List.set_cons_succ]
  refine wpAnyY_pure (i := 3) (oi := _) (v := ?_) rfl (by kernel_rfl) (by kernel_rfl) (by kernel_rfl) (by kernel_rfl) (fun _ _ _ h => h) (Or.inl ⟨by rfl, ?_⟩) ?_
  rotate_left
  · (intro w hSw; go_simp; first | done | (with_reducible rfl))
  simp only [Act.put, List.getElem_toArray, List.getElem_cons_succ, List.getElem_cons_zero, List.setIfInBounds_toArray, List.set_cons_zero, List.set_cons_succ]
  refine wpAnyY_take (i := 4) (oi := _) (v := ?_) rfl (by kernel_rfl) (by kernel_rfl) (by kernel_rfl) (by kernel_rfl) (by kernel_rfl) (fun _ _ _ h => h) (Or.inl ⟨by rfl, ?_⟩) (by assumption) ?_
  rotate_left
  · (intro w hSw; have k0 := hSw.cell a1 (by simp); go_simp; first | done | (with_reducible rfl))
  simp only [Act.put, List.getElem_toArray, List.getElem_cons_succ, List.getElem_cons_zero, List.setIfInBounds_toArray, List.set_cons_zero, List.set_cons_succ]
  refine wpAnyY_pure (i := 6) (oi := _) (v := ?_) rfl (by kernel_rfl) (by kernel_rfl) (by kernel_rfl) (by kernel_rfl) (fun _ _ _ h => h) (Or.inl ⟨by rfl, ?_⟩) ?_
  rotate_left
  · (intro w hSw; go_simp; first | done | (with_reducible rfl))
  simp only [Act.put, List.getElem_toArray, List.getElem_cons_succ, List.getElem_cons_zero, List.setIfInBounds_toArray, List.set_cons_zero, List.set_cons_succ]
  refine wpAnyY_one (i := 2) (o := _) (by kernel_rfl) rfl (fun K hK => ?_)
  go_simp
  refine (Na.clone_c nm _ (by have := HSZ.out; omega)).mono ?_
  rintro e w1 ⟨rfl, g10⟩
  have g1 := Keep.mk (hHeld.trans g10)
  refine hK.out _ _ (fun q => q.trans g10) ?_
  clear hK K g10
  refine wpAnyY_one (i := 5) (o := _) (by kernel_rfl) rfl (fun K hK => ?_)
  go_simp
  refine (Na.clone_c sc _ (by have := HSZ.out; omega)).mono ?_
  rintro e w2 ⟨rfl, g20⟩
  have g2 := Keep.mk (g1.out.trans g20)
  refine hK.out _ _ (fun q => q.trans g20) ?_
  clear hK K g20
  refine wpAnyY_one (i := 7) (o := _) (by kernel_rfl) rfl (fun K hK => ?_)
  go_simp
  refine (Na.clone_c nc _ (by have := HSZ.out; omega)).mono ?_
  rintro e w3 ⟨rfl, g30⟩
  have g3 := Keep.mk (g2.out.trans g30)
  refine hK.out _ _ (fun q => q.trans g30) ?_
  clear hK K g30
  refine wpAnyY_pure (i := 8) (oi := _) (v := .agg (newS nm sc nc).cs.toArray) rfl (by kernel_rfl) (by kernel_rfl) (by kernel_rfl) (by kernel_rfl) (fun _ _ _ h => h) (yieldsIf_build (by rfl) 83 _ rfl _ ((congrArg (Tryz.prog.built 83) (by simp only [List.map_toArray, List.map_cons, List.map_nil]; rfl)).trans HB.out)) ?_
  simp only [Act.put, List.getElem_toArray, List.getElem_cons_succ, List.getElem_cons_zero, List.setIfInBounds_toArray, List.set_cons_zero, List.set_cons_succ]
  refine wpAnyY_one (i := 9) (o := _) (by kernel_rfl) rfl (fun K hK => ?_)
  go_simp
  obtain ⟨w4, hw4⟩ : ∃ q, w3.alloc (.cells (newS nm sc nc).cs.toArray 83) = q := ⟨_, rfl⟩
  obtain ⟨h4, g4, s4⟩ := hasN hw4
  have H4 := Keep.mk (And.intro h4 (And.intro (g3.out.trans g4) (And.intro g3.out.size s4)))
  refine hK.out _ _ (fun q => q.trans (World.grownBy_alloc _ _ _)) ?_
  clear hK K
  rw [hw4]
  clear hw4 h4 g4 s4
  refine wpAnyY_one (i := 10) (o := _) (by kernel_rfl) rfl (fun K hK => ?_)
  go_simp
  refine hK.out _ _ (fun h => h) ?_
  clear hK K
  refine wpAnyY_one (i := 11) (o := _) (by kernel_rfl) rfl (fun K hK => ?_)
  go_simp
  refine hK.out _ _ (fun h => h) ?_
  clear hK K
  refine wpAnyY_done (by kernel_rfl) ?_ _

  go_wp2_with fail
  go_ret2
  exact ⟨_, rfl, H4.out.1, HG1.out.trans H4.out.2.1, by have := HG1.out.size; have := H4.out.2.2.1; omega⟩
set_option maxHeartbeats 8000000 in
set_option maxRecDepth 100000 in
theorem view_t (cb : Nat) (C : Cl) (w : World) (hh : Has w cb C.cs 83) :
    Calls Tryz.prog 16 #[pa cb 0] w fun e w' => ∃ a c, e = .returned (.tuple #[.agg ((rdV (sl C.vw)).1.cs a c).toArray, .bool (decide ((rdV (sl C.vw)).2 = 0))]) ∧ SeenR w' a (rdV (sl C.vw)).1.S ∧ w.grownBy w' none := by
  obtain ⟨dv', hdv, hdr⟩ := underV
  have HRD := Keep.mk (fun w3 => read_c C.vw w3)
  obtain ⟨R, hR⟩ : ∃ q, rdV (sl C.vw) = q := ⟨_, rfl⟩
  rw [hR] at HRD ⊢
  obtain ⟨V, cd⟩ := R
  obtain ⟨w0, hw0⟩ : ∃ q, w.alloc (.cells #[.int .u64 0, .int .i64 0, .string { data := #[] }, .int .i64 0, .int .i64 0, .int .i64 0, .int .i64 0, .int .i64 0, .int .i64 0, .int .i64 0, .int .i64 0, .int .i64 0, .int .i64 0, .int .i64 0, .int .i64 0, .slice none 0 0] 49) = q := ⟨_, rfl⟩
  obtain ⟨h0, g0, s0⟩ := hasN hw0
  have H0 : Keep (Has w0 w.heap.size (Vw.zero.cs none 0) 49 ∧ w.grownBy w0 none ∧ w.heap.size < w0.heap.size) := ⟨h0, g0, by omega⟩
  have c10 : w0.cell? ⟨cb, 10, none⟩ = some (.string C.vw) := g0.cell (hh.cellv 10 _ rfl) (by simp)
  clear h0 g0 s0 hh hR
  go_enter Tryz.func16, Tryz.ntmps16
  go_wp2_with fail
  refine (HRD.out w0).mono ?_
  rintro e w1 ⟨a, c, rfl, rr⟩
  have H1 : Keep (Has w1 w.heap.size (Vw.zero.cs none 0) 49 ∧ w.grownBy w1 none ∧ SeenR w1 a V.S) := ⟨H0.out.1.kept rr.g (by simp), H0.out.2.1.trans rr.g, rd_seen rr⟩
  have HNE : Keep (∀ b o, a = some ⟨b, o, none⟩ → b ≠ w.heap.size) := ⟨fun b o e => by
    rcases rr.s with ⟨e1, _⟩ | ⟨b', e1, _, hb', _⟩
    · rw [e1] at e; cases e
    · rw [e1] at e
      injection e with e
      injection e with e
      rw [← e]
      have := H0.out.2.2
      omega⟩
  have q1 : ((cd : Int) == 0) = decide (cd = 0) := by by_cases h : cd = 0 <;> simp [h]
  obtain ⟨B, hB⟩ : ∃ B, decide (cd = 0) = B := ⟨_, rfl⟩
  have HB := Keep.mk hB
  rw [hB] at q1
  clear rr HRD hB H0
  go_wp2_with (first
    | (with_reducible show wpList _ _ _ ({ dst := none, op := Op.store 49 (Operand.tmp 4) _, type := _, pos := _, after := _, guard := _ } :: _) _ _
       refine st_new w1 (V.cs a c) 49 rfl rfl rfl rfl rfl infoV (vw_one _ _ _) ?_
       intro w6 h6 g6
       have H6 : Keep (Has w6 w1.heap.size (V.cs a c) 49 ∧ Has w6 w.heap.size (Vw.zero.cs none 0) 49 ∧ w.grownBy w6 none ∧ SeenR w6 a V.S) := ⟨h6, H1.out.1.kept g6 (by simp), H1.out.2.1.trans g6, H1.out.2.2.kept g6⟩
       clear h6 g6)
    | (with_reducible show wpList _ _ _ ({ dst := _, op := Op.load 49 _, type := _, pos := _, after := _, guard := _ } :: _) _ _
       refine load_g rfl 49 _ rfl w1.heap.size 0 rfl (V.cs a c) dv' H6.out.1.range hdv hdr infoV ?_)
    | (with_reducible show wpList _ _ _ ({ dst := none, op := Op.store 49 (Operand.tmp 2) _, type := _, pos := _, after := _, guard := _ } :: _) _ _
       refine st_part w6 w.heap.size 0 (Vw.zero.cs none 0) (V.cs a c) 49 49 rfl rfl rfl rfl H6.out.2.1 (by show 0 + 16 ≤ 16; omega) infoV (vw_one _ _ _) ?_
       intro w7 h7 g7
       have H7 : Keep (Has w7 w.heap.size (V.cs a c) 49 ∧ w.grownBy w7 none ∧ SeenR w7 a V.S) := ⟨by rw [over_all (Vw.zero.cs none 0) (V.cs a c) rfl] at h7; exact h7, gr_new H6.out.2.2.1 g7 (Nat.le_refl _), seen_set H6.out.2.2.2 g7 HNE.out⟩
       clear h7 g7))
  exact ret_ct rfl rfl H7.out.1 hdv hdr infoV rfl (by rw [HB.out]; exact ⟨a, c, rfl, H7.out.2.2, H7.out.2.1⟩)
end Go.Proofs.YtldnpebnpbahjaaGreatDoor.Pk.Sn
