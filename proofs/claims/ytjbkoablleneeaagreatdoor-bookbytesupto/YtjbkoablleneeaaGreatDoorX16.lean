import Derived.Test.YtjbkoablleneeaaGreatDoorX15
/- book.takeAll, Read -/
namespace Go.Proofs.YtjbkoablleneeaaGreatDoor.Pk
open Go Go.RowKit

theorem own_any {lo : Nat} {W : World} {e : TypeId} {s : Nat} {v : Value} {n : Nat} {xs : List Value} (h : W.ownsRow lo e s v n xs) (hn : 0 < n) : ∃ g c, v = .slice (some ⟨g, 0, none⟩) n c ∧ ∀ (k : Nat) t, xs[k]? = some t → W.cell? ⟨g, k, none⟩ = some t ∧ W.frozen? ⟨g, k, none⟩ = false := by
  obtain ⟨h1, h2⟩ := h
  rcases h2 with ⟨_, h0⟩ | ⟨g, cap, cur, rfl, hb, hheap, h3, h4, h5, h6⟩
  · omega
  · refine ⟨g, cap, rfl, fun k t ht => ?_⟩
    have hk : k < xs.length := (List.getElem?_eq_some_iff.1 ht).1
    rw [← h6, List.getElem?_take, if_pos (by omega)] at ht
    constructor
    · simp only [World.cell?, hheap]
      simpa using ht
    · simp [World.frozen?, hheap]
theorem wpList_bs_run {P : Program} {w : World} {ops : Array Oper} {rest : List Oper} {o : Oper} {a : Act} {Q : Exit → Act → World → Prop} (hgd : o.guard = none) (x : Operand) (t : TypeId)
    (ho : o.op = .buildSlice t 1 #[(0, x)]) (v : Value) (hx : a.eval x = v) {v' : Value} {w' : World}
    (hr : (Instr.buildSlice t 1 #[(0, v)]).run P w = .ok v' w') (h : wpList P ops Q rest (a.put o.dst v') w') : wpList P ops Q (o :: rest) a w :=
  wpList_plain hgd fun _ hK => by
    unfold Oper.wp execOp
    simp only [ho, Sem.run_bind, Sem.run_pure, Result.andThen_ok, List.map_toArray, List.map_cons, List.map_nil, hx, hr]
    exact hK _ _ h
def zEn : En := ⟨0, 0, 0, 0, [], [], 0, []⟩
theorem info35b : ∃ i, Tryz.prog.info? 35 = some i ∧ i.size = 8 ∧ i.bytes = 88 ∧ i.zero = some (.agg (en zEn).toArray) := by
  have h : (Tryz.prog.info? 35).map (fun i => (i.size, i.bytes, i.zero)) = some (8, 88, some (.agg (en zEn).toArray)) := by kernel_rfl
  cases e : Tryz.prog.info? 35 with
  | none => rw [e] at h; cases h
  | some i =>
    rw [e] at h
    simp only [Option.map_some, Option.some.injEq, Prod.mk.injEq] at h
    exact ⟨i, rfl, h.1, h.2.1, h.2.2⟩
set_option maxRecDepth 100000 in
theorem bs8_run (w : World) : ∀ (cs : List Value), cs.length = 8 → (Instr.buildSlice 22 1 #[(0, .agg cs.toArray)]).run Tryz.prog w = .ok (.slice (some ⟨w.heap.size, 0, none⟩) 1 1) (w.alloc (.cells cs.toArray 35))
  | c0 :: c1 :: c2 :: c3 :: c4 :: c5 :: c6 :: c7 :: [], _ => by kernel_rfl
def ens (L : List En) : List Value := (L.map en).flatten
theorem ens_app (a b : List En) : ens (a ++ b) = ens a ++ ens b := by simp [ens]
theorem ens_len (L : List En) : (ens L).length = L.length * 8 := by
  induction L with
  | nil => rfl
  | cons e r ih =>
    have : ens (e :: r) = en e ++ ens r := rfl
    rw [this, List.length_append, ih, en_len, List.length_cons]; omega
theorem ens_at : ∀ (L : List En) (j : Nat) (e : En), L[j]? = some e → ∀ i v, (en e)[i]? = some v → (ens L)[j * 8 + i]? = some v
  | [], j, e, h, _, _, _ => by simp at h
  | x :: r, 0, e, h, i, v, hv => by
    obtain rfl : x = e := by simpa using h
    have : ens (x :: r) = en x ++ ens r := rfl
    have hi : i < 8 := by have := (List.getElem?_eq_some_iff.1 hv).1; rwa [en_len] at this
    rw [this, Nat.zero_mul, Nat.zero_add, List.getElem?_append_left (by rw [en_len]; exact hi)]
    exact hv
  | x :: r, j + 1, e, h, i, v, hv => by
    have : ens (x :: r) = en x ++ ens r := rfl
    rw [this, List.getElem?_append_right (by rw [en_len]; omega), en_len, show (j + 1) * 8 + i - 8 = j * 8 + i by omega]
    exact ens_at r j e (by simpa using h) i v hv
/-- a row of entries of the call's own -/
def Rw (w : World) (base : Nat) (v : Value) (L : List En) : Prop := w.ownsRow base 35 8 v L.length (ens L)
theorem Rw.nil (w : World) (base : Nat) : Rw w base (.slice none 0 0) [] := World.ownsRow_nil _ _ _ _
theorem Rw.fr {S : Nat → Prop} {w w' : World} {base : Nat} {v : Value} {L : List En} (h : Rw w base v L) (f : Fr S w w') (hs : ∀ k, v.ownBlock = some k → ¬ S k) : Rw w' base v L := by
  obtain ⟨h1, h2⟩ := h
  rcases h2 with ⟨q1, q2⟩ | ⟨g, cap, cur, rfl, hb, hheap, h3, h4, h5, h6⟩
  · exact ⟨h1, .inl ⟨q1, q2⟩⟩
  · refine ⟨h1, .inr ⟨g, cap, cur, rfl, hb, ?_, h3, h4, h5, h6⟩⟩
    have hl : g < w.heap.size := by
      rcases Nat.lt_or_ge g w.heap.size with q | q
      · exact q
      · rw [Array.getElem?_eq_none q] at hheap; cases hheap
    rw [f.block g hl (hs g rfl)]; exact hheap
theorem Rw.kept {w w' : World} {base : Nat} {v : Value} {L : List En} (h : Rw w base v L) (hg : w.grownBy w' none) : Rw w' base v L := h.fr (S := fun _ => False) (Fr.ofNone hg) (fun _ _ q => q)
theorem Rw.es {w : World} {base : Nat} {v : Value} {L : List En} (h : Rw w base v L) : ∃ a c, v = .slice a L.length c ∧ Es w a L.length c L ∧ (a = none → c = 0) := by
  obtain ⟨h1, h2⟩ := h
  rcases h2 with ⟨q1, q2⟩ | ⟨g, cap, cur, rfl, hb, hheap, h3, h4, h5, h6⟩
  · exact ⟨none, 0, by rw [q2]; exact q1, ⟨rfl, by omega, fun q => by omega⟩, fun _ => rfl⟩
  · refine ⟨_, cap, rfl, ⟨rfl, h3, fun _ => ⟨g, 0, rfl, fun j e he i v hv => ?_⟩⟩, fun q => by cases q⟩
    have h7 := ens_at L j e he i v hv
    have := World.ownsRow.cells (w := w) (base := base) (e := 35) (size := 8) ⟨h1, .inr ⟨g, cap, cur, rfl, hb, hheap, h3, h4, h5, h6⟩⟩ (g := g) rfl (j * 8 + i) v h7
    rw [Addr.add_mid, Nat.zero_add] at this
    rw [Nat.zero_add]; exact this
theorem Rw.own {w : World} {base : Nat} {v : Value} {L : List En} (h : Rw w base v L) {k : Nat} (hk : v.ownBlock = some k) : base ≤ k ∧ k < w.heap.size := World.ownsRow.lt h k hk
theorem Rw.base {w : World} {base base' : Nat} {v : Value} {L : List En} (h : Rw w base v L) (hb : base' ≤ base) : Rw w base' v L := by
  obtain ⟨h1, h2⟩ := h
  rcases h2 with q | ⟨g, cap, cur, rfl, hb2, hheap, h3, h4, h5, h6⟩
  · exact ⟨h1, .inl q⟩
  · exact ⟨h1, .inr ⟨g, cap, cur, rfl, Nat.le_trans hb hb2, hheap, h3, h4, h5, h6⟩⟩
/-- one entry more -/
theorem app35 {W : World} {base : Nat} {v : Value} {L : List En} (e : En) (h : Rw W base v L) (hb : base ≤ W.heap.size) (hm : (L.length + 1) * 88 ≤ 140737488355328) :
    ∃ g c W', (Builtin.append_ #[22, 22] 22 #[v, .slice (some ⟨W.heap.size, 0, none⟩) 1 1]).run Tryz.prog (W.alloc (.cells (en e).toArray 35)) = .ok (.slice (some ⟨g, 0, none⟩) (L.length + 1) c) W' ∧ Rw W' base (.slice (some ⟨g, 0, none⟩) (L.length + 1) c) (L ++ [e]) ∧ W.grownBy W' v.ownBlock := by
  obtain ⟨i, i1, i2, i3, i4⟩ := info35b
  have hk := World.ownsRow.kept h (World.grownBy_alloc W (.cells (en e).toArray 35) none) (by cases v.ownBlock <;> simp)
  obtain ⟨v', w', r1, r2, r3, _, r5⟩ := run_append_own_at (P := Tryz.prog) (W.alloc (.cells (en e).toArray 35)) base 22 22 35 i _ 8 88 under22 i1 i4 i2 i3 rfl (by decide) v L.length (ens L) hk ⟨W.heap.size, 0, none⟩ 1 1 (en e) rfl (fun j u hu => by
      rw [Addr.add_mid, Nat.zero_add]; exact (Has.newA W (en e).toArray 35).cellv j u (by simpa using hu)) (en_one e) (by unfold maxLen; omega) hm (by rw [heap1]; omega)
  obtain ⟨g, c, e1, _⟩ := own_any r2 (by omega)
  subst e1
  refine ⟨g, c, w', r1, ?_, (World.grownBy_alloc W (.cells (en e).toArray 35) v.ownBlock).trans r3⟩
  have el : ens (L ++ [e]) = ens L ++ en e := by rw [ens_app]; simp [ens]
  unfold Rw
  rw [el, List.length_append]
  exact r2
/-- where takeAll stands -/
structure Ta (w W : World) (rb B : Nat) (st : RS) (v : Value) (L : List En) : Prop where
  r : RAt W rb B st
  row : Rw W w.heap.size v L
  f : Fr (fun i => i = rb) w W
  l1 : rb < w.heap.size
  l2 : B < w.heap.size
theorem Ta.did {w W W' : World} {rb B : Nat} {st st' : RS} {v : Value} {L : List En} (h : Ta w W rb B st v L) (d : RDid W W' rb B st') : Ta w W' rb B st' v L :=
  ⟨d.a, h.row.fr d.f (fun k hk q => by have := (h.row.own hk).1; have := h.l1; omega), h.f.trans d.f, h.l1, h.l2⟩
theorem Ta.grown {w W W' : World} {rb B : Nat} {st : RS} {v : Value} {L : List En} (h : Ta w W rb B st v L) (hg : W.grownBy W' none) : Ta w W' rb B st v L :=
  ⟨h.r.kept hg, h.row.kept hg, h.f.trans (Fr.ofNone hg), h.l1, h.l2⟩
theorem Ta.app {w W W' : World} {rb B : Nat} {st : RS} {v v' : Value} {L L' : List En} (h : Ta w W rb B st v L) (hw : Rw W' w.heap.size v' L') (hg : W.grownBy W' v.ownBlock) : Ta w W' rb B st v' L' := by
  have l1 := h.l1
  have l2 := h.l2
  have f := Fr.of hg
  exact ⟨h.r.fr f (fun q => by have := (h.row.own q).1; omega) (fun q => by have := (h.row.own q).1; omega), hw, h.f.then f (fun i q => .inr (h.row.own q).1), h.l1, h.l2⟩
theorem rFin_eq (o : Option (List En × RS)) (L : List En) (st : RS) (h : o = some (L, st)) (hd : rDone st = 0) : rFin o = (L, 0) := by rw [h]; simp [rFin, hd]
theorem rFin_bad (o : Option (List En × RS)) (L : List En) (st : RS) (h : o = some (L, st)) (hd : rDone st ≠ 0) : rFin o = ([], rDone st) := by rw [h]; simp [rFin, hd]
theorem rNum_lt4 (st : RS) : (rNum st 4).1 < 4294967296 := by
  have h1 := val_lt (rNumL st 4).1
  have h2 : (rNumL st 4).1.length ≤ 4 := by
    unfold rNumL
    split
    · have := rTake_len st 4; omega
    · simp
  have h3 : 256 ^ (rNumL st 4).1.length ≤ 256 ^ 4 := Nat.pow_le_pow_right (by omega) h2
  show val (rNumL st 4).1 < 4294967296
  omega
theorem done_bound (st : RS) (h : -9223372036854775808 ≤ st.2 ∧ st.2 < 9223372036854775808) : -9223372036854775808 ≤ rDone st ∧ rDone st < 9223372036854775808 := by
  unfold rDone; split
  · decide
  · exact h
set_option maxRecDepth 100000 in
set_option maxHeartbeats 8000000 in
theorem takeAll_c (rb B : Nat) (b : List UInt8) (w : World) (h : RAt w rb B (b, 0)) :
    Calls Tryz.prog 37 #[.pointer (some ⟨rb, 0, none⟩)] w fun e w' => ∃ v, e = .returned (.tuple #[v, .int .i64 (rAll b).2]) ∧ Rw w' w.heap.size v (rAll b).1 ∧ Fr (fun i => i = rb) w w' := by
  rcases hN : rNum (b, 0) 4 with ⟨N, st0⟩
  have hn4 : N < 4294967296 := by have := rNum_lt4 (b, 0); rw [hN] at this; exact this
  obtain ⟨R, hR⟩ : ∃ q, rAll b = q := ⟨_, rfl⟩
  have HR : Keep (rFin (rLoop N st0 []) = R) := ⟨by rw [← hR]; unfold rAll; rw [hN]⟩
  rw [hR]
  have HN := Keep.mk hN
  have l1 : rb < w.heap.size := by obtain ⟨⟨a, c, h1, _⟩, _⟩ := h; exact h1.lt
  have H0 : Keep (Ta w w rb B (b, 0) (.slice none 0 0) []) := ⟨h, Rw.nil _ _, Fr.refl _ _, l1, h.lt⟩
  obtain ⟨d35, u35, r35⟩ := under35
  clear h hR hN
  go_enter Tryz.func37, Tryz.ntmps37
  go_wp2_with fail
  refine (rNumber_c rb B _ 4 _ H0.out.r).mono ?_
  rintro e w1 ⟨rfl, d1⟩
  rw [HN.out] at d1 ⊢
  dsimp only at d1 ⊢
  have H1 := Keep.mk (H0.out.did d1)
  clear d1 H0 HN
  go_wp2_with fail
  go_loopw [4, 5] (fun lv t w' => ∃ (m : Nat) (L : List En) (st : RS), m + L.length = N ∧ t = .int .u64 m ∧ Keep (Ta w w' rb B st lv L ∧ rFin (rLoop m st L) = R)) (fun _ t _ => (intOf t).toNat)
  case atStart => exact ⟨N, [], st0, rfl, rfl, ⟨H1.out, HR.out⟩⟩
  case round =>
    obtain ⟨m, L, st, hm, rfl, HI⟩ := hrel
    cases m with
    | zero =>
      have hz : ((0 : Nat) : Int) = 0 := rfl
      have HF : Keep (rFin (some (L, st)) = R) := ⟨HI.out.2⟩
      go_wp2_with fail
      refine (rDone_c rb B st _ HI.out.1.r).mono ?_
      rintro e w5 ⟨rfl, rfl⟩
      by_cases hd : rDone st = 0
      · have HE : Keep (R = (L, 0)) := ⟨by rw [← HF.out]; exact rFin_eq _ L st rfl hd⟩
        rw [hd]
        clear hd HF
        go_wp2
        go_ret2
        exact ⟨_, by rw [HE.out]; rfl, by rw [HE.out]; exact HI.out.1.row, HI.out.1.f⟩
      · have HE : Keep (R = ([], rDone st)) := ⟨by rw [← HF.out]; exact rFin_bad _ L st rfl hd⟩
        generalize rDone st = d at hd HE ⊢
        clear HF
        go_wp2
        go_ret2
        exact ⟨_, by rw [HE.out]; rfl, by rw [HE.out]; exact Rw.nil _ _, HI.out.1.f⟩
    | succ m =>
      have hz : (0 : Int) < ((m + 1 : Nat) : Int) := by omega
      go_wp2_with fail
      refine (take_c rb B st _ HI.out.1.r).mono ?_
      rintro e w5 ⟨rfl, d5⟩
      have H5 := Keep.mk (HI.out.1.did d5)
      have HL : Keep (rFin (if rDone (rEnt st).2 = 50 then none else rLoop m (rEnt st).2 (L ++ [(rEnt st).1])) = R) := ⟨HI.out.2⟩
      generalize rEnt st = X at H5 HL ⊢
      obtain ⟨x, st2⟩ := X
      dsimp only at H5 HL ⊢
      clear d5 HI
      go_wp2_with (
        (refine wpList_store_mid rfl 35 _ _ rfl _ _ _ rfl rfl ((Has.newA w5 _ 35).there 0 _ (Nat.le_refl 8)) (info35 x) (one35 x) ?_
         generalize hw6 : World.setCells _ _ _ _ = w6
         obtain ⟨h6, g6⟩ := entVar w5 _ rfl x w6 hw6
         have H6 := Keep.mk (And.intro (H5.out.grown g6) h6)
         clear h6 g6 hw6))
      refine (rDone_c rb B st2 _ H6.out.1.r).mono ?_
      rintro e w7 ⟨rfl, rfl⟩
      by_cases hd : rDone st2 = 50
      · have HE : Keep (R = ([], 50)) := ⟨by rw [← HL.out, if_pos hd]; rfl⟩
        rw [hd]
        clear hd HL
        go_wp2
        go_ret2
        exact ⟨_, by rw [HE.out]; rfl, by rw [HE.out]; exact Rw.nil _ _, H6.out.1.f⟩
      · have HE : Keep (rFin (rLoop m st2 (L ++ [x])) = R) := ⟨by rw [← HL.out, if_neg hd]⟩
        obtain ⟨g8, c8, w8, r8, q8, gr8⟩ := app35 x H6.out.1.row H6.out.1.f.size (by omega)
        have H8 : Keep (Ta w w8 rb B st2 (.slice (some ⟨g8, 0, none⟩) (L.length + 1) c8) (L ++ [x])) := ⟨H6.out.1.app q8 gr8⟩
        have AP := Keep.mk r8
        generalize rDone st2 = d at hd ⊢
        clear HL q8 gr8 r8
        have HRG := Keep.mk H6.out.2.range
        have HSZ : Keep ((en x).length = 8 ∧ (Tryz.prog.info? 35).map (·.size) = some (en x).length) := ⟨rfl, size35⟩
        clear H6
        generalize en x = cs at AP HRG HSZ
        go_wp2_with (first
          | (show wpList _ _ _ ({ dst := _, op := Op.load 35 _, type := _, pos := _, after := _, guard := _ } :: _) _ _
             refine wpList_load_mid rfl 35 _ rfl _ _ rfl cs _ HRG.out u35 r35 HSZ.out.2 ?_)
          | (show wpList _ _ _ ({ dst := _, op := Op.buildSlice 22 _ _, type := _, pos := _, after := _, guard := _ } :: _) _ _
             refine wpList_bs_run rfl (.tmp 20) 22 rfl _ rfl (bs8_run _ cs HSZ.out.1) ?_)
          | (show wpList _ _ _ ({ dst := _, op := Op.call { callee := Callee.builtin Builtin.append, args := _, argTypes := _ }, type := _, pos := _, after := _, guard := _ } :: _) _ _
             refine wpList_append_run2 _ rfl (.tmp 19) (.tmp 21) 22 22 rfl _ _ rfl rfl AP.out ?_))
        refine ⟨⟨m, L ++ [x], st2, by simp; omega, rfl, ⟨H8.out, HE.out⟩⟩, ?_⟩
        simp only [intOf]; omega
theorem sha_ba (b : List UInt8) : shaB (ba b) = ba (Sha.sha b) := by unfold shaB; rw [show Go.Proofs.YtjbkoablleneeaaGreatDoor.sl (ba b) = b from sl_mk b]
set_option maxRecDepth 100000 in
set_option maxHeartbeats 8000000 in
theorem read_c (t : List UInt8) (w : World) (hk : Kc w) (ht : t.length ≤ 1099511627776) :
    Calls Tryz.prog 11 #[.string (ba t)] w fun e w' => ∃ v, e = .returned (.tuple #[v, .int .i64 (rdS Sha.sha t).2]) ∧ Rw w' w.heap.size v (rdS Sha.sha t).1 ∧ w.grownBy w' none := by
  have HK := Keep.mk hk
  have hs := ba_size t
  unfold rdS
  by_cases h40 : t.length < 40
  · rw [if_pos h40]
    generalize ba t = T at hs ⊢
    have h2 : (T.size : Int) < 40 := by omega
    clear h40
    go_enter Tryz.func11, Tryz.ntmps11
    go_wp2
    go_ret2
    exact ⟨_, rfl, Rw.nil _ _, World.grownBy.refl _ _⟩
  · rw [if_neg h40]
    obtain ⟨m, hm⟩ : ∃ m, t.length = m + 32 := ⟨t.length - 32, by omega⟩
    have h1 : (ba t).extract 0 m = ba (t.take (t.length - 32)) := by rw [ext_ba, List.drop_zero, hm, Nat.add_sub_cancel]
    have h2 : (ba t).extract m (m + 32) = ba (t.drop (t.length - 32)) := by rw [ext_ba, ← hm, List.take_length, hm, Nat.add_sub_cancel]
    have hw : IntKind.i64.wrap (m : Int) = (m : Int) := by rw [wi _ (by omega) (by omega)]
    have hc : (0 : Int) ≤ (m : Int) ∧ (m : Int) ≤ (m : Int) + 32 := by omega
    obtain ⟨b, hb⟩ : ∃ b, t.take (t.length - 32) = b := ⟨_, rfl⟩
    obtain ⟨u, hu⟩ : ∃ u, t.drop (t.length - 32) = u := ⟨_, rfl⟩
    rw [hb] at h1 ⊢
    rw [hu] at h2 ⊢
    have hbl : b.length ≤ 1099511627776 := by rw [← hb, List.length_take]; omega
    have hn : ¬ (((m + 32 : Nat) : Int) < 40) := by omega
    rw [hm] at hs
    have HC := Keep.mk (strCut_c (ba b) mgB)
    rw [show sl mgB = magic from rfl, show mgB.size = 4 from rfl, show sl (ba b) = b from sl_mk b] at HC
    have HS := Keep.mk (fun W (q : Kc W) => sumOf_c (ba b) W q (by rw [ba_size]; omega))
    rw [sha_ba] at HS
    have HEQ := Keep.mk (eqS (Sha.sha b) u)
    have HRD : Keep (∀ W : World, Calls Tryz.prog 38 #[.string (ba (b.drop 4))] W fun e w' => ∃ rb B, e = .returned (.pointer (some ⟨rb, 0, none⟩)) ∧ RAt w' rb B (b.drop 4, 0) ∧ W.grownBy w' none ∧ W.heap.size ≤ rb ∧ W.heap.size ≤ B) := ⟨fun W => by
      have := newR_c (ba (b.drop 4)) W
      rw [show sl (ba (b.drop 4)) = b.drop 4 from sl_mk _] at this; exact this⟩
    generalize hT : ba t = T at h1 h2 hs ⊢
    generalize ba (Sha.sha b) = SB at HS HEQ
    generalize ba u = UB at h2 HEQ
    generalize ba b = BB at h1 HC HS
    obtain ⟨R, hR⟩ : ∃ q, (if b.take 4 = magic ∧ Sha.sha b = u then rAll (b.drop 4) else ([], 190)) = q := ⟨_, rfl⟩
    rw [hR]
    have HR := Keep.mk hR
    clear hT hb hu h40 hk hm hR
    go_enter Tryz.func11, Tryz.ntmps11
    go_wp2_with fail
    refine wp_region_held_drew (S := fun W => W = w.drew) (by kernel_rfl) rfl (fun hHeld => ?_)
    refine wpAnyH_take (i := 0) (oi := _) (v := ?_) rfl (by kernel_rfl) (by kernel_rfl) (by kernel_rfl) (fun _ _ _ h => h) (Or.inl ⟨by rfl, ?_⟩) (by assumption) ?_
    rotate_left
    · (intro w hSw; go_simp; first | done | (with_reducible rfl))
    simp only [Act.put, List.getElem_toArray, List.getElem_cons_zero, List.setIfInBounds_toArray, List.set_cons_zero, List.set_cons_succ]
    refine wpAnyH_take (i := 1) (oi := _) (v := ?_) rfl (by kernel_rfl) (by kernel_rfl) (by kernel_rfl) (fun _ _ _ h => h) (Or.inl ⟨by rfl, ?_⟩) (by assumption) ?_
    rotate_left
    · (intro w hSw; go_simp; first | done | (with_reducible rfl))
    simp only [Act.put, List.getElem_toArray, List.getElem_cons_succ, List.getElem_cons_zero, List.setIfInBounds_toArray, List.set_cons_zero, List.set_cons_succ]
    refine wpAnyH_take (i := 5) (oi := _) (v := ?_) rfl (by kernel_rfl) (by kernel_rfl) (by kernel_rfl) (fun _ _ _ h => h) (Or.inl ⟨by rfl, ?_⟩) (by assumption) ?_
    rotate_left
    · (intro w hSw; go_simp; first | done | (with_reducible rfl))
    simp only [Act.put, List.getElem_toArray, List.getElem_cons_succ, List.getElem_cons_zero, List.setIfInBounds_toArray, List.set_cons_zero, List.set_cons_succ]
    refine wpAnyH_take (i := 6) (oi := _) (v := ?_) rfl (by kernel_rfl) (by kernel_rfl) (by kernel_rfl) (fun _ _ _ h => h) (Or.inl ⟨by rfl, ?_⟩) (by assumption) ?_
    rotate_left
    · (intro w hSw; go_simp; first | done | (with_reducible rfl))
    simp only [Act.put, List.getElem_toArray, List.getElem_cons_succ, List.getElem_cons_zero, List.setIfInBounds_toArray, List.set_cons_zero, List.set_cons_succ]
    refine wpAnyH_take (i := 2) (oi := _) (v := ?_) rfl (by kernel_rfl) (by kernel_rfl) (by kernel_rfl) (fun _ _ _ h => h) (Or.inl ⟨by rfl, ?_⟩) (by assumption) ?_
    rotate_left
    · (intro w hSw; go_simp; first | done | (with_reducible rfl))
    simp only [Act.put, List.getElem_toArray, List.getElem_cons_succ, List.getElem_cons_zero, List.setIfInBounds_toArray, List.set_cons_zero, List.set_cons_succ]
    refine wpAnyH_take (i := 3) (oi := _) (v := ?_) rfl (by kernel_rfl) (by kernel_rfl) (by kernel_rfl) (fun _ _ _ h => h) (Or.inl ⟨by rfl, ?_⟩) (by assumption) ?_
    rotate_left
    · (intro w hSw; go_simp; first | done | (with_reducible rfl))
    simp only [Act.put, List.getElem_toArray, List.getElem_cons_succ, List.getElem_cons_zero, List.setIfInBounds_toArray, List.set_cons_zero, List.set_cons_succ]
    refine wpAnyH_take (i := 4) (oi := _) (v := ?_) rfl (by kernel_rfl) (by kernel_rfl) (by kernel_rfl) (fun _ _ _ h => h) (Or.inl ⟨by rfl, ?_⟩) (by assumption) ?_
    rotate_left
    · (intro w hSw; go_simp; first | done | (with_reducible rfl))
    simp only [Act.put, List.getElem_toArray, List.getElem_cons_succ, List.getElem_cons_zero, List.setIfInBounds_toArray, List.set_cons_zero, List.set_cons_succ]
    refine wpAnyH_take (i := 7) (oi := _) (v := ?_) rfl (by kernel_rfl) (by kernel_rfl) (by kernel_rfl) (fun _ _ _ h => h) (Or.inl ⟨by rfl, ?_⟩) (by assumption) ?_
    rotate_left
    · (intro w hSw; go_simp; first | done | (with_reducible rfl))
    simp only [Act.put, List.getElem_toArray, List.getElem_cons_succ, List.getElem_cons_zero, List.setIfInBounds_toArray, List.set_cons_zero, List.set_cons_succ]
    refine wpAnyH_take (i := 8) (oi := _) (v := ?_) rfl (by kernel_rfl) (by kernel_rfl) (by kernel_rfl) (fun _ _ _ h => h) (Or.inl ⟨by rfl, ?_⟩) (by assumption) ?_
    rotate_left
    · (intro w hSw; go_simp; first | done | (with_reducible rfl))
    simp only [Act.put, List.getElem_toArray, List.getElem_cons_succ, List.getElem_cons_zero, List.setIfInBounds_toArray, List.set_cons_zero, List.set_cons_succ]
    refine wpAnyH_take (i := 9) (oi := _) (v := ?_) rfl (by kernel_rfl) (by kernel_rfl) (by kernel_rfl) (fun _ _ _ h => h) (Or.inl ⟨by rfl, ?_⟩) (by assumption) ?_
    rotate_left
    · (intro w hSw; go_simp; first | done | (with_reducible rfl))
    simp only [Act.put, List.getElem_toArray, List.getElem_cons_succ, List.getElem_cons_zero, List.setIfInBounds_toArray, List.set_cons_zero, List.set_cons_succ]
    refine wpAnyH_take (i := 10) (oi := _) (v := ?_) rfl (by kernel_rfl) (by kernel_rfl) (by kernel_rfl) (fun _ _ _ h => h) (Or.inl ⟨by rfl, ?_⟩) (by assumption) ?_
    rotate_left
    · (intro w hSw; go_simp; first | done | (with_reducible rfl))
    simp only [Act.put, List.getElem_toArray, List.getElem_cons_succ, List.getElem_cons_zero, List.setIfInBounds_toArray, List.set_cons_zero, List.set_cons_succ]
    refine wpAnyH_take (i := 11) (oi := _) (v := ?_) rfl (by kernel_rfl) (by kernel_rfl) (by kernel_rfl) (fun _ _ _ h => h) (Or.inl ⟨by rfl, ?_⟩) (by assumption) ?_
    rotate_left
    · (intro w hSw; go_simp; first | done | (with_reducible rfl))
    simp only [Act.put, List.getElem_toArray, List.getElem_cons_succ, List.getElem_cons_zero, List.setIfInBounds_toArray, List.set_cons_zero, List.set_cons_succ]
    refine wpAnyH_done (by kernel_rfl) ?_ _

    have HG : Keep (w.grownBy w.drew none) := ⟨gr_drew _ _⟩
    have HKd : Keep (Kc w.drew) := ⟨HK.out.kept HG.out (by simp)⟩
    generalize w.drew = wd at HG HKd ⊢
    go_wp2_with fail
    refine (HC.out _).mono ?_
    rintro e w2 ⟨rfl, rfl⟩
    by_cases hm : b.take 4 = magic
    · rw [if_pos hm, decide_eq_true hm]
      have HM := Keep.mk hm
      clear HC hm hHeld
      generalize hD : ba (b.drop 4) = DB at HRD ⊢
      clear hD
      go_wp2_with fail
      refine (HS.out _ HKd.out).mono ?_
      rintro e w3 ⟨rfl, g3⟩
      have HG3 := Keep.mk (HG.out.trans g3)
      clear g3 HKd
      by_cases hq : Sha.sha b = u
      · have heq : (SB.toList == UB.toList) = true := by rw [HEQ.out]; exact decide_eq_true hq
        have HE : Keep (R = rAll (b.drop 4)) := ⟨by rw [← HR.out, if_pos ⟨HM.out, hq⟩]⟩
        clear HR hq HM
        go_wp2_with fail
        refine (HRD.out _).mono ?_
        rintro e w4 ⟨rb, B, rfl, ra, g4, l1, l2⟩
        have HRA := Keep.mk ra
        have HG4 := Keep.mk (HG3.out.trans g4)
        have HL1 : Keep (w.heap.size ≤ rb) := ⟨Nat.le_trans HG3.out.size l1⟩
        clear ra g4 l1 l2
        go_wp2_with fail
        refine (takeAll_c rb B _ _ HRA.out).mono ?_
        rintro e w5 ⟨v5, rfl, rw5, f5⟩
        have HF : Keep (Rw w5 w.heap.size v5 (rAll (b.drop 4)).1 ∧ w.grownBy w5 none) := ⟨Rw.base rw5 HG4.out.size, fr_mine HG4.out f5 (fun i hi => by rw [hi]; exact HL1.out)⟩
        clear rw5 f5
        rw [← HE.out] at HF ⊢
        go_wp2
        go_ret2
        exact ⟨_, rfl, HF.out.1, HF.out.2⟩
      · have heq : (SB.toList == UB.toList) = false := by rw [HEQ.out]; exact decide_eq_false hq
        have HE : Keep (R = ([], 190)) := ⟨by rw [← HR.out, if_neg (fun q => hq q.2)]⟩
        clear HR hq HM
        go_wp2
        go_ret2
        exact ⟨_, by rw [HE.out]; rfl, by rw [HE.out]; exact Rw.nil _ _, HG3.out⟩
    · rw [if_neg hm, decide_eq_false hm]
      have HE : Keep (R = ([], 190)) := ⟨by rw [← HR.out, if_neg (fun q => hm q.1)]⟩
      clear HC hm hHeld HR
      go_wp2
      go_ret2
      exact ⟨_, by rw [HE.out]; rfl, by rw [HE.out]; exact Rw.nil _ _, HG.out⟩
end Go.Proofs.YtjbkoablleneeaaGreatDoor.Pk

