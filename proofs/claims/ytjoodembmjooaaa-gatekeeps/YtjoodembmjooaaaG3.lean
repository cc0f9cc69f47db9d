/- gate: Take. -/
import Derived.Test.YtjoodembmjooaaaG2
import Derived.Laws.MakeOwn
namespace Go.Proofs.Ytjoodembmjooaaa
open Go Go.RowKit Go.Maps

/-- the cells of a list of intents -/
def its (L : List Itn) : List Value := L.flatMap itv
theorem its_len (L : List Itn) : (its L).length = L.length * 5 := by
  unfold its
  induction L with
  | nil => rfl
  | cons a r ih => rw [List.flatMap_cons, List.length_append, ih, itv_len, List.length_cons]; omega
theorem its_app (A B : List Itn) : its (A ++ B) = its A ++ its B := by simp [its]
abbrev sl (g n c : Nat) : Value := .slice (some ⟨g, 0, none⟩) n c
def iterA (r : Nat) : As :=
  ⟨fun W F => r < W.heap.size ∧ F = fun i => i = r, fun S W W' F h f hs => ⟨Nat.lt_of_lt_of_le h.1 f.size, h.2⟩, fun W F h i hi => by rw [h.2] at hi; have hi : i = r := hi; rw [hi]; exact h.1⟩
theorem Sep.iter {w0 W W' : World} {l : List As} (h : Sep w0 W l) (g : W.grownBy W' none) (hs : W'.heap.size = W.heap.size + 1) : Sep w0 W' (iterA W.heap.size :: l) :=
  h.new g (Loc.one (a := iterA _) _ ⟨by omega, rfl⟩ (fun i hi => .inr (by rw [hi]; exact Nat.le_refl _)))
theorem Sep.iterTurn {w0 W W' : World} {l : List As} {r : Nat} (h : Sep w0 W (iterA r :: l)) (g : W.grownBy W' (some r)) (hs : W'.heap.size = W.heap.size) : Sep w0 W' (iterA r :: l) := by
  obtain ⟨F, ⟨h1, rfl⟩, _, hu⟩ := h.use
  exact hu W' [_] (Fr.ofSome g rfl) (Loc.one (a := iterA _) _ ⟨by omega, rfl⟩ (fun i hi => .inl hi))
theorem Rng.kept {w w' : World} {mb r : Nat} {M L : List Itn} {row : Option Nat} (h : Rng w mb r M L) (g : w.grownBy w' row) (h1 : some mb ≠ row) (h2 : some r ≠ row) : Rng w' mb r M L ∧ w'.rangeLeft mb r = w.rangeLeft mb r := by
  obtain ⟨⟨D, left, cnt, ho, ha, hb⟩, hs, hn⟩ := h
  have ho2 := ho.kept g h1 h2
  exact ⟨⟨⟨D, left, cnt, ho2, ha, hb⟩, hs, hn⟩, by rw [ho.left_eq, ho2.left_eq]⟩
theorem Rng.apart {w : World} {mb r tb : Nat} {M L : List Itn} {cs : List Value} {t : TypeId} (h : Rng w mb r M L) (hh : Has w tb cs t) : mb ≠ tb ∧ r ≠ tb := by
  unfold Has at hh
  obtain ⟨⟨D, left, cnt, ⟨es, clock, since, seen, c0, hb, _, _, _, hr, _⟩, _⟩, _⟩ := h
  refine ⟨fun e => ?_, fun e => ?_⟩
  · rw [e, hh] at hb; cases hb
  · rw [e, hh] at hr; cases hr
theorem row_apart {W : World} {mb r : Nat} {M L : List Itn} {e : TypeId} {s n : Nat} {v : Value} {xs : List Value} (h : Rng W mb r M L) (ho : W.ownsRow 0 e s v n xs) : some mb ≠ v.ownBlock ∧ some r ≠ v.ownBlock := by
  obtain ⟨_, h2⟩ := ho
  rcases h2 with ⟨rfl, _⟩ | ⟨g, cap, cur, rfl, _, hh, _⟩
  · exact ⟨nofun, nofun⟩
  · have := h.apart (tb := g) (cs := cur.toList) (t := e) (by unfold Has; simpa using hh)
    exact ⟨fun q => this.1 (Option.some.inj q), fun q => this.2 (Option.some.inj q)⟩
theorem wpList_bs_run {P : Program} {w : World} {ops : Array Oper} {rest : List Oper} {o : Oper} {a : Act} {Q : Exit → Act → World → Prop} (hgd : o.guard = none) (x : Operand) (t : TypeId)
    (ho : o.op = .buildSlice t 1 #[(0, x)]) (v : Value) (hx : a.eval x = v) {v' : Value} {w' : World}
    (hr : (Instr.buildSlice t 1 #[(0, v)]).run P w = .ok v' w') (h : wpList P ops Q rest (a.put o.dst v') w') : wpList P ops Q (o :: rest) a w :=
  wpList_plain hgd fun _ hK => by
    unfold Oper.wp execOp
    simp only [ho, Sem.run_bind, Sem.run_pure, Result.andThen_ok, List.map_toArray, List.map_cons, List.map_nil, hx, hr]
    exact hK _ _ h
theorem under33 : Try.prog.underlying 33 = some (.slice 36) := by kernel_rfl
theorem info36b : ∃ i, Try.prog.info? 36 = some i ∧ i.size = 5 ∧ i.bytes = 32 ∧ i.zero = some (.agg zI5.toArray) := by
  have h : (Try.prog.info? 36).map (fun i => (i.size, i.bytes, i.zero)) = some (5, 32, some (.agg zI5.toArray)) := by kernel_rfl
  cases e : Try.prog.info? 36 with
  | none => rw [e] at h; cases h
  | some i =>
    rw [e] at h
    simp only [Option.map_some, Option.some.injEq, Prod.mk.injEq] at h
    exact ⟨i, rfl, h.1, h.2.1, h.2.2⟩
set_option maxRecDepth 100000 in
theorem bs5_run (w : World) : ∀ (cs : List Value), cs.length = 5 → (Instr.buildSlice 33 1 #[(0, .agg cs.toArray)]).run Try.prog w = .ok (sl w.heap.size 1 1) (w.alloc (.cells cs.toArray 36))
  | c0 :: c1 :: c2 :: c3 :: c4 :: [], _ => by kernel_rfl
/-- one intent more -/
theorem Sep.app5 {w0 W : World} {l : List As} {v : Value} {G : List Itn} (s : Itn) (h : Sep w0 W (rowV 36 5 v G.length (its G) :: l)) (hm : (G.length + 1) * 32 ≤ 140737488355328) :
    ∃ g c W', (Builtin.append_ #[33, 33] 33 #[v, sl W.heap.size 1 1]).run Try.prog (W.alloc (.cells (itv s).toArray 36)) = .ok (sl g (G.length + 1) c) W' ∧ W.grownBy W' v.ownBlock ∧ Sep w0 W' (rowV 36 5 (sl g (G.length + 1) c) (G ++ [s]).length (its (G ++ [s])) :: l) := by
  obtain ⟨i, i1, i2, i3, i4⟩ := info36b
  obtain ⟨F, ⟨ho, rfl⟩, _, hu⟩ := h.use
  have hk := ho.kept (World.grownBy_alloc W (.cells (itv s).toArray 36) none) (by cases v.ownBlock <;> simp)
  obtain ⟨v', w', r1, r2, r3, _, r5⟩ := run_append_own_at (P := Try.prog) (W.alloc (.cells (itv s).toArray 36)) 0 33 33 36 i _ 5 32 under33 i1 i4 i2 i3 rfl (by decide) v G.length (its G) hk ⟨W.heap.size, 0, none⟩ 1 1 (itv s) rfl (fun j u hu => by
      rw [Addr.add_mid, Nat.zero_add]; exact (Has.newA W (itv s).toArray 36).cellv j u (by simpa using hu)) (itv_one s) (by unfold maxLen; omega) hm (Nat.zero_le _)
  obtain ⟨g, c, e1, _⟩ := own_any r2 (by omega)
  subst e1
  rw [heap1] at r5
  have gr := (World.grownBy_alloc W (.cells (itv s).toArray 36) v.ownBlock).trans r3
  have el : its (G ++ [s]) = its G ++ itv s := by simp [its]
  refine ⟨g, c, w', r1, gr, hu w' [_] ((Fr.of gr).mono (fun i hi => .inl hi)) (Loc.one (a := rowV _ _ _ _ _) _ ⟨by rw [el, List.length_append]; exact r2, rfl⟩ (fun i hi => ?_))⟩
  rcases r5 with q | q
  · exact .inl (by rw [← q]; exact hi)
  · rw [q] at hi
    injection hi with e
    exact .inr (by omega)
/-- a row that is made, with room -/
theorem Sep.made5 {w0 W : World} {l : List As} (h : Sep w0 W l) (n : Nat) (hn : n * 32 ≤ 140737488355328) :
    ∃ W', (Instr.makeSlice 33 (.int .i64 0) (.int .i64 (n : Int))).run Try.prog W = .ok (sl W.heap.size 0 n) W' ∧ Sep w0 W' (rowV 36 5 (sl W.heap.size 0 n) 0 (its []) :: l) ∧ W.grownBy W' none := by
  obtain ⟨i, i1, i2, i3, i4⟩ := info36b
  obtain ⟨W', r1, r2, r3⟩ := run_make_own (P := Try.prog) W 0 33 36 i _ 5 under33 i1 i4 i2 .i64 .i64 n (by rw [i3]; omega) (by unfold maxLen; omega) (Nat.zero_le _)
  exact ⟨W', r1, h.new r3 (Loc.one (a := rowV _ _ _ _ _) _ ⟨r2, rfl⟩ (fun j hj => .inr (by have e : W.heap.size = j := Option.some.inj hj; omega))), r3⟩
/-- what sorting does -/
def SortC : Prop := ∀ (w0 W : World) (l : List As) (g c : Nat) (L : List Itn), L.length < 4611686018427387904 → Sep w0 W (rowV 36 5 (sl g L.length c) L.length (its L) :: l) →
  Calls Try.prog 21 #[sl g L.length c, .func (.func 22) #[] #[]] W fun e W' => e = .returned (.tuple #[]) ∧ ∃ L', L'.Perm L ∧ L'.Pairwise (fun a b => a.pl ≤ b.pl) ∧ Sep w0 W' (rowV 36 5 (sl g L.length c) L.length (its L') :: l)
theorem sorted_is {M L' G : List Itn} (hs : Srt M) (hp : G.Perm M) (hq : L'.Perm G) (ho : L'.Pairwise (fun a b => a.pl ≤ b.pl)) : L' = M := by
  have hm := hq.trans hp
  have hne : L'.Pairwise (fun a b => a.pl ≠ b.pl) := (hm.pairwise_iff (fun {_ _} h => Ne.symm h)).2 hs.ne
  exact strict_ext _ _ (ho.imp₂ (fun _ _ h1 h2 => by omega) hne) hs (fun s => hm.mem_iff)
set_option maxRecDepth 100000 in
set_option maxHeartbeats 16000000 in
theorem take_c (hso : SortC) (w0 W : World) (l : List As) (gb : Nat) (M : List Itn) (hn : M.length * 32 ≤ 140737488355328) (h : Sep w0 W (gateA gb M :: l)) :
    Calls Try.prog 11 #[pt gb] W fun e W' => ∃ g c, e = .returned (sl g M.length c) ∧ Sep w0 W' (rowV 36 5 (sl g M.length c) M.length (its M) :: gateA gb [] :: l) := by
  obtain ⟨mb, h1, hg⟩ := gate_open h
  have c0 : W.cell? ⟨gb, 0, none⟩ = some (.map (some mb)) := (h1.boxGet k0m).cellv 0 _ rfl
  have hln := fun ty => (h1.mapGet k1m).len ty
  obtain ⟨W1, hmk, S1, g1⟩ := h1.made5 M.length hn
  have d0 : W1.cell? ⟨gb, 0, none⟩ = some (.map (some mb)) := (S1.boxGet k1m).cellv 0 _ rfl
  obtain ⟨n, hnn⟩ : ∃ n, M.length = n := ⟨_, rfl⟩
  rw [hnn] at hln hmk S1
  obtain ⟨g0, hg0⟩ : ∃ g, W.heap.size = g := ⟨_, rfl⟩
  rw [hg0] at hmk S1
  have HN := Keep.mk hnn
  have HN2 := Keep.mk hn
  have HG := Keep.mk hg
  have HS := Keep.mk S1
  have HM := Keep.mk (S1.mapGet k2m)
  have HSO := Keep.mk hso
  obtain ⟨r, hr⟩ : ∃ r, W1.heap.size = r := ⟨_, rfl⟩
  clear h h1 hg g1 S1 hn hg0 hso
  rw [hnn]
  clear hnn
  go_enter Try.func11, Try.ntmps11
  go_wp2_with (first | (at_range; refine wpList_range_s _ rfl (.tmp 15) rfl mb M rfl HM.out HG.out.1 ?_))
  intro w1 hrg g1 hs1
  have S1 := HS.out.iter g1 (by rw [hr]; exact hs1)
  rw [hr] at S1
  have HS1 := Keep.mk S1
  have HRG := Keep.mk hrg
  clear hrg g1 hs1 S1 HS HM c0 hr hln hmk d0
  first | go_frame | go_wp2_with fail
  go_loopw [3, 5] (fun u3 _ wr => ∃ L G g c, u3 = sl g G.length c ∧ Keep (Rng wr mb r M L) ∧ Keep (Sep w0 wr (iterA r :: rowV 36 5 (sl g G.length c) G.length (its G) :: boxA gb [.map (some mb)] 48 :: mapA mb M :: l)) ∧ Keep ((G ++ L).Perm M)) (fun _ _ wr => wr.rangeLeft mb r)
  case atStart => exact ⟨M, [], g0, n, rfl, HRG, HS1, ⟨List.Perm.refl _⟩⟩
  case round =>
    clear HRG HS1
    obtain ⟨L, G, g, c, rfl, hR, hS, hQ⟩ := hrel
    go_wp2_with (first | (at_next; refine wpList_next_s _ rfl (.tmp 16) rfl mb r M L rfl hR.out ?_ ?_))
    · intro hL
      subst hL
      have HP : Keep (G.Perm M) := ⟨by simpa using hQ.out⟩
      have HGL : Keep (G.length = n) := ⟨HP.out.length_eq.trans HN.out⟩
      have d0 : wr.cell? ⟨gb, 0, none⟩ = some (.map (some mb)) := (hS.out.boxGet k2m).cellv 0 _ rfl
      obtain ⟨w2, hcl, m2, g2, _⟩ := (hS.out.mapGet k3m).clear 0
      have HS2 := Keep.mk ((fr1 [_, _, _] hS.out).mapTo m2 g2)
      clear m2 g2 hS hR hQ
      have HS3 := Keep.mk (fr1 [_, _] HS2.out)
      have hcon := HSO.out w0 w2 _ g c G (by have := HGL.out; have := HN.out; have := HN2.out; omega) HS3.out
      have HCN := Keep.mk hcon
      clear hcon HS2 HS3 HSO
      go_wp2_with fail
      refine HCN.out.mono ?_
      rintro e w3 ⟨rfl, L', hp', ho', S3⟩
      have e3 := sorted_is HG.out.1 HP.out hp' ho'
      subst e3
      rw [HGL.out] at S3 ⊢
      have HS4 : Keep (Sep w0 w3 (rowV 36 5 (sl g n c) n (its L') :: gateA gb [] :: l)) := ⟨by
        have S5 : Sep w0 w3 (boxA gb [.map (some mb)] 48 :: mapA mb [] :: rowV 36 5 (sl g n c) n (its L') :: l) := by
          have q : Sep w0 w3 (rowV 36 5 (sl g n c) n (its L') :: mapA mb [] :: boxA gb [.map (some mb)] 48 :: l) := (fr1 [_, _] S3).tail
          exact q.swap.third
        exact (gate_shut S5 Gok.nil).swap⟩
      clear HCN S3 hp' ho'
      go_wp2_with fail
      go_ret
      exact ⟨g, c, rfl, HS4.out⟩
    · intro x w2 hx hk hR2 hlt hg2 hs2 hen
      have S2 := hS.out.iterTurn hg2 hs2
      have HP2 : Keep ((G ++ [x] ++ rmk L x.pl).Perm M) := ⟨by
        rw [List.append_assoc]
        exact ((rmk_perm hR.out.nd hx).append_left G).trans hQ.out⟩
      have HGL : Keep ((G.length + 1) * 32 ≤ 140737488355328) := ⟨by
        have q := HP2.out.length_eq
        simp only [List.length_append, List.length_cons, List.length_nil] at q
        have := HN2.out
        omega⟩
      clear hR hS hQ hx
      -- the variable of the round
      have S3 := S2.newBox (itv x).toArray 36
      obtain ⟨q1, q2⟩ := hR2.kept (World.grownBy_alloc w2 (.cells (itv x).toArray 36) none) nofun nofun
      obtain ⟨w3, hw3⟩ : ∃ w3, w2.alloc (.cells (itv x).toArray 36) = w3 := ⟨_, rfl⟩
      obtain ⟨xb, hxb⟩ : ∃ b, w2.heap.size = b := ⟨_, rfl⟩
      rw [hw3, hxb] at S3
      rw [hw3] at q1 q2
      have RN := Keep.mk (S3.boxGet k0m).range
      obtain ⟨du, hdu, hdr⟩ := underI
      have S4 : Sep w0 w3 (rowV 36 5 (sl g G.length c) G.length (its G) :: iterA r :: boxA gb [.map (some mb)] 48 :: mapA mb M :: l) := S3.tail.swap
      obtain ⟨g9, c9, w9, ap, g5, S9⟩ := Sep.app5 x S4 HGL.out
      obtain ⟨a1, a2⟩ := row_apart q1 (S4.rowGet k0m)
      obtain ⟨q3, q4⟩ := q1.kept g5 a1 a2
      have HR9 := Keep.mk q3
      have HL9 : Keep (w9.rangeLeft mb r < wr.rangeLeft mb r) := ⟨by rw [q4, q2]; exact hlt⟩
      have HS9 := Keep.mk S9.swap
      have AP := Keep.mk ap
      have e9 : (G ++ [x]).length = G.length + 1 := by simp
      have HE9 := Keep.mk e9
      clear hR2 hlt hg2 hs2 S2 S3 q1 q2 S4 ap g5 S9 a1 a2 q3 q4 e9 hk
      unfold itw at hen ⊢
      have hil : itv x = [iv x.pl, iv x.th, iv x.tu, .bool x.fi, .bool x.bo] := rfl
      rw [show (itv x).toArray.toList = itv x from rfl] at RN
      rw [hil] at hw3 hen AP RN ⊢
      clear hil
      obtain ⟨n1, hn1⟩ : ∃ n1, G.length = n1 := ⟨_, rfl⟩
      rw [hn1] at AP ⊢
      obtain ⟨n2, hn2⟩ : ∃ n2, n1 + 1 = n2 := ⟨_, rfl⟩
      rw [hn2] at AP
      have HN12 := Keep.mk (And.intro hn1 hn2)
      clear hn1 hn2
      go_wp2_with (first
        | (show wpList _ _ _ ({ dst := _, op := Op.load 36 _, type := _, pos := _, after := _, guard := _ } :: _) _ _
           refine wpList_load_mid rfl 36 _ rfl _ _ rfl _ _ RN.out hdu hdr infoI ?_)
        | (show wpList _ _ _ ({ dst := _, op := Op.buildSlice 33 _ _, type := _, pos := _, after := _, guard := _ } :: _) _ _
           refine wpList_bs_run rfl (.tmp 22) 33 rfl _ rfl (bs5_run _ [iv x.pl, iv x.th, iv x.tu, .bool x.fi, .bool x.bo] rfl) ?_)
        | (at_builtin; refine wpList_append_run _ rfl (.tmp 21) (.tmp 23) 33 rfl _ _ rfl rfl AP.out ?_))
      exact ⟨⟨_, G ++ [x], g9, c9, by rw [HE9.out, HN12.out.1, HN12.out.2], HR9, ⟨by rw [HE9.out]; have := HS9.out; rw [HE9.out] at this; exact this⟩, HP2⟩, HL9.out⟩
end Go.Proofs.Ytjoodembmjooaaa
