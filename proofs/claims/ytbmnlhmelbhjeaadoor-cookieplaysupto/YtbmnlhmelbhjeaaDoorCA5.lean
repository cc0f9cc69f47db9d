/- cookie: New, Check -/
import Derived.Test.YtbmnlhmelbhjeaaDoorCA3
namespace Go.Proofs.YtbmnlhmelbhjeaaDoor
open Go Go.RowKit

/-- the first secret -/
def firstS (seed : ByteArray) : List UInt8 := Mac.len8 1 ++ sl (deriveB seed cookieB [])
theorem firstS_len (seed : ByteArray) : (firstS seed).length = 40 := by
  rw [firstS, List.length_append, Mac.len8_len, sl_len, deriveB_size]
set_option maxRecDepth 100000 in
set_option maxHeartbeats 4000000 in
theorem build55 (q : List UInt8) (hq : q.length = 40) (W : World) : (Instr.build 55 #[(0, .agg (q.map bv).toArray)]).run Tryd.prog W = .ok (.agg ((q ++ zl40).map bv).toArray) W := by
  match q, hq with
  | b0 :: b1 :: b2 :: b3 :: b4 :: b5 :: b6 :: b7 :: b8 :: b9 :: b10 :: b11 :: b12 :: b13 :: b14 :: b15 :: b16 :: b17 :: b18 :: b19 :: b20 :: b21 :: b22 :: b23 :: b24 :: b25 :: b26 :: b27 :: b28 :: b29 :: b30 :: b31 :: b32 :: b33 :: b34 :: b35 :: b36 :: b37 :: b38 :: b39 :: [], _ => exact run_build W 55 _ _ (by kernel_rfl)
set_option maxRecDepth 100000 in
set_option maxHeartbeats 4000000 in
theorem build57 (q : List UInt8) (hq : q.length = 40) (W : World) : (Instr.build 57 #[(0, .agg ((q ++ zl40).map bv).toArray)]).run Tryd.prog W = .ok (.agg ((q ++ zl40).map bv).toArray) W := by
  match q, hq with
  | b0 :: b1 :: b2 :: b3 :: b4 :: b5 :: b6 :: b7 :: b8 :: b9 :: b10 :: b11 :: b12 :: b13 :: b14 :: b15 :: b16 :: b17 :: b18 :: b19 :: b20 :: b21 :: b22 :: b23 :: b24 :: b25 :: b26 :: b27 :: b28 :: b29 :: b30 :: b31 :: b32 :: b33 :: b34 :: b35 :: b36 :: b37 :: b38 :: b39 :: [], _ => exact run_build W 57 _ _ (by kernel_rfl)

theorem wpList_build_run {P : Program} {w : World} {ops : Array Oper} {rest : List Oper} {o : Oper} {a : Act} {Q : Exit → Act → World → Prop} (hgd : o.guard = none) (x : Operand) (t : TypeId)
    (ho : o.op = .build t #[(0, x)]) (v : Value) (hx : a.eval x = v) {v' : Value}
    (hr : (Instr.build t #[(0, v)]).run P w = .ok v' w) (h : wpList P ops Q rest (a.put o.dst v') w) : wpList P ops Q (o :: rest) a w :=
  wpList_plain hgd fun _ hK => by
    unfold Oper.wp execOp
    simp only [ho, Sem.run_bind, Sem.run_pure, Result.andThen_ok, List.map_toArray, List.map_cons, List.map_nil, hx, hr]
    exact hK _ _ h
set_option maxRecDepth 100000 in
set_option maxHeartbeats 4000000 in
theorem new_c (seed : ByteArray) (w : World) (hk : Kc w) (hs : seed.size ≤ 2305843009213693952) :
    Calls Tryd.prog 10 #[.string seed] w fun e w' => ∃ b, e = .returned (.pointer (some ⟨b, 0, none⟩)) ∧ JR w' b (firstS seed) zl40 ∧ w.grownBy w' none ∧ w.heap.size ≤ b := by
  have HK : Keep (Kc w) := ⟨hk⟩
  have HL : Keep ((firstS seed).length = 40) := ⟨firstS_len seed⟩
  have h32 := deriveB_size seed cookieB []
  have HF : Keep (Mac.len8 1 ++ sl (deriveB seed cookieB []) = firstS seed) := ⟨rfl⟩
  have hb1 := build55 (firstS seed) HL.out
  have hb2 := build57 (firstS seed) HL.out
  generalize hr : ((firstS seed ++ zl40).map bv).toArray = r at hb1 hb2
  have HR : Keep (r = ((firstS seed ++ zl40).map bv).toArray) := ⟨hr.symm⟩
  clear hk hr
  go_enter Tryd.func10, Tryd.ntmps10
  go_wp2_with fail
  refine (derive_gen seed cookieB none 0 0 [] _ HK.out (strs_nil _) hs (by decide) (by decide) (fun j p h => by simp at h)).mono ?_
  rintro e w1 ⟨rfl, g1⟩
  have G1 : Keep (w.grownBy w1 none) := ⟨g1⟩
  clear g1
  generalize deriveB seed cookieB [] = k at *
  go_wp2_with fail
  refine (of_c 1 k _ h32).mono ?_
  rintro e w2 ⟨rfl, g2⟩
  have G2 : Keep (w.grownBy w2 none) := ⟨G1.out.trans g2⟩
  rw [HF.out]
  clear g2
  generalize hq : firstS seed = q at *
  have HQ := Keep.mk hq
  clear hq
  go_wp2_with (first
    | (show wpList _ _ _ ({ dst := _, op := Op.build 55 _, type := _, pos := _, after := _, guard := _ } :: _) _ _; refine wpList_build_run rfl (.tmp 5) 55 rfl (.agg (q.map bv).toArray) rfl (hb1 _) ?_)
    | (show wpList _ _ _ ({ dst := _, op := Op.build 57 _, type := _, pos := _, after := _, guard := _ } :: _) _ _; refine wpList_build_run rfl (.tmp 6) 57 rfl (.agg r) rfl (hb2 _) ?_))
  go_ret
  exact ⟨_, rfl, ⟨by rw [HR.out, HQ.out]; exact Has.new _ _ _, by rw [HQ.out]; exact HL.out, rfl⟩, G2.out.trans (World.grownBy_alloc _ _ _), G2.out.size⟩

set_option maxRecDepth 100000 in
set_option maxHeartbeats 4000000 in
theorem same32 (a b : ByteArray) (w : World) (hb : b.size = 32) :
    Calls Tryd.prog 24 #[.string a, .string b] w fun e w' => e = .returned (.bool (decide (a = b))) ∧ w.grownBy w' none := by
  by_cases hl : a.size = 32
  · refine (same_any a b w (by omega) (by omega)).mono ?_
    rintro e w' ⟨rfl, g⟩
    refine ⟨?_, g⟩
    congr 2
    rw [decide_eq_decide]
    exact ⟨fun h => sl_inj h, fun h => by rw [h]⟩
  · have HN : Keep (decide (a = b) = false) := ⟨by
      rw [decide_eq_false_iff_not]
      intro e
      exact hl (by rw [e, hb])⟩
    have hne : ¬ a.size = b.size := by omega
    go_enter Tryd.func24, Tryd.ntmps24
    go_wp2
    go_ret
    exact ⟨by rw [HN.out]; rfl, World.grownBy.refl _ _⟩

/-- what Check answers -/
def chkS (s a : List UInt8) (f n : ByteArray) (x : Nat) (c : ByteArray) : Int :=
  if findS s a x = zl40 then 100 else if c = bakeS (findS s a x) f n then 0 else 101
theorem bakeS_size (s : List UInt8) (f n : ByteArray) : (bakeS s f n).size = 32 := deriveB_size _ _ _

set_option maxRecDepth 100000 in
set_option maxHeartbeats 4000000 in
theorem check_c (b x : Nat) (s a : List UInt8) (f n c : ByteArray) (w : World) (hj : JR w b s a) (hk : Kc w) (hf : f.size ≤ 9223372036854775807) (hn : n.size ≤ 9223372036854775807) :
    Calls Tryd.prog 12 #[.pointer (some ⟨b, 0, none⟩), .string f, .string n, .int .u64 x, .string c] w fun e w' => e = .returned (.int .i64 (chkS s a f n x c)) ∧ w.grownBy w' none := by
  have HJ : Keep (JR w b s a ∧ Kc w) := ⟨hj, hk⟩
  have HQL : Keep ((findS s a x).length = 40) := ⟨findS_len s a x hj.ls hj.la⟩
  have HV : Keep (chkS s a f n x c = if findS s a x = zl40 then 100 else if c = bakeS (findS s a x) f n then 0 else 101) := ⟨rfl⟩
  have hz := zero52
  have hbd := build52
  clear hj hk
  go_enter Tryd.func12, Tryd.ntmps12
  go_wp2_with fail
  refine (find_c b x s a _ HJ.out.1).mono ?_
  rintro e w1 ⟨rfl, g1⟩
  generalize findS s a x = q at *
  have HI : Keep ((Tryd.prog.info? 52).map (·.size) = some (q.map bv).length) := ⟨info52 q HQL.out⟩
  have G1 : Keep (w.grownBy w1 none ∧ Kc w1) := ⟨g1, HJ.out.2.kept g1 (by simp)⟩
  clear g1 HJ
  have hql := HQL.out
  have heq := fun W => eq52 q zl40 hql rfl W
  have heq2 : ∀ W : World, (Op.equalIn 10000 52 (.agg (q.map bv).toArray) (.agg zero40)).run Tryd.prog W = .ok (decide (q = zl40)) W := heq
  clear heq
  have HW : Keep (∀ w2, (w1.alloc (.cells zero40 52)).setCells w1.heap.size 0 (q.map bv) = w2 → Has w2 w1.heap.size (q.map bv) 52 ∧ w.grownBy w2 none ∧ Kc w2) := ⟨by
    rintro w2 rfl
    have g2 : w1.grownBy ((w1.alloc (.cells zero40 52)).setCells w1.heap.size 0 (q.map bv)) none := gr_new (World.grownBy_alloc _ _ _) (gr_sets _ _ _ _) (Nat.le_refl _)
    exact ⟨(Has.newA w1 zero40 52).setAll _ (by rw [List.length_map, hql]; rfl), G1.out.1.trans g2, G1.out.2.kept g2 (by simp)⟩⟩
  clear G1
  by_cases hq : q = zl40
  · have HE : Keep (chkS s a f n x c = 100) := ⟨by rw [HV.out, if_pos hq]⟩
    rw [decide_eq_true hq] at heq2
    clear hq HV
    go_wp2_with (first
      | (refine wpList_store_mid rfl 52 _ _ rfl _ _ _ rfl rfl ((Has.newA w1 zero40 52).there 0 _ (by rw [List.size_toArray, List.length_map, hql]; decide)) HI.out (bytes_one _) ?_
         generalize hw2 : World.setCells _ _ _ _ = w2
         have H2 := Keep.mk (HW.out w2 hw2)
         clear hw2)
      | (refine wpList_load_mid rfl 52 _ rfl _ _ rfl _ _ H2.out.1.range under52 rfl HI.out ?_))
    go_ret
    exact ⟨by rw [HE.out]; rfl, H2.out.2.1⟩
  · rw [decide_eq_false hq] at heq2
    go_wp2_with (first
      | (refine wpList_store_mid rfl 52 _ _ rfl _ _ _ rfl rfl ((Has.newA w1 zero40 52).there 0 _ (by rw [List.size_toArray, List.length_map, hql]; decide)) HI.out (bytes_one _) ?_
         generalize hw2 : World.setCells _ _ _ _ = w2
         have H2 := Keep.mk (HW.out w2 hw2)
         clear hw2)
      | (refine wpList_load_mid rfl 52 _ rfl _ _ rfl _ _ H2.out.1.range under52 rfl HI.out ?_))
    refine (bake_c q _ f n _ ⟨rfl⟩ hql H2.out.2.2 hf hn).mono ?_
    rintro e w3 ⟨rfl, g3⟩
    have H3 : Keep (w.grownBy w3 none) := ⟨H2.out.2.1.trans g3⟩
    clear g3 H2
    have HB := Keep.mk (bakeS_size q f n)
    have HE : Keep (chkS s a f n x c = if c = bakeS q f n then 0 else 101) := ⟨by rw [HV.out, if_neg hq]⟩
    generalize bakeS q f n = k at *
    go_wp2_with fail
    refine (same32 c k _ HB.out).mono ?_
    rintro e w4 ⟨rfl, g4⟩
    have H4 : Keep (w.grownBy w4 none) := ⟨H3.out.trans g4⟩
    clear g4 H3
    by_cases hck : c = k
    · rw [decide_eq_true hck]
      have HE2 : Keep (chkS s a f n x c = 0) := ⟨by rw [HE.out, if_pos hck]⟩
      go_wp2_with fail
      go_ret
      exact ⟨by rw [HE2.out]; rfl, H4.out⟩
    · rw [decide_eq_false hck]
      have HE2 : Keep (chkS s a f n x c = 101) := ⟨by rw [HE.out, if_neg hck]⟩
      go_wp2_with fail
      go_ret
      exact ⟨by rw [HE2.out]; rfl, H4.out⟩
end Go.Proofs.YtbmnlhmelbhjeaaDoor
