/- view: Equal -/
import Derived.Test.YtgedlabmndlooaaGreatE8
namespace Go.Proofs.YtgedlabmndlooaaGreat
open Go Go.RowKit Go.Maps Go.Shelf Go.Lib Go.Sort

abbrev vlV (t : Int) (a : Cr) (v : Value) : Value := .agg #[.int .u64 t, iv a.pl, .string a.nm, iv a.x, iv a.y, iv a.sx, iv a.sy, iv a.hd, iv a.he, iv a.en, iv a.am, iv a.co, iv a.wa, iv a.sp, iv a.sc, v]
theorem vwv_car {W : World} {b : Nat} {t : Int} {a : Cr} {v : Value} {ty : TypeId} (h : Has W b (vwv t a v) ty) : W.rangeAt b 1 (crv a) := fun j u hu => by
  have e : (vwv t a v)[1 + j]? = some u := by
    rw [show vwv t a v = .int .u64 t :: (crv a ++ [v]) from rfl, Nat.add_comm, List.getElem?_cons_succ, List.getElem?_append_left (List.getElem?_eq_some_iff.1 hu).1]
    exact hu
  exact h.cellv (1 + j) u e
set_option maxRecDepth 100000 in
set_option maxHeartbeats 16000000 in
theorem eq_c (W : World) (ta tb : Int) (a b : Cr) (va vb : Value) (A B : List Sn) (ha : Ls snv 5 W va A) (hb : Ls snv 5 W vb B) (hn : A.length ≤ 281474976710656) :
    Calls Tryz.prog 9 #[vlV ta a va, vlV tb b vb] W fun e W' => e = .returned (.bool (decide (ta = tb ∧ a = b ∧ A = B))) ∧ W.grownBy W' none := by
  have S1 := ((Sep.nil W).newBox #[.int .u64 ta, iv a.pl, .string a.nm, iv a.x, iv a.y, iv a.sx, iv a.sy, iv a.hd, iv a.he, iv a.en, iv a.am, iv a.co, iv a.wa, iv a.sp, iv a.sc, va] 29).newBox #[.int .u64 tb, iv b.pl, .string b.nm, iv b.x, iv b.y, iv b.sx, iv b.sy, iv b.hd, iv b.he, iv b.en, iv b.am, iv b.co, iv b.wa, iv b.sp, iv b.sc, vb] 29
  simp only [World.size_alloc] at S1
  obtain ⟨b1, hb1⟩ : ∃ b, W.heap.size = b := ⟨_, rfl⟩
  obtain ⟨b2, hb2⟩ : ∃ b, b1 + 1 = b := ⟨_, rfl⟩
  obtain ⟨W1, hW1⟩ : ∃ w, (W.alloc (.cells #[.int .u64 ta, iv a.pl, .string a.nm, iv a.x, iv a.y, iv a.sx, iv a.sy, iv a.hd, iv a.he, iv a.en, iv a.am, iv a.co, iv a.wa, iv a.sp, iv a.sc, va] 29)).alloc (.cells #[.int .u64 tb, iv b.pl, .string b.nm, iv b.x, iv b.y, iv b.sx, iv b.sy, iv b.hd, iv b.he, iv b.en, iv b.am, iv b.co, iv b.wa, iv b.sp, iv b.sc, vb] 29) = w := ⟨_, rfl⟩
  rw [hW1, hb1, hb2] at S1
  have HB : Keep (Sep W W1 [boxA b2 (vwv tb b vb) 29, boxA b1 (vwv ta a va) 29]) := ⟨S1⟩
  have HS := Keep.mk (sleq_c W1 va vb A B (ha.kept HB.out.g) (hb.kept HB.out.g) hn)
  have HR1 := Keep.mk (vwv_car (HB.out.boxGet k1m))
  have HR2 := Keep.mk (vwv_car (HB.out.boxGet k0m))
  have c10 := (HB.out.boxGet k1m).cellv 0 _ rfl
  have c20 := (HB.out.boxGet k0m).cellv 0 _ rfl
  have c1f := (HB.out.boxGet k1m).cellv 15 _ rfl
  have c2f := (HB.out.boxGet k0m).cellv 15 _ rfl
  have HG := Keep.mk HB.out.g
  obtain ⟨dc, hdc⟩ := under26
  clear S1 ha hb hn HB
  by_cases ht : ta = tb
  · have t1 : (ta == tb) = true := by simp [ht]
    have t2 : decide (ta = tb) = true := by simp [ht]
    have HT := Keep.mk ht
    clear ht
    by_cases hab : a = b
    · have HE : Keep (∀ w, (Op.equalIn 10000 26 (.agg (crv a).toArray) (.agg (crv b).toArray)).run Tryz.prog w = .ok true w) := ⟨fun w => by rw [eqC, decide_eq_true hab]⟩
      have hE := HE.out
      have HAB := Keep.mk hab
      clear hab
      go_enter Tryz.func9, Tryz.ntmps9
      go_wp2_with (first
        | (show wpList _ _ _ ({ dst := some 12, op := Op.load 26 _, type := _, pos := _, after := _, guard := _ } :: _) _ _
           refine load_g rfl 26 _ rfl b1 1 rfl (crv a) _ HR1.out hdc.1 hdc.2 info26 ?_)
        | (show wpList _ _ _ ({ dst := some 14, op := Op.load 26 _, type := _, pos := _, after := _, guard := _ } :: _) _ _
           refine load_g rfl 26 _ rfl b2 1 rfl (crv b) _ HR2.out hdc.1 hdc.2 info26 ?_))
      clear hW1 hb1 hb2
      refine HS.out.mono ?_
      rintro e W2 ⟨rfl, g2⟩
      have HE2 : Keep (decide (A = B) = decide (ta = tb ∧ a = b ∧ A = B)) := ⟨decide_eq_decide.2 ⟨fun h => ⟨HT.out, HAB.out, h⟩, fun h => h.2.2⟩⟩
      have HG2 := Keep.mk (HG.out.trans g2)
      rw [HE2.out]
      obtain ⟨bb, hbb⟩ : ∃ bb, decide (ta = tb ∧ a = b ∧ A = B) = bb := ⟨_, rfl⟩
      rw [hbb]
      have HBB := Keep.mk hbb
      clear g2 hbb
      go_wp2_with fail
      go_ret
      exact ⟨by rw [HBB.out]; rfl, HG2.out⟩
    · have HE : Keep (∀ w, (Op.equalIn 10000 26 (.agg (crv a).toArray) (.agg (crv b).toArray)).run Tryz.prog w = .ok false w) := ⟨fun w => by rw [eqC, decide_eq_false hab]⟩
      have hE := HE.out
      have HF : Keep (decide (ta = tb ∧ a = b ∧ A = B) = false) := ⟨decide_eq_false (fun h => hab h.2.1)⟩
      clear hab
      go_enter Tryz.func9, Tryz.ntmps9
      go_wp2_with (first
        | (show wpList _ _ _ ({ dst := some 12, op := Op.load 26 _, type := _, pos := _, after := _, guard := _ } :: _) _ _
           refine load_g rfl 26 _ rfl b1 1 rfl (crv a) _ HR1.out hdc.1 hdc.2 info26 ?_)
        | (show wpList _ _ _ ({ dst := some 14, op := Op.load 26 _, type := _, pos := _, after := _, guard := _ } :: _) _ _
           refine load_g rfl 26 _ rfl b2 1 rfl (crv b) _ HR2.out hdc.1 hdc.2 info26 ?_))
      go_ret
      exact ⟨by rw [HF.out]; rfl, HG.out⟩
  · have t1 : (ta == tb) = false := by simp [ht]
    have t2 : decide (ta = tb) = false := by simp [ht]
    have HF : Keep (decide (ta = tb ∧ a = b ∧ A = B) = false) := ⟨decide_eq_false (fun h => ht h.1)⟩
    clear ht
    go_enter Tryz.func9, Tryz.ntmps9
    go_wp2_with fail
    go_ret
    exact ⟨by rw [HF.out]; rfl, HG.out⟩
end Go.Proofs.YtgedlabmndlooaaGreat
