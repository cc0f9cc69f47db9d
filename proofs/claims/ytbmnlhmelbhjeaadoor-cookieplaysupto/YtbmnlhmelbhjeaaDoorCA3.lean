/- cookie: a jar: find, follow, Epoch, Bake, New -/
import Derived.Test.YtbmnlhmelbhjeaaDoorCA2
namespace Go.Proofs.YtbmnlhmelbhjeaaDoor
open Go Go.RowKit

/-- a jar in block b: the current secret, and that of the epoch ahead (or zeros) -/
structure JR (w : World) (b : Nat) (s a : List UInt8) : Prop where
  h : Has w b ((s ++ a).map bv) 57
  ls : s.length = 40
  la : a.length = 40
theorem JR.kept {w w' : World} {b : Nat} {s a : List UInt8} {row : Option Nat} (h : JR w b s a) (g : w.grownBy w' row) (hne : some b ≠ row) : JR w' b s a := ⟨h.h.kept g hne, h.ls, h.la⟩
theorem JR.lt {w : World} {b : Nat} {s a : List UInt8} (h : JR w b s a) : b < w.heap.size := h.h.lt
theorem JR.now {w : World} {b : Nat} {s a : List UInt8} (h : JR w b s a) : w.rangeAt b 0 (s.map bv) :=
  h.h.rangeMid 0 [] _ (a.map bv) (by simp) rfl
theorem JR.ahead {w : World} {b : Nat} {s a : List UInt8} (h : JR w b s a) : w.rangeAt b 40 (a.map bv) :=
  h.h.rangeMid 40 (s.map bv) _ [] (by simp) (by rw [List.length_map, h.ls])

/-- what an epoch's secret is: the empty one, if it isn't kept -/
def findS (s a : List UInt8) (x : Nat) : List UInt8 := if x = beN (s.take 8) then s else if x = beN (a.take 8) then a else zl40
theorem findS_len (s a : List UInt8) (x : Nat) (hs : s.length = 40) (ha : a.length = 40) : (findS s a x).length = 40 := by
  unfold findS; split
  · exact hs
  · split
    · exact ha
    · rfl

theorem eq64 (x y : Nat) : ((x : Int) == (y : Int)) = decide (x = y) := by
  by_cases h : x = y
  · simp [h]
  · rw [decide_eq_false h, beq_eq_false_iff_ne]; omega
set_option maxRecDepth 100000 in
theorem build52 (W : World) : (Instr.build 52 #[]).run Tryd.prog W = .ok (.agg zero40) W := by
  have hz := zero52 W
  simp only [Instr.build, Sem.run_bind, hz, Result.andThen_ok]
  rfl
set_option maxRecDepth 100000 in
set_option maxHeartbeats 4000000 in
theorem find_c (b x : Nat) (s a : List UInt8) (w : World) (hj : JR w b s a) :
    Calls Tryd.prog 23 #[.pointer (some ⟨b, 0, none⟩), .int .u64 x] w fun e w' => e = .returned (.agg ((findS s a x).map bv).toArray) ∧ w.grownBy w' none := by
  have HJ : Keep (JR w b s a) := ⟨hj⟩
  have hz := zero52
  have hbd := build52
  have HI : Keep ((Tryd.prog.info? 52).map (·.size) = some (s.map bv).length ∧ (Tryd.prog.info? 52).map (·.size) = some (a.map bv).length) := ⟨info52 s hj.ls, info52 a hj.la⟩
  have hbs := hj.ls
  have hba := hj.la
  have H0 : Keep (JR (w.alloc (.cells zero40 52)) b s a ∧ Has (w.alloc (.cells zero40 52)) w.heap.size (zl40.map bv) 52 ∧ w.grownBy (w.alloc (.cells zero40 52)) none) := ⟨hj.kept (World.grownBy_alloc _ _ none) (by simp), Has.newA w zero40 52, World.grownBy_alloc _ _ _⟩
  obtain ⟨e1, he1⟩ : ∃ e1, e1 = beN (s.take 8) := ⟨_, rfl⟩
  obtain ⟨e2, he2⟩ : ∃ e2, e2 = beN (a.take 8) := ⟨_, rfl⟩
  have E1 : Keep (beN (s.take 8) = e1) := ⟨he1.symm⟩
  have E2 : Keep (beN (a.take 8) = e2) := ⟨he2.symm⟩
  have FS : Keep (findS s a x = if x = e1 then s else if x = e2 then a else zl40) := ⟨by rw [he1, he2]; rfl⟩
  clear hj he1 he2
  by_cases h1 : x = e1
  · have HV : Keep (findS s a x = s) := ⟨by rw [FS.out, if_pos h1]⟩
    have hq : ((x : Int) == (e1 : Int)) = true := by rw [h1]; simp
    go_enter Tryd.func23, Tryd.ntmps23
    go_wp2_with (refine wpList_load_mid rfl 52 _ rfl _ _ rfl _ _ H0.out.1.now under52 rfl HI.out.1 ?_)
    refine (epoch_c s _ _ ⟨rfl⟩ hbs).mono ?_
    rintro e w2 ⟨rfl, g2⟩
    rw [E1.out]
    have H2 : Keep (JR w2 b s a ∧ Has w2 w.heap.size (zl40.map bv) 52 ∧ w.grownBy w2 none) := ⟨H0.out.1.kept g2 (by simp), H0.out.2.1.kept g2 (by simp), H0.out.2.2.trans g2⟩
    clear g2 H0
    go_wp2_with (first
      | (refine wpList_load_mid rfl 52 _ rfl _ _ rfl _ _ H2.out.1.now under52 rfl HI.out.1 ?_)
      | (refine wpList_store_mid rfl 52 _ _ rfl _ _ _ rfl rfl (H2.out.2.1.there 0 _ (by rw [List.size_toArray, List.length_map, hbs]; decide)) HI.out.1 (bytes_one _) ?_))
    refine ret_cell (b := w.heap.size) (cs := (s).map bv) (t := 52) rfl rfl ?_ under52 rfl (info52 _ hbs) rfl ⟨by rw [HV.out], ?_⟩
    · exact H2.out.2.1.setAll _ (by rw [List.length_map, List.length_map, hbs]; rfl)
    · exact gr_new H2.out.2.2 (gr_sets _ _ _ _) (Nat.le_refl _)
  · have hq : ((x : Int) == (e1 : Int)) = false := by rw [beq_eq_false_iff_ne]; omega
    by_cases h2 : x = e2
    · have HV : Keep (findS s a x = a) := ⟨by rw [FS.out, if_neg h1, if_pos h2]⟩
      have hq2 : ((x : Int) == (e2 : Int)) = true := by rw [h2]; simp
      go_enter Tryd.func23, Tryd.ntmps23
      go_wp2_with (refine wpList_load_mid rfl 52 _ rfl _ _ rfl _ _ H0.out.1.now under52 rfl HI.out.1 ?_)
      refine (epoch_c s _ _ ⟨rfl⟩ hbs).mono ?_
      rintro e w2 ⟨rfl, g2⟩
      rw [E1.out]
      have H2 : Keep (JR w2 b s a ∧ Has w2 w.heap.size (zl40.map bv) 52 ∧ w.grownBy w2 none) := ⟨H0.out.1.kept g2 (by simp), H0.out.2.1.kept g2 (by simp), H0.out.2.2.trans g2⟩
      clear g2 H0
      go_wp2_with (refine wpList_load_mid rfl 52 _ rfl _ _ rfl _ _ H2.out.1.ahead under52 rfl HI.out.2 ?_)
      refine (epoch_c a _ _ ⟨rfl⟩ hba).mono ?_
      rintro e w3 ⟨rfl, g3⟩
      rw [E2.out]
      have H3 : Keep (JR w3 b s a ∧ Has w3 w.heap.size (zl40.map bv) 52 ∧ w.grownBy w3 none) := ⟨H2.out.1.kept g3 (by simp), H2.out.2.1.kept g3 (by simp), H2.out.2.2.trans g3⟩
      clear g3 H2
      go_wp2_with (first
        | (refine wpList_load_mid rfl 52 _ rfl _ _ rfl _ _ H3.out.1.ahead under52 rfl HI.out.2 ?_)
        | (refine wpList_store_mid rfl 52 _ _ rfl _ _ _ rfl rfl (H3.out.2.1.there 0 _ (by rw [List.size_toArray, List.length_map, hba]; decide)) HI.out.2 (bytes_one _) ?_))
      refine ret_cell (b := w.heap.size) (cs := (a).map bv) (t := 52) rfl rfl ?_ under52 rfl (info52 _ hba) rfl ⟨by rw [HV.out], ?_⟩
      · exact H3.out.2.1.setAll _ (by rw [List.length_map, List.length_map, hba]; rfl)
      · exact gr_new H3.out.2.2 (gr_sets _ _ _ _) (Nat.le_refl _)
    · have HV : Keep (findS s a x = zl40) := ⟨by rw [FS.out, if_neg h1, if_neg h2]⟩
      have hq2 : ((x : Int) == (e2 : Int)) = false := by rw [beq_eq_false_iff_ne]; omega
      go_enter Tryd.func23, Tryd.ntmps23
      go_wp2_with (refine wpList_load_mid rfl 52 _ rfl _ _ rfl _ _ H0.out.1.now under52 rfl HI.out.1 ?_)
      refine (epoch_c s _ _ ⟨rfl⟩ hbs).mono ?_
      rintro e w2 ⟨rfl, g2⟩
      rw [E1.out]
      have H2 : Keep (JR w2 b s a ∧ Has w2 w.heap.size (zl40.map bv) 52 ∧ w.grownBy w2 none) := ⟨H0.out.1.kept g2 (by simp), H0.out.2.1.kept g2 (by simp), H0.out.2.2.trans g2⟩
      clear g2 H0
      go_wp2_with (refine wpList_load_mid rfl 52 _ rfl _ _ rfl _ _ H2.out.1.ahead under52 rfl HI.out.2 ?_)
      refine (epoch_c a _ _ ⟨rfl⟩ hba).mono ?_
      rintro e w3 ⟨rfl, g3⟩
      rw [E2.out]
      have H3 : Keep (JR w3 b s a ∧ Has w3 w.heap.size (zl40.map bv) 52 ∧ w.grownBy w3 none) := ⟨H2.out.1.kept g3 (by simp), H2.out.2.1.kept g3 (by simp), H2.out.2.2.trans g3⟩
      clear g3 H2
      go_wp2_with (refine wpList_store_mid rfl 52 _ _ rfl _ _ zero40 rfl rfl (H3.out.2.1.there 0 _ (by decide)) (info52 zl40 rfl) (bytes_one _) ?_)
      refine ret_cell (b := w.heap.size) (cs := (zl40).map bv) (t := 52) rfl rfl ?_ under52 rfl (info52 _ rfl) rfl ⟨by rw [HV.out], ?_⟩
      · exact H3.out.2.1.setAll _ rfl
      · exact gr_new H3.out.2.2 (gr_sets _ _ _ _) (Nat.le_refl _)
end Go.Proofs.YtbmnlhmelbhjeaaDoor
