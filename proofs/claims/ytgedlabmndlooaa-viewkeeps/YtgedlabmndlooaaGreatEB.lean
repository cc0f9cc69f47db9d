/- view: alive -/
import Derived.Test.YtgedlabmndlooaaGreatEA
namespace Go.Proofs.YtgedlabmndlooaaGreat
open Go Go.RowKit Go.Maps Go.Shelf Go.Lib Go.Sort

theorem sC_fst : Fst1 (fun c : Cr => c.pl) sC sC := ⟨by decide, fun x => ⟨fun h => by
  simp only [sC, List.mem_cons, List.not_mem_nil, or_false] at h
  rcases h with rfl | rfl | rfl | rfl <;> rfl, fun h => List.mem_of_find?_eq_some h⟩⟩
theorem sS_fst : Fst1 (fun c : Sh => c.id) sS sS := ⟨by decide, fun x => ⟨fun h => by
  simp only [sS, List.mem_cons, List.not_mem_nil, or_false] at h
  rcases h with rfl | rfl <;> rfl, fun h => List.mem_of_find?_eq_some h⟩⟩
theorem sT_tld : Tld sC sS 5 2 sc0 sT := ⟨⟨sC, sS, sC_fst, sS_fst, by
  have e : (fil sc0.pl (nsS (seenC sC ++ sS.map shoS) sc0.x sc0.y (65536 * kpZ 5 1024) (kpZ 2 32 + 1))).take (kpZ 2 32).toNat = sT := by kernel_rfl
  rw [e], by decide⟩⟩
def tA : Sn := ⟨1, 1, 65536, 0, 9⟩
theorem btA : Tryz.prog.built 33 [(0, iv 1), (1, iv 1), (2, .agg #[iv 65536, iv 0]), (3, iv 9)] = some (snv tA).toArray := by kernel_rfl
set_option maxRecDepth 100000 in
set_option maxHeartbeats 16000000 in
theorem alive_c (W : World) : Calls Tryz.prog 11 #[] W fun e W' => e = .returned (.bool true) ∧ W.grownBy W' none := by
  have HSM := Keep.mk small_c
  obtain ⟨du, hdu⟩ := under33
  go_enter Tryz.func11, Tryz.ntmps11
  go_wp2_with fail
  refine (HSM.out W).mono ?_
  rintro e W1 ⟨b1, b2, rfl, g1, st1⟩
  have HG1 := Keep.mk g1
  have HO := Keep.mk (of_c W1 3 8 0 5 2 (sl b1 4 4) (sl b2 2 2) sC sS st1)
  clear g1 st1
  go_wp2_with fail
  refine HO.out.mono ?_
  rintro e W2 hOf
  obtain ⟨v, T, rfl, ht, S2⟩ := hOf.yes sc0 (by kernel_rfl)
  obtain rfl : T = sT := ht.uniq sT_tld
  obtain ⟨g, c, e, _⟩ := own_any (S2.rowGet k0m) (by decide)
  obtain rfl : v = sl g 2 c := e
  have HS2 : Keep (Sep W1 W2 [rowV 33 5 (sl g 2 c) 2 (fl snv sT)]) := ⟨S2⟩
  have HON : Keep (∀ u ∈ vwv 3 sc0 (sl g 2 c), u.oneCell' = true) := ⟨vwv_one 3 sc0 (sl g 2 c) ⟨_, _, _, rfl⟩⟩
  clear S2 ht hOf HO
  go_wp2_with (
    (with_reducible show wpList _ _ _ ({ dst := _, op := Op.store 29 _ _, type := _, pos := _, after := _, guard := _ } :: _) _ _
     refine store_new W2 (vwv 3 sc0 (sl g 2 c)) 29 rfl rfl rfl rfl rfl info29 HON.out ?_))
  intro W3 hS3 g3
  obtain ⟨vb, hvb⟩ : ∃ b, W2.heap.size = b := ⟨_, rfl⟩
  have S3 := hS3 _ _ HS2.out
  rw [hvb] at S3 ⊢
  have HS3 := Keep.mk S3
  clear hS3 S3 HS2 hvb g3
  go_wp2_with fail
  refine (HSM.out W3).mono ?_
  rintro e W4 ⟨b3, b4, rfl, g4, st4⟩
  have HS4 := Keep.mk (HS3.out.grown g4)
  have HO := Keep.mk (of_c W4 3 8 9 5 2 (sl b3 4 4) (sl b4 2 2) sC sS st4)
  clear g4 st4 HS3
  go_wp2_with fail
  refine HO.out.mono ?_
  rintro e W5 hOf
  obtain ⟨rfl, g5⟩ := hOf.no (by kernel_rfl)
  have HS5 := Keep.mk (HS4.out.grown g5)
  clear g5 hOf HS4 HO
  go_wp2_with (
    (with_reducible show wpList _ _ _ ({ dst := _, op := Op.store 29 _ _, type := _, pos := _, after := _, guard := _ } :: _) _ _
     refine store_new W5 zvw 29 rfl rfl rfl rfl rfl info29 zvw_one ?_))
  intro W6 hS6 g6
  have HS6 := Keep.mk (HS5.out.grown g6)
  clear hS6 HS5 g6
  have c0 := (HS6.out.boxGet k0m).cellv 0 _ rfl
  have cf := (HS6.out.boxGet k0m).cellv 15 _ rfl
  obtain ⟨g', c', e, hq⟩ := own_any (HS6.out.rowGet k1m) (by decide)
  obtain ⟨rfl, rfl⟩ : g = g' ∧ c = c' := by
    injection e with e1 e2 e3
    injection e1 with e1
    injection e1 with e1
    exact ⟨e1, e3⟩
  have c6 := (hq 6 (iv 7) rfl).1
  have HRT : Keep (W6.rangeAt g 0 (snv tA)) := ⟨fun j u hu => by
    rw [Nat.zero_add]
    refine (hq j u ?_).1
    rw [show fl snv sT = snv tA ++ snv ⟨2, 7, 65536, 0, 0⟩ from rfl, List.getElem?_append_left (List.getElem?_eq_some_iff.1 hu).1]
    exact hu⟩
  have HE : Keep (∀ w, (Op.equalIn 10000 33 (.agg (snv tA).toArray) (.agg (snv tA).toArray)).run Tryz.prog w = .ok true w) := ⟨fun w => by rw [eqN]; simp⟩
  have hE := HE.out
  have HBA := Keep.mk btA
  have HBV := Keep.mk (bv 65536)
  clear e hq
  go_wp2_with (first
    | (with_reducible show wpList _ _ _ ({ dst := some 36, op := Op.load 33 _, type := _, pos := _, after := _, guard := _ } :: _) _ _
       refine load_g rfl 33 _ rfl g 0 rfl (snv tA) _ HRT.out hdu.1 hdu.2 info33 ?_)
    | (with_reducible show wpList _ _ _ ({ dst := some 37, op := Op.build 24 _, type := _, pos := _, after := _, guard := _ } :: _) _ _
       refine build_g rfl 24 _ rfl #[iv 65536, iv 0] ((congrArg (Tryz.prog.built 24) (by first | (simp only [List.map_toArray, List.map_cons, List.map_nil, Act.eval]; done) | (simp only [List.map_toArray, List.map_cons, List.map_nil, Act.eval]; with_reducible rfl))).trans HBV.out) ?_
       simp only [Act.put, List.setIfInBounds_toArray, List.set_cons_zero, List.set_cons_succ])
    | (with_reducible show wpList _ _ _ ({ dst := some 38, op := Op.build 33 _, type := _, pos := _, after := _, guard := _ } :: _) _ _
       refine build_g rfl 33 _ rfl (snv tA).toArray ((congrArg (Tryz.prog.built 33) (by first | (simp only [List.map_toArray, List.map_cons, List.map_nil, Act.eval]; done) | (simp only [List.map_toArray, List.map_cons, List.map_nil, Act.eval]; simp; done))).trans HBA.out) ?_
       simp only [Act.put, List.setIfInBounds_toArray, List.set_cons_zero, List.set_cons_succ]))
  refine (HSM.out W6).mono ?_
  rintro e W7 ⟨b5, b6, rfl, g7, st7⟩
  have HG7 := Keep.mk (HG1.out.trans (HS6.out.g.trans g7))
  have HA := Keep.mk (all_c W7 3 8 5 32 (sl b5 4 4) (sl b6 2 2) sC sS st7 (by decide))
  clear g7 st7 hE c0 cf c6
  go_wp2_with fail
  refine HA.out.mono ?_
  rintro e W8 ⟨v8, rfl, q8⟩
  obtain ⟨C, Vs, f1, _, hm, _, S8⟩ := q8.o
  obtain ⟨a8, c8, rfl⟩ := own_slice (S8.rowGet k0m)
  have hl : Vs.length = 4 := by
    have q := congrArg List.length hm
    rw [List.length_map, f1.uniq sC_fst] at q
    exact q
  rw [hl]
  have HG8 := Keep.mk (HG7.out.trans S8.g)
  clear S8 hl q8 HA
  go_wp2_with fail
  go_ret
  exact ⟨rfl, HG8.out⟩
end Go.Proofs.YtgedlabmndlooaaGreat
