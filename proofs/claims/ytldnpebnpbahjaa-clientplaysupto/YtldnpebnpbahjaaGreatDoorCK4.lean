import Derived.Test.YtldnpebnpbahjaaGreatDoorCK
import Derived.Test.YtldnpebnpbahjaaGreatDoorX24
set_option maxRecDepth 100000
namespace Go.Proofs.YtldnpebnpbahjaaGreatDoor
open Go Go.ChangeShapes Go.WideShapes Go.ChangeAt Go.RowKit Go.Proofs.Tryz
theorem gR : prog.globalNamed "joust/joustref01.roots" = some 3 := by kernel_rfl
theorem gC : prog.globalNamed "joust/joustref01.cubes" = some 4 := by kernel_rfl
theorem tR : (prog.globals[3]?).map (·.type) = some 180 := by kernel_rfl
theorem tC : (prog.globals[4]?).map (·.type) = some 220 := by kernel_rfl
theorem underRs : prog.underlying 180 = some (.array 8 179) := underlying180
theorem iv_datum : (Rows.laid_joust_joustref01_roots : DataW Unit) = .agg (Sha.iv.map fun x => .lit (.int .u32 x.toNat)) := by kernel_rfl
theorem cs_datum : (Rows.laid_joust_joustref01_cubes : DataW Unit) = .agg (Sha.ks.map fun x => .lit (.int .u32 x.toNat)) := by kernel_rfl
abbrev laid4 : List (String × DataW Unit) := [("joust/joustref01.roots", Rows.laid_joust_joustref01_roots), ("joust/joustref01.cubes", Rows.laid_joust_joustref01_cubes), ("joust/sha.roundWords", Rows.laid_joust_sha_roundWords), ("joust/name.spans", Rows.laid_joust_name_spans)]
theorem all_of_laid4 {W : World} (h : laidMetH prog laid4 W) : Kc W ∧ Pk.Na.Kc W ∧ RK W ∧ 5 ≤ W.heap.size := by
  rw [MakeChecks.laidMetH_plain _ _ _ (by kernel_rfl)] at h; obtain ⟨ps, ⟨g0, t0, cs0, f0, p0, q0, hg0, ht0, hv0, hd0, ⟨g1, t1, cs1, f1, p1, q1, hg1, ht1, hv1, hd1, ⟨g2, t2, cs2, f2, p2, q2, hg2, ht2, hv2, hd2, ⟨g3, t3, cs3, f3, p3, q3, hg3, ht3, hv3, hd3, _, _⟩, _⟩, _⟩, _⟩, _, _⟩ := h; obtain rfl := Option.some.inj (gR.symm.trans hg0); obtain rfl := Option.some.inj (gC.symm.trans hg1); obtain rfl := Option.some.inj (gK.symm.trans hg2); obtain rfl := Option.some.inj (gS.symm.trans hg3); obtain rfl := Option.some.inj (tR.symm.trans ht0); obtain rfl := Option.some.inj (tC.symm.trans ht1); obtain rfl := Option.some.inj (tK.symm.trans ht2); obtain rfl := Option.some.inj (tS.symm.trans ht3)
  have hk : Kc W := fun j hj => by
    rw [World.var?_cell hg2 hv2 j, ← Array.getElem?_toList]; exact words_of underKs rfl hd2 ks_datum j hj
  have hr : RK W := ⟨fun j hj => by
    rw [World.var?_cell hg0 hv0 j, ← Array.getElem?_toList]; exact words_of underRs rfl hd0 iv_datum j hj, fun j hj => by
    rw [World.var?_cell hg1 hv1 j, ← Array.getElem?_toList]
    exact words_of underKs rfl hd1 cs_datum j hj⟩
  have h3 := World.block_lt_of_cell? W ⟨4, 0, none⟩ (hr.c 0 (by omega)); refine ⟨hk, ?_, hr, h3⟩; rw [sp_datum] at hd3
  have hcell : ∀ j, W.cell? ⟨0, j, none⟩ = cs3.toList[j]? := fun j => by
    rw [World.var?_cell hg3 hv3 j, Array.getElem?_toList]
  obtain ⟨fs, u43, hf, hc43⟩ := underSpan
  have key : ∀ i, i < 10 → (cs3.toList.drop (i * 3)).take 3 = [Pk.Na.spn.getD i (0, 0, 0)].flatMap fun p => [Pk.Na.rv p.1, Pk.Na.rv p.2.1, Pk.Na.rv p.2.2] := by
    intro i hi; obtain ⟨fuel', d, q, hdi, he⟩ := Lib.array_elem underSps hd3 i hi; rw [List.getElem?_map, List.getElem?_eq_getElem (show i < Pk.Na.spn.length from hi)] at hdi; simp only [Option.map_some, Option.some.injEq] at hdi; subst hdi; rw [cellsSpan] at he; have := Lib.ints_of_struct u43 hf hc43 he; rw [this]; simp [List.getD, show i < Pk.Na.spn.length from hi]
  have hall : ∀ n, n ≤ 10 → cs3.toList.take (n * 3) = (Pk.Na.spn.take n).flatMap fun p => [Pk.Na.rv p.1, Pk.Na.rv p.2.1, Pk.Na.rv p.2.2] := by
    intro n
    induction n with
    | zero => intro _; simp
    | succ n ih =>
      intro hn; (have hl : n < Pk.Na.spn.length := show n < 10 by omega); rw [Nat.succ_mul, List.take_add, ih (by omega), key n (by omega), List.take_add_one, List.flatMap_append, List.getElem?_eq_getElem hl]; simp [List.getD, hl]
  have h30 : cs3.toList.take 30 = Pk.Na.spc := hall 10 (Nat.le_refl _); intro j v hv; have hj : j < 30 := (List.getElem?_eq_some_iff.1 hv).1; rw [Nat.zero_add, hcell, ← hv, ← h30, List.getElem?_take, if_pos hj]
end Go.Proofs.YtldnpebnpbahjaaGreatDoor
