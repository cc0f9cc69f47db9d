import Derived.Test.YtkdjcknikhgfkabGreatDoorSK
/- for the rows: pairs as they are handed in -/
namespace Go.Proofs.YtkdjcknikhgfkabGreatDoor.Pk.Sn
open Go Go.RowKit

theorem okWide_arr {P : Program} {w : World} {r : Reach} {base : Nat} {t : TypeId} {v : Value} {n : Nat} {e : TypeId} (ht : P.underlying t = some (.array n e)) (h : Value.okWide P w r base t v) : ∃ cs, v = .agg cs ∧ cs.size = P.cellsOf t := by
  simp only [Value.okWide, ht] at h
  obtain ⟨cs, h1, h2, _⟩ := h
  exact ⟨cs, h1, h2⟩
set_option maxRecDepth 100000 in
theorem two_u {H : Type} {enc : TypeId × Value → H} {W : World} {base fuel : Nat} {v : Value} {d : DataW H} {pl : List MemPlace} (hv : Value.okWide Tryz.prog W .any base 30 v) (hf : DataW.trod enc Tryz.prog W 0 (fun _ => true) true fuel 30 v.cells.toList = some (d, pl)) :
    ∃ x y : Nat, v = .agg #[.int .u64 (x : Int), .int .u64 (y : Int)] ∧ x < 18446744073709551616 ∧ y < 18446744073709551616 := by
  obtain ⟨cs, rfl, _⟩ := okWide_arr Tryz.underlying30 hv
  simp only [Value.cells] at hf
  obtain ⟨xs, n, _, hx, hlen, hxl, hfl⟩ := DataW.trod_array Tryz.underlying30 hf
  have hlen : cs.toList.length = 2 := hlen.trans (by kernel_rfl)
  have hcs : cs = cs.toList.toArray := by simp
  generalize cs.toList = l at hlen hfl hcs
  subst hcs
  rw [kc22] at hfl
  match l, hlen with
  | [c0, c1], _ =>
  match xs, hxl with
  | [y0, y1], _ =>
    have t0 := hfl 0 (by omega)
    have t1 := hfl 1 (by omega)
    simp only [Nat.mul_one, List.drop_zero, List.drop_succ_cons, List.take_succ_cons, List.take_zero, List.getElem?_cons_zero, List.getElem?_cons_succ] at t0 t1
    obtain ⟨z0, e0, _, m0⟩ := DataW.trod_int Tryz.underlying22 t0
    obtain ⟨z1, e1, _, m1⟩ := DataW.trod_int Tryz.underlying22 t1
    simp at e0 e1
    subst e0 e1
    have h0 := in_u64 m0
    have h1 := in_u64 m1
    exact ⟨z0.toNat, z1.toNat, by rw [Int.toNat_of_nonneg h0.1, Int.toNat_of_nonneg h1.1], by omega, by omega⟩
end Go.Proofs.YtkdjcknikhgfkabGreatDoor.Pk.Sn
