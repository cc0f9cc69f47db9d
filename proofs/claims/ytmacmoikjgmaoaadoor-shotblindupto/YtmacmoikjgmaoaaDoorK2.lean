/- ShotBlind's argument as it is handed in -/
import Derived.Test.YtmacmoikjgmaoaaDoorK1
import Derived.Test.YtmacmoikjgmaoaaDoorL5
namespace Go.Proofs.YtmacmoikjgmaoaaDoor.Bo
open Go Go.ChangeShapes Go.WideShapes Go.ChangeAt Go.RowKit

theorem kc22 : Tryd.prog.cellsOf 22 = 1 := by kernel_rfl
theorem kc26 : Tryd.prog.cellsOf 26 = 7 := by kernel_rfl
set_option maxRecDepth 100000 in
theorem blind_open {H : Type} {enc : TypeId × Value → H} {W : World} {base fuel : Nat} {v : Value} {d : DataW H} {pl : List MemPlace} (hv : Value.okWide Tryd.prog W .any base 42 v) (hf : DataW.trod enc Tryd.prog W 0 (fun _ => true) true fuel 42 v.cells.toList = some (d, pl)) (hb : Rows.uptoBulk d ≤ 1048576) :
    ∃ (tx : ByteArray) (cv wv : Value) (s : Sh) (cs ws : List Cr), v = .agg (blv tx cv s wv).toArray ∧ ShOk s ∧ Crs W cv cs ∧ Crs W wv ws ∧ cs.length + ws.length ≤ 2000000 := by
  obtain ⟨cs, rfl, _⟩ := okWide_struct Tryd.underlying42 hv
  simp only [Value.cells] at hf
  obtain ⟨xs, n, _, hx, hlen, hxl, hfl⟩ := DataW.trod_struct Tryd.underlying42 hf
  have hlen : cs.toList.length = 10 := hlen.trans (by kernel_rfl)
  have hcs : cs = cs.toList.toArray := by simp
  clear hf hv
  generalize cs.toList = l at hlen hfl hcs
  subst hcs
  match l, hlen with
  | [c0, c1, c2, c3, c4, c5, c6, c7, c8, c9], _ =>
  match xs, (show xs.length = 4 from hxl) with
  | [y0, y1, y2, y3], _ =>
  have t0 : DataW.trod enc Tryd.prog W 0 (fun _ => true) true n 9 (([c0, c1, c2, c3, c4, c5, c6, c7, c8, c9].drop 0).take (Tryd.prog.cellsOf 9)) = some y0 := hfl 0 _ rfl
  rw [kc9] at t0
  have t1 : DataW.trod enc Tryd.prog W 0 (fun _ => true) true n 22 (([c0, c1, c2, c3, c4, c5, c6, c7, c8, c9].drop 1).take (Tryd.prog.cellsOf 22)) = some y1 := hfl 1 _ rfl
  rw [kc22] at t1
  have t2 : DataW.trod enc Tryd.prog W 0 (fun _ => true) true n 26 (([c0, c1, c2, c3, c4, c5, c6, c7, c8, c9].drop 2).take (Tryd.prog.cellsOf 26)) = some y2 := hfl 2 _ rfl
  rw [kc26] at t2
  have t3 : DataW.trod enc Tryd.prog W 0 (fun _ => true) true n 22 (([c0, c1, c2, c3, c4, c5, c6, c7, c8, c9].drop 9).take (Tryd.prog.cellsOf 22)) = some y3 := hfl 3 _ rfl
  rw [kc22] at t3
  obtain ⟨x0, e0, f0, m0⟩ := DataW.trod_string Tryd.underlying9 t0
  obtain rfl : c0 = _ := by simpa using e0
  obtain ⟨y1d, y1p⟩ := y1
  obtain ⟨y2d, y2p⟩ := y2
  obtain ⟨y3d, y3p⟩ := y3
  obtain ⟨cv, ca, hcv, hca⟩ := crs_cells t1
  obtain rfl : c1 = cv := by simpa using hcv
  obtain ⟨wv, wa, hwv, hwa⟩ := crs_cells t3
  obtain rfl : c9 = wv := by simpa using hwv
  obtain ⟨s, hs, oks⟩ := sh_open t2
  have hd : d = .agg [y0.1, y1d, y2d, y3d] := congrArg Prod.fst hx
  rw [hd] at hb
  simp only [Rows.uptoBulk, Rows.uptoBulkAll] at hb
  refine ⟨x0, c1, c9, s, ca, wa, ?_, oks, hca.upto (by omega), hwa.upto (by omega), by have := hca.b; have := hwa.b; omega⟩
  have hs2 : [c2, c3, c4, c5, c6, c7, c8] = shv s := by simpa using hs
  unfold blv
  rw [← hs2]
  rfl
end Go.Proofs.YtmacmoikjgmaoaaDoor.Bo
