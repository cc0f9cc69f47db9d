/- for the row of ViewFaces: asks as they are handed in -/
import Derived.Test.YtgedlabmndlooaaGreatK0
import Derived.Test.YtgedlabmndlooaaGreatN6
namespace Go.Proofs.YtgedlabmndlooaaGreat
open Go Go.ChangeShapes Go.WideShapes Go.ChangeAt Go.RowKit

instance : Inhabited Ask := ⟨⟨0, 0, 0⟩⟩
theorem kc39 : Tryz.prog.cellsOf 39 = 3 := by kernel_rfl
set_option maxRecDepth 100000 in
theorem ask_cells {H : Type} {enc : TypeId × Value → H} {W : World} {fuel : Nat} {l : List Value} {d : DataW H} {pl : List MemPlace} (hf : DataW.trod enc Tryz.prog W 0 (fun _ => true) true fuel 39 l = some (d, pl)) : ∃ a : Ask, l = askv a ∧ True := by
  obtain ⟨xs, n, _, hx, hlen0, hxl, hfl⟩ := DataW.trod_struct Tryz.underlying39 hf
  have hlen : l.length = 3 := hlen0.trans (by kernel_rfl)
  clear hf hlen0 hx
  match l, hlen with
  | [c0, c1, c2], _ =>
  match xs, (show xs.length = 3 from hxl) with
  | [y0, y1, y2], _ =>
  have t0 : DataW.trod enc Tryz.prog W 0 (fun _ => true) true n 3 (([c0, c1, c2].drop 0).take (Tryz.prog.cellsOf 3)) = some y0 := hfl 0 _ rfl
  rw [kc3] at t0
  have t1 : DataW.trod enc Tryz.prog W 0 (fun _ => true) true n 3 (([c0, c1, c2].drop 1).take (Tryz.prog.cellsOf 3)) = some y1 := hfl 1 _ rfl
  rw [kc3] at t1
  have t2 : DataW.trod enc Tryz.prog W 0 (fun _ => true) true n 3 (([c0, c1, c2].drop 2).take (Tryz.prog.cellsOf 3)) = some y2 := hfl 2 _ rfl
  rw [kc3] at t2
  obtain ⟨x0, e0, f0, m0⟩ := DataW.trod_int Tryz.underlying3 t0
  obtain rfl : c0 = _ := by simpa using e0
  obtain ⟨x1, e1, f1, m1⟩ := DataW.trod_int Tryz.underlying3 t1
  obtain rfl : c1 = _ := by simpa using e1
  obtain ⟨x2, e2, f2, m2⟩ := DataW.trod_int Tryz.underlying3 t2
  obtain rfl : c2 = _ := by simpa using e2
  exact ⟨⟨x0, x1, x2⟩, rfl, trivial⟩
set_option maxRecDepth 100000 in
theorem asks_open {H : Type} {enc : TypeId × Value → H} {W : World} {base fuel : Nat} {v : Value} {d : DataW H} {pl : List MemPlace} (hv : Value.okWide Tryz.prog W .any base 66 v) (hf : DataW.trod enc Tryz.prog W 0 (fun _ => true) true fuel 66 v.cells.toList = some (d, pl)) :
    ∃ AL : List Ask, Ls askv 3 W v AL ∧ AL.length + 1 ≤ Rows.uptoBulk d := by
  obtain ⟨a, n, c, rfl⟩ := okWide_slice Tryz.underlying66 hv
  obtain ⟨v', AL, h1, h2, _, h4⟩ := lst_cells (α := Ask) (ec := askv) (k := 3) (Ok := fun _ => True) Tryz.underlying66 kc39 (by decide) askv_len (fun f cs d' pl' hq hb' => ask_cells hq) hf
  have h1 : [Value.slice a n c] = [v'] := h1
  injection h1 with h1
  subst h1
  exact ⟨AL, h2, h4⟩
end Go.Proofs.YtgedlabmndlooaaGreat
