/- scripts as they are handed in. -/
import Derived.Test.YtkaakbldkicnaaaK0
import Derived.Test.YtkaakbldkicnaaaR3
namespace Go.Proofs.Ytkaakbldkicnaaa
open Go Go.ChangeShapes Go.WideShapes Go.ChangeAt Go.RowKit

theorem cells62 : Try.prog.cellsOf 62 = 5 := by kernel_rfl
theorem cells51 : Try.prog.cellsOf 51 = 1 := by kernel_rfl
theorem add_plain (b o i : Nat) : (⟨b, o, none⟩ : Addr).add i = ⟨b, o + i, none⟩ := by simp [Addr.add]
theorem bulk_pos {H : Type} (d : DataW H) : 1 ≤ Rows.uptoBulk d := by
  cases d with
  | lit l => cases l <;> simp [Rows.uptoBulk]
  | _ => simp [Rows.uptoBulk]
theorem bulk_range {H : Type} (D : Nat → DataW H) (c : Nat → Nat) : ∀ n, (∀ i, i < n → c i ≤ Rows.uptoBulk (D i)) → ((List.range n).map c).sum ≤ Rows.uptoBulkAll ((List.range n).map D) ∧ n ≤ Rows.uptoBulkAll ((List.range n).map D) := by
  have happ : ∀ a b : List (DataW H), Rows.uptoBulkAll (a ++ b) = Rows.uptoBulkAll a + Rows.uptoBulkAll b := by
    intro a b
    induction a with
    | nil => simp [Rows.uptoBulkAll]
    | cons x r ih => simp only [List.cons_append, Rows.uptoBulkAll, ih]; omega
  intro n
  induction n with
  | zero => intro _; simp
  | succ n ih =>
    intro h
    obtain ⟨h1, h2⟩ := ih (fun i hi => h i (by omega))
    have h3 := h n (by omega)
    have h4 := bulk_pos (D n)
    rw [List.range_succ, List.map_append, List.map_append, happ, List.sum_append]
    simp only [List.map_cons, List.map_nil, List.sum_cons, List.sum_nil, Rows.uptoBulkAll]
    omega
section
variable {H : Type} {enc : TypeId × Value → H} {W : World}
def OpO (H : Type) (enc : TypeId × Value → H) (W : World) (m : Nat) : Prop := ∀ (fuel : Nat) (cs : List Value) (x : DataW H × List MemPlace), DataW.trod enc Try.prog W 0 (fun _ => true) true fuel 62 cs = some x → Rows.uptoBulk x.1 ≤ 1048576 → ∃ c, OpV W m cs c ∧ c ≤ Rows.uptoBulk x.1
theorem ops_of {m : Nat} (hO : OpO H enc W m) {fuel : Nat} {cs : List Value} {x : DataW H × List MemPlace} (hf : DataW.trod enc Try.prog W 0 (fun _ => true) true fuel 51 cs = some x) (hb : Rows.uptoBulk x.1 ≤ 1048576) :
    ∃ (a0 : Option Addr) (n cap : Nat) (cnt : List Nat), cs = [.slice a0 n cap] ∧ cnt.length = n ∧ n ≤ Rows.uptoBulk x.1 ∧ cnt.sum + 1 ≤ Rows.uptoBulk x.1 ∧
      (0 < n → ∃ B o, a0 = some ⟨B, o, none⟩ ∧ ∀ j cj, cnt[j]? = some cj → ∃ vj, W.rangeAt B (o + j * 5) vj ∧ OpV W m vj cj) := by
  rcases Deep.open_slice Try.underlying51 hf with ⟨hcs, hx⟩ | ⟨a, len, cap, mm, n, D, Pl, hcs, _, hl, hm, hmm, hx, hel⟩
  · exact ⟨none, 0, 0, [], hcs, rfl, Nat.zero_le _, by rw [hx]; simp [Rows.uptoBulk], fun h => absurd h (by omega)⟩
  · simp only [if_true] at hmm
    have hx1 : x.1 = .slice ((List.range len).map D) ((List.range (mm - len)).map fun j => D (len + j)) := by rw [hx]
    have hbD : ∀ i, i < len → Rows.uptoBulk (D i) + 1 ≤ Rows.uptoBulk x.1 := by
      intro i hi
      have happ : ∀ (l : List (DataW H)) (d : DataW H), d ∈ l → Rows.uptoBulk d ≤ Rows.uptoBulkAll l := by
        intro l d hd
        induction l with
        | nil => cases hd
        | cons y r ih =>
          simp only [Rows.uptoBulkAll]
          rcases List.mem_cons.1 hd with rfl | hd
          · omega
          · have := ih hd; omega
      have := happ ((List.range len).map D) (D i) (List.mem_map.2 ⟨i, List.mem_range.2 hi, rfl⟩)
      rw [hx1]
      simp only [Rows.uptoBulk]
      omega
    have each : ∀ i, i < len → ∃ q : Nat × List Value, OpV W m q.2 q.1 ∧ q.1 ≤ Rows.uptoBulk (D i) ∧ q.2.length = 5 ∧ ∀ j, j < 5 → W.cell? (a.add (i * 5 + j)) = q.2[j]? := by
      intro i hi
      obtain ⟨cs', h1, h2⟩ := hel i (by omega)
      rw [cells62] at h1
      obtain ⟨_, hlen, hcell⟩ := World.cells?_some h1
      obtain ⟨c, hv, hc⟩ := hO n cs' (D i, Pl i) h2 (by have := hbD i hi; simp only; omega)
      exact ⟨(c, cs'), hv, hc, hlen, fun j hj => by have := hcell j (by omega); rw [Deep.add_add] at this; exact this⟩
    obtain ⟨q, hq⟩ := Deep.choose_lt each
    obtain ⟨s1, s2⟩ := bulk_range D (fun i => (q i).1) len (fun i hi => (hq i hi).2.1)
    have hxb : Rows.uptoBulkAll ((List.range len).map D) + 1 ≤ Rows.uptoBulk x.1 := by
      rw [hx1]
      simp only [Rows.uptoBulk]
      omega
    refine ⟨some a, len, cap, (List.range len).map fun i => (q i).1, hcs, by simp, by omega, by omega, fun hn => ?_⟩
    obtain ⟨b, off, spot⟩ := a
    have h50 := (hq 0 hn).2.2.2 0 (by omega)
    have hspot : spot = none := by
      have h5 := (hq 0 hn).2.2.1
      rw [List.getElem?_eq_getElem (by omega)] at h50
      simpa [Addr.add] using World.cell?_spot h50
    subst hspot
    refine ⟨b, off, rfl, fun j cj hj => ?_⟩
    have hj2 : j < len := by
      have := (List.getElem?_eq_some_iff.1 hj).1
      simpa using this
    have e : (q j).1 = cj := by
      rw [List.getElem?_map, List.getElem?_range hj2] at hj
      simpa using hj
    obtain ⟨v1, v2, v3, v4⟩ := hq j hj2
    refine ⟨(q j).2, fun i v hv => ?_, by rw [← e]; exact v1⟩
    have hi5 : i < 5 := by have := (List.getElem?_eq_some_iff.1 hv).1; omega
    have := v4 i hi5
    rw [add_plain, hv] at this
    rw [Nat.add_assoc]
    exact this
set_option maxRecDepth 100000 in
theorem op_open : ∀ m, OpO H enc W m := by
  have form : ∀ (fuel : Nat) (cs : List Value) (x : DataW H × List MemPlace), DataW.trod enc Try.prog W 0 (fun _ => true) true fuel 62 cs = some x → ∃ (k a : Int) (key : ByteArray) (y : Int) (inn : Value) (n : Nat) (z : DataW H × List MemPlace), cs = [iv k, iv a, .string key, iv y, inn] ∧ DataW.trod enc Try.prog W 0 (fun _ => true) true n 51 [inn] = some z ∧ key.size + Rows.uptoBulk z.1 + 1 ≤ Rows.uptoBulk x.1 := by
    intro fuel cs x h
    obtain ⟨xs, n, _, hx, hl, hlen, hf⟩ := DataW.trod_struct Try.underlying62 h
    rw [cells62] at hl
    match cs, hl with
    | [c0, c1, c2, c3, c4], _ =>
    match xs, hlen with
    | [y0, y1, y2, y3, y4], _ =>
      have t0 : DataW.trod enc Try.prog W 0 (fun _ => true) true n 3 (List.take (Try.prog.cellsOf 3) [c0, c1, c2, c3, c4]) = some y0 := hf 0 _ rfl
      have t1 : DataW.trod enc Try.prog W 0 (fun _ => true) true n 3 (List.take (Try.prog.cellsOf 3) [c1, c2, c3, c4]) = some y1 := hf 1 _ rfl
      have t2 : DataW.trod enc Try.prog W 0 (fun _ => true) true n 9 (List.take (Try.prog.cellsOf 9) [c2, c3, c4]) = some y2 := hf 2 _ rfl
      have t3 : DataW.trod enc Try.prog W 0 (fun _ => true) true n 3 (List.take (Try.prog.cellsOf 3) [c3, c4]) = some y3 := hf 3 _ rfl
      have t4 : DataW.trod enc Try.prog W 0 (fun _ => true) true n 51 (List.take (Try.prog.cellsOf 51) [c4]) = some y4 := hf 4 _ rfl
      rw [cells3] at t0 t1 t3
      rw [cells9] at t2
      rw [cells51] at t4
      simp only [List.take_succ_cons, List.take_zero] at t0 t1 t2 t3 t4
      obtain ⟨z0, e0, _⟩ := DataW.trod_int Try.underlying3 t0
      obtain ⟨z1, e1, _⟩ := DataW.trod_int Try.underlying3 t1
      obtain ⟨z2, e2, x2, _⟩ := DataW.trod_string Try.underlying9 t2
      obtain ⟨z3, e3, _⟩ := DataW.trod_int Try.underlying3 t3
      simp at e0 e1 e2 e3
      subst e0 e1 e2 e3
      refine ⟨z0, z1, z2, z3, c4, n, y4, rfl, t4, ?_⟩
      rw [hx, x2]
      simp only [List.map_cons, List.map_nil, Rows.uptoBulk, Rows.uptoBulkAll, sl_len]
      omega
  intro m
  induction m with
  | zero =>
    intro fuel cs x h hb
    obtain ⟨k, a, key, y, inn, n, z, rfl, hz, hbz⟩ := form fuel cs x h
    exact ⟨1, ⟨k, a, key, y, inn, rfl, by omega, Nat.le_refl _⟩, by omega⟩
  | succ m ih =>
    intro fuel cs x h hb
    obtain ⟨k, a, key, y, inn, n, z, rfl, hz, hbz⟩ := form fuel cs x h
    obtain ⟨a0, ni, ci, cnt, e, h1, h2, h3, h4⟩ := ops_of ih hz (by omega)
    injection e with e
    subst e
    exact ⟨cnt.sum + 1, ⟨k, a, key, y, a0, ni, ci, cnt, rfl, by omega, h1, by omega, Nat.le_refl _, h4⟩, by omega⟩
end
end Go.Proofs.Ytkaakbldkicnaaa
