/- grid: things are sorted. -/
import Derived.Test.YtidpafmhmhojmaaH5
namespace Go.Proofs.Ytidpafmhmhojmaa
open Go Go.RowKit Go.Shelf Go.Lib Go.Sort

theorem Sep.rowBox {w0 W : World} {l : List As} {e : TypeId} {s g n c : Nat} {xs : List Value} {b : Nat} {cs : List Value} {t : TypeId} (h : Sep w0 W (rowV e s (sl g n c) n xs :: l)) (hm : boxA b cs t ∈ l) : b ≠ g := by
  obtain ⟨m, hm1, hp, hd⟩ := h.ex
  cases m with
  | nil => cases hm1
  | cons o m =>
    simp only [List.map_cons, List.cons.injEq] at hm1
    obtain ⟨e1, rfl⟩ := hm1
    obtain ⟨q, hq, e2⟩ := List.mem_map.1 hm
    have h1 := (hp o (List.mem_cons_self ..)).1
    have h2 := (hp q (List.mem_cons_of_mem _ hq)).1
    rw [e1] at h1
    rw [e2] at h2
    have h3 := (List.pairwise_cons.1 hd).1 q hq g
    rw [h1.2, h2.2] at h3
    exact fun e => h3 rfl e.symm
theorem heap_sort {α : Type} [Inhabited α] (enc : α → Value) (W : World) (g m : Nat) (d : Array α) (os : Array Obj) {b : Nat} (hb : b < W.heap.size) (hg : b ≠ g) : (sortWorld enc W g 0 m d os).heap[b]? = W.heap[b]? := by
  unfold sortWorld
  rw [heap_grow_old _ _ (by simpa [putRow, mapBlock, ahead] using hb)]
  unfold putRow mapBlock
  simp only [Array.getElem?_modify]
  rw [if_neg (Ne.symm hg)]
  rfl
theorem own_sort {α : Type} [Inhabited α] {lo : Nat} {W : World} {e : TypeId} {g n c m : Nat} {xs : List Value} (enc : α → Value) (d : Array α) (os : Array Obj) (h : W.ownsRow lo e 1 (sl g n c) n xs) (hd : d.size = n) :
    (sortWorld enc W g 0 m d os).ownsRow lo e 1 (sl g n c) n (d.toList.map enc) := by
  obtain ⟨h1, h2⟩ := h
  refine ⟨by simp [hd], ?_⟩
  rcases h2 with ⟨h2, _⟩ | ⟨g', cap, cur, hv, hb, hheap, h3, h4, h5, h6⟩
  · cases h2
  · injection hv with e1 e2 e3
    cases e1
    refine .inr ⟨g, c, putCells enc 0 d cur, rfl, hb, ?_, by omega, by omega, ?_, ?_⟩
    · unfold sortWorld
      have hlt : g < W.heap.size := (Array.getElem?_eq_some_iff.1 hheap).1
      rw [heap_grow_old _ _ (by simpa [putRow, mapBlock, ahead] using hlt)]
      unfold putRow mapBlock
      simp only [Array.getElem?_modify]
      rw [if_pos trivial]
      show Option.map (onCells (putCells enc 0 d)) W.heap[g]? = _
      rw [hheap]
      rfl
    · unfold putCells
      rw [Array.size_mapIdx, h5, e3]
    · have hcs : n ≤ cur.size := by omega
      apply List.ext_getElem?
      intro i
      rw [List.getElem?_take]
      by_cases hi : i < n
      · rw [if_pos (by omega)]
        unfold putCells
        rw [Array.getElem?_toList, Array.getElem?_mapIdx, Array.getElem?_eq_getElem (by omega)]
        simp only [Option.map_some, Nat.zero_le, true_and, Nat.zero_add, hd, hi, if_true, Nat.sub_zero]
        rw [List.getElem?_map, Array.getElem?_toList, Array.getElem?_eq_getElem (by omega), getElem!_pos d i (by omega)]
        rfl
      · rw [if_neg (by omega), List.getElem?_eq_none (by simp; omega)]
theorem Sep.sorted {α : Type} [Inhabited α] {w0 W : World} {l : List As} {e : TypeId} {g n c m : Nat} {xs : List Value} (enc : α → Value) (d : Array α) (os : Array Obj) (h : Sep w0 W (rowV e 1 (sl g n c) n xs :: l)) (hd : d.size = n) : Sep w0 (sortWorld enc W g 0 m d os) (rowV e 1 (sl g n c) n (d.toList.map enc) :: l) := by
  obtain ⟨F, ⟨h1, rfl⟩, _, hu⟩ := h.use
  refine hu _ [_] ?_ (Loc.one (a := rowV _ _ _ _ _) _ ⟨own_sort enc d os h1 hd, rfl⟩ (fun i hi => .inl hi))
  exact ⟨rfl, rfl, rfl, by simp [sortWorld, grow, putRow, mapBlock], fun i hi hs => heap_sort enc W g m d os hi (fun e => hs (by rw [e]; rfl))⟩
theorem sort_none (w : World) (p : Option Addr) (cap : Nat) (fv : Value) : Calls Try.prog 43 #[.slice p 0 cap, fv] w fun e w' => e = .returned (.tuple #[]) ∧ w' = w :=
  AnyF.slices_SortFunc_none (P := Try.prog) (ρ := Try.sortTh_ren) { Try.sortTh with } p cap fv w
theorem sort_some (w0 W : World) (l : List As) (g n c kb : Nat) (N : List Tg) (cf : Tg → Tg → Int) (hO : SWO (ltOf cf)) (hn : N.length = n) (hn0 : 0 < n) (hn1 : n < 4611686018427387904)
    (hcmp : ∀ W' : World, (∀ b, b < W.heap.size → b ≠ g → W'.heap[b]? = W.heap[b]?) → ∀ t ∈ N, ∀ u ∈ N, Calls Try.prog 44 #[pt t.b, pt u.b, pt kb] W' fun e w' => e = .returned (iv (cf t u)) ∧ Gw W' w')
    (h : Sep w0 W (rowV 57 1 (sl g n c) n (N.map (fun t => pt t.b)) :: l)) :
    Calls Try.prog 43 #[sl g n c, .func (.func 44) #[] #[pt kb]] W fun e W' => e = .returned (.tuple #[]) ∧ ∃ N' : List Tg, N'.Perm N ∧ N'.Pairwise (fun a b => ltOf cf b a = false) ∧ Sep w0 W' (rowV 57 1 (sl g n c) n (N'.map (fun t => pt t.b)) :: l) := by
  obtain ⟨_, hl, hce⟩ := own_cap (h.rowGet k0m)
  have hblk : g < W.heap.size := by
    obtain ⟨_, h2⟩ := h.rowGet k0m
    rcases h2 with ⟨q, _⟩ | ⟨g', cap, cur, q, _, hh, _⟩
    · cases q
    · injection q with e1 e2 e3
      cases e1
      exact (Array.getElem?_eq_some_iff.1 hh).1
  obtain ⟨t0, ht0⟩ : ∃ t0, t0 ∈ N := by
    cases N with
    | nil => simp at hn; omega
    | cons t0 _ => exact ⟨t0, List.mem_cons_self ..⟩
  haveI : Inhabited { t : Tg // t ∈ N } := ⟨⟨t0, ht0⟩⟩
  have hH : Holds (fun x : { t : Tg // t ∈ N } => pt x.1.b) W g 0 N.attach.toArray := by
    intro j hj
    have hj' : j < N.length := by simpa using hj
    have := hce j (pt (N[j]).b) (by rw [List.getElem?_map, List.getElem?_eq_getElem hj']; rfl)
    rw [Nat.zero_add]
    rw [getElem!_pos _ j hj]
    simpa using this
  have eg : ∀ args w, (callFunc 44 args).run Try.prog w = .ok (.enter 44 args) w := enters_of Try.func44 (by kernel_rfl) rfl
  have hO2 : SWO (ltOf (fun x y : { t : Tg // t ∈ N } => cf x.1 y.1)) := ⟨fun x => hO.irrefl x.1, fun x y z => hO.trans x.1 y.1 z.1, fun x y z => hO.ntrans x.1 y.1 z.1⟩
  have hsz : N.attach.toArray.size = n := by simp [hn]
  have hcon := Any.slices_SortFunc Try.sortTh (fun x : { t : Tg // t ∈ N } => pt x.1.b) (fun _ => rfl) (fun x y => cf x.1 y.1) hO2 44 #[pt kb] g 0 c N.attach.toArray W eg (fun m os dk _ x y => by
      refine (hcmp _ (fun b hb hg => heap_sort _ W g m dk os hb hg) x.1 x.2 y.1 y.2).mono ?_
      rintro e w' ⟨rfl, hg⟩
      exact ⟨rfl, hg.is_grow⟩) hH hblk (by rw [hsz]; exact hn1)
  rw [hsz] at hcon
  change Calls Try.prog 43 _ _ _ at hcon
  refine hcon.mono ?_
  rintro e W' ⟨rfl, d', m, os, hp, hs, rfl⟩
  obtain ⟨hp1, _, hp2⟩ := hp
  have hd : d'.size = n := by rw [hp1, hsz]
  have hpm : d'.toList.Perm N.attach := by
    rw [show d'.extract 0 n = d' by rw [← hd]; simp, show N.attach.toArray.extract 0 n = N.attach.toArray by rw [← hsz, Array.extract_size]] at hp2
    exact hp2
  refine ⟨rfl, d'.toList.map Subtype.val, ?_, ?_, ?_⟩
  · have := hpm.map Subtype.val
    rwa [List.attach_map_subtype_val] at this
  · rw [List.pairwise_map, List.pairwise_iff_getElem]
    intro i j hi hj hij
    have hi' : i < d'.size := by simpa using hi
    have hj' : j < d'.size := by simpa using hj
    have := hs i j (Nat.zero_le _) hij (by omega)
    rw [getElem!_pos d' i hi', getElem!_pos d' j hj'] at this
    simp only [Array.getElem_toList]
    exact this
  · have := h.sorted (m := m) (fun x : { t : Tg // t ∈ N } => pt x.1.b) d' os hd
    rw [List.map_map]
    exact this
end Go.Proofs.Ytidpafmhmhojmaa
