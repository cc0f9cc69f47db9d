import Derived.Test.YtjbkoablleneeaaGreatDoorX16
import Derived.Laws.AppendOwnNone
/- sameEntries, lend, kept -/
namespace Go.Proofs.YtjbkoablleneeaaGreatDoor.Pk
open Go Go.RowKit

theorem eq35 (x : En) (w : World) : (Op.equalIn 10000 35 (.agg #[iv x.kind, .int .u64 x.tick, .int .u64 x.ses, iv x.player, .string (ba x.nm), .string (ba x.fr), .int .u64 x.seq, .string (ba x.dat)]) (.agg #[iv x.kind, .int .u64 x.tick, .int .u64 x.ses, iv x.player, .string (ba x.nm), .string (ba x.fr), .int .u64 x.seq, .string (ba x.dat)])).run Tryz.prog w = .ok true w := by
  rw [show (10000 : Nat) = 9999 + 1 from rfl, run_equalIn_agg w 9999 35 _ _ (by kernel_rfl) (by kernel_rfl)]
  have u3 := Tryz.underlying3
  have g3 := Tryz.isAgg3
  have z3 := Tryz.sizeOf3
  have u9 := Tryz.underlying9
  have a9 := Tryz.isAgg9
  have z9 := Tryz.sizeOf9
  have u33 := Tryz.underlying33
  have a33 := Tryz.isAgg33
  have z33 := Tryz.sizeOf33
  simp only [Program.fieldsOf, Tryz.underlying35]
  go_simp
theorem Es.cells {w : World} {B o n c : Nat} {L : List En} (h : Es w (some ⟨B, o, none⟩) n c L) {i : Nat} {x : En} (hx : L[i]? = some x) : w.rangeAt B (o + i * 8) (en x) := by
  have hi := (List.getElem?_eq_some_iff.1 hx).1
  obtain ⟨B', o', e, hc⟩ := h.at_ (by have := h.len; omega)
  cases e
  exact hc i x hx
set_option maxRecDepth 100000 in
set_option maxHeartbeats 8000000 in
theorem same_c (a1 a2 : Option Addr) (n c1 c2 : Nat) (L : List En) (w : World) (h1 : Es w a1 n c1 L) (h2 : Es w a2 n c2 L) (hn : n ≤ 1073741824) :
    Calls Tryz.prog 12 #[.slice a1 n c1, .slice a2 n c2] w fun e w' => e = .returned (.bool true) ∧ w.grownBy w' none := by
  have HL := Keep.mk (And.intro h1 h2)
  have HQ := Keep.mk h1.len
  clear h1 h2
  go_enter Tryz.func12, Tryz.ntmps12
  go_wp2_with fail
  go_loopw [5] (fun t w' => ∃ i : Nat, i ≤ n ∧ t = .int .i64 i ∧ Keep (w.grownBy w' none)) (fun t _ => n - (intOf t).toNat)
  case atStart => exact ⟨0, by omega, rfl, ⟨World.grownBy.refl _ _⟩⟩
  case round =>
    obtain ⟨i, hi, rfl, hG⟩ := hrel
    by_cases hlt : i < n
    · obtain ⟨x, hx⟩ : ∃ s, L[i]? = some s := ⟨_, List.getElem?_eq_getElem (by rw [HQ.out]; exact hlt)⟩
      obtain ⟨B1, o1, rfl, _⟩ := HL.out.1.at_ (by omega)
      obtain ⟨B2, o2, rfl, _⟩ := HL.out.2.at_ (by omega)
      have HC1 : Keep (∀ W : World, w.grownBy W none → W.cell? ⟨B1, o1 + i * 8, none⟩ = some (iv x.kind) ∧ W.cell? ⟨B1, o1 + i * 8 + 1, none⟩ = some (.int .u64 x.tick) ∧ W.cell? ⟨B1, o1 + i * 8 + 2, none⟩ = some (.int .u64 x.ses) ∧ W.cell? ⟨B1, o1 + i * 8 + 3, none⟩ = some (iv x.player) ∧ W.cell? ⟨B1, o1 + i * 8 + 4, none⟩ = some (.string (ba x.nm)) ∧ W.cell? ⟨B1, o1 + i * 8 + 5, none⟩ = some (.string (ba x.fr)) ∧ W.cell? ⟨B1, o1 + i * 8 + 6, none⟩ = some (.int .u64 x.seq) ∧ W.cell? ⟨B1, o1 + i * 8 + 7, none⟩ = some (.string (ba x.dat))) := ⟨fun W g => by
        have q := (HL.out.1.kept g).cells hx
        exact ⟨q 0 _ rfl, q 1 _ rfl, q 2 _ rfl, q 3 _ rfl, q 4 _ rfl, q 5 _ rfl, q 6 _ rfl, q 7 _ rfl⟩⟩
      have HC2 : Keep (∀ W : World, w.grownBy W none → W.cell? ⟨B2, o2 + i * 8, none⟩ = some (iv x.kind) ∧ W.cell? ⟨B2, o2 + i * 8 + 1, none⟩ = some (.int .u64 x.tick) ∧ W.cell? ⟨B2, o2 + i * 8 + 2, none⟩ = some (.int .u64 x.ses) ∧ W.cell? ⟨B2, o2 + i * 8 + 3, none⟩ = some (iv x.player) ∧ W.cell? ⟨B2, o2 + i * 8 + 4, none⟩ = some (.string (ba x.nm)) ∧ W.cell? ⟨B2, o2 + i * 8 + 5, none⟩ = some (.string (ba x.fr)) ∧ W.cell? ⟨B2, o2 + i * 8 + 6, none⟩ = some (.int .u64 x.seq) ∧ W.cell? ⟨B2, o2 + i * 8 + 7, none⟩ = some (.string (ba x.dat))) := ⟨fun W g => by
        have q := (HL.out.2.kept g).cells hx
        exact ⟨q 0 _ rfl, q 1 _ rfl, q 2 _ rfl, q 3 _ rfl, q 4 _ rfl, q 5 _ rfl, q 6 _ rfl, q 7 _ rfl⟩⟩
      have HEQ := Keep.mk (eq35 x)
      have hi0 : (0 : Int) ≤ (i : Int) := by omega
      have hi1 : (i : Int) < (n : Nat) := by omega
      have hti : ((i : Nat) : Int).toNat = i := by omega
      clear hx
      generalize ba x.nm = NB at HC1 HC2 HEQ
      generalize ba x.fr = FB at HC1 HC2 HEQ
      generalize ba x.dat = DB at HC1 HC2 HEQ
      go_wp2_with fail
      refine wp_region_held_drew (S := fun w' => w.grownBy w' none) (by kernel_rfl) (hG.out.trans (gr_drew _ _)) (fun hHeld => ?_)
      refine wpAnyH_take (i := 0) (oi := _) (v := ?_) rfl (by kernel_rfl) (by kernel_rfl) (by kernel_rfl) (fun _ _ _ h => h) (Or.inl ⟨by rfl, ?_⟩) (by assumption) ?_
      rotate_left
      · (intro w hSw; go_simp; first | done | (with_reducible rfl))
      simp only [Act.put, List.getElem_toArray, List.getElem_cons_zero, List.setIfInBounds_toArray, List.set_cons_zero, List.set_cons_succ]
      refine wpAnyH_take (i := 1) (oi := _) (v := ?_) rfl (by kernel_rfl) (by kernel_rfl) (by kernel_rfl) (fun _ _ _ h => h) (Or.inl ⟨by rfl, ?_⟩) (by assumption) ?_
      rotate_left
      · (intro w hSw; go_simp; first | done | (with_reducible rfl))
      simp only [Act.put, List.getElem_toArray, List.getElem_cons_succ, List.getElem_cons_zero, List.setIfInBounds_toArray, List.set_cons_zero, List.set_cons_succ]
      refine wpAnyH_take (i := 2) (oi := _) (v := ?_) rfl (by kernel_rfl) (by kernel_rfl) (by kernel_rfl) (fun _ _ _ h => h) (Or.inl ⟨by rfl, ?_⟩) (by assumption) ?_
      rotate_left
      · (intro w hSw; go_simp; first | done | (with_reducible rfl))
      simp only [Act.put, List.getElem_toArray, List.getElem_cons_succ, List.getElem_cons_zero, List.setIfInBounds_toArray, List.set_cons_zero, List.set_cons_succ]
      refine wpAnyH_take (i := 3) (oi := _) (v := ?_) rfl (by kernel_rfl) (by kernel_rfl) (by kernel_rfl) (fun _ _ _ h => h) (Or.inl ⟨by rfl, ?_⟩) (by assumption) ?_
      rotate_left
      · (intro w hSw; obtain ⟨y0, y1, y2, y3, y4, y5, y6, y7⟩ := HC1.out w hSw; go_simp; first | done | (with_reducible rfl))
      simp only [Act.put, List.getElem_toArray, List.getElem_cons_succ, List.getElem_cons_zero, List.setIfInBounds_toArray, List.set_cons_zero, List.set_cons_succ]
      refine wpAnyH_take (i := 4) (oi := _) (v := ?_) rfl (by kernel_rfl) (by kernel_rfl) (by kernel_rfl) (fun _ _ _ h => h) (Or.inl ⟨by rfl, ?_⟩) (by assumption) ?_
      rotate_left
      · (intro w hSw; go_simp; first | done | (with_reducible rfl))
      simp only [Act.put, List.getElem_toArray, List.getElem_cons_succ, List.getElem_cons_zero, List.setIfInBounds_toArray, List.set_cons_zero, List.set_cons_succ]
      refine wpAnyH_take (i := 5) (oi := _) (v := ?_) rfl (by kernel_rfl) (by kernel_rfl) (by kernel_rfl) (fun _ _ _ h => h) (Or.inl ⟨by rfl, ?_⟩) (by assumption) ?_
      rotate_left
      · (intro w hSw; go_simp; first | done | (with_reducible rfl))
      simp only [Act.put, List.getElem_toArray, List.getElem_cons_succ, List.getElem_cons_zero, List.setIfInBounds_toArray, List.set_cons_zero, List.set_cons_succ]
      refine wpAnyH_take (i := 6) (oi := _) (v := ?_) rfl (by kernel_rfl) (by kernel_rfl) (by kernel_rfl) (fun _ _ _ h => h) (Or.inl ⟨by rfl, ?_⟩) (by assumption) ?_
      rotate_left
      · (intro w hSw; go_simp; first | done | (with_reducible rfl))
      simp only [Act.put, List.getElem_toArray, List.getElem_cons_succ, List.getElem_cons_zero, List.setIfInBounds_toArray, List.set_cons_zero, List.set_cons_succ]
      refine wpAnyH_take (i := 7) (oi := _) (v := ?_) rfl (by kernel_rfl) (by kernel_rfl) (by kernel_rfl) (fun _ _ _ h => h) (Or.inl ⟨by rfl, ?_⟩) (by assumption) ?_
      rotate_left
      · (intro w hSw; obtain ⟨y0, y1, y2, y3, y4, y5, y6, y7⟩ := HC2.out w hSw; go_simp; first | done | (with_reducible rfl))
      simp only [Act.put, List.getElem_toArray, List.getElem_cons_succ, List.getElem_cons_zero, List.setIfInBounds_toArray, List.set_cons_zero, List.set_cons_succ]
      refine wpAnyH_take (i := 8) (oi := _) (v := .bool false) rfl (by kernel_rfl) (by kernel_rfl) (by kernel_rfl) (fun _ _ _ h => h) (Or.inl ⟨by rfl, ?_⟩) (by assumption) ?_
      · (intro w hSw; have hE := HEQ.out w; go_simp; first | done | (simp; done) | trace_state)
      simp only [Act.put, List.getElem_toArray, List.getElem_cons_succ, List.getElem_cons_zero, List.setIfInBounds_toArray, List.set_cons_zero, List.set_cons_succ]
      refine wpAnyH_done (by kernel_rfl) ?_ _

      have HG := Keep.mk hHeld
      clear hHeld
      go_wp2
      exact ⟨⟨i + 1, by omega, by go_num, HG⟩, by simp only [intOf]; omega⟩
    · have hi1 : ¬ (i : Int) < (n : Nat) := by omega
      go_wp2
      go_ret
      exact ⟨rfl, hG.out⟩
theorem ens_one (L : List En) : ∀ v ∈ ens L, v.oneCell' = true := by
  intro v hv
  obtain ⟨l, hl, hv⟩ := List.mem_flatten.1 hv
  obtain ⟨e, _, rfl⟩ := List.mem_map.1 hl
  exact en_one e v hv
theorem appN {W : World} {base : Nat} {v : Value} {M : List En} (h : Rw W base v M) (a : Addr) (m k : Nat) (B : List En) (hB : B.length = m) (hnews : ∀ (j : Nat) u, (ens B)[j]? = some u → W.cell? (a.add j) = some u) (hn : M.length + m ≤ 10000000) (hb : base ≤ W.heap.size) :
    ∃ v' W', (Builtin.append_ #[22, 22] 22 #[v, .slice (some a) m k]).run Tryz.prog W = .ok v' W' ∧ Rw W' base v' (M ++ B) ∧ W.grownBy W' v.ownBlock := by
  obtain ⟨i, i1, i2, i3, i4⟩ := info35b
  obtain ⟨v', w', r1, r2, r3, _, r5⟩ := run_append_own_at (P := Tryz.prog) W base 22 22 35 i (.agg (en zEn).toArray) 8 88 under22 i1 i4 i2 i3 rfl (by decide) v M.length (ens M) h a m k (ens B) (by rw [ens_len, hB]) hnews (ens_one B) (by unfold maxLen; omega) (by omega) hb
  refine ⟨v', w', r1, ?_, r3⟩
  unfold Rw
  rw [ens_app, List.length_append, hB]; exact r2
theorem Es.news {w : World} {a : Addr} {n c : Nat} {L : List En} (h : Es w (some a) n c L) (j : Nat) (u : Value) (hu : (ens L)[j]? = some u) : w.cell? (a.add j) = some u := by
  have hj : j < L.length * 8 := by have := (List.getElem?_eq_some_iff.1 hu).1; rwa [ens_len] at this
  have hx : j / 8 < L.length := by omega
  obtain ⟨B, o, e, hc⟩ := h.at_ (by have := h.len; omega)
  cases e
  have hr : j % 8 < (en L[j / 8]).length := by rw [en_len]; omega
  have h1 := hc (j / 8) _ (List.getElem?_eq_getElem hx) (j % 8) _ (List.getElem?_eq_getElem hr)
  have h2 := ens_at L (j / 8) _ (List.getElem?_eq_getElem hx) (j % 8) _ (List.getElem?_eq_getElem hr)
  rw [show j / 8 * 8 + j % 8 = j by omega] at h2
  rw [h2] at hu
  cases hu
  rw [Addr.add_mid, ← h1]
  congr 2
  omega
set_option maxRecDepth 100000 in
theorem bs8_two (w : World) : ∀ (cs ds : List Value), cs.length = 8 → ds.length = 8 → (Instr.buildSlice 22 2 #[(0, .agg cs.toArray), (1, .agg ds.toArray)]).run Tryz.prog w = .ok (.slice (some ⟨w.heap.size, 0, none⟩) 2 2) (w.alloc (.cells (cs ++ ds).toArray 35))
  | c0 :: c1 :: c2 :: c3 :: c4 :: c5 :: c6 :: c7 :: [], d0 :: d1 :: d2 :: d3 :: d4 :: d5 :: d6 :: d7 :: [], _, _ => by kernel_rfl
theorem wpList_bs2 {P : Program} {w : World} {ops : Array Oper} {rest : List Oper} {o : Oper} {a : Act} {Q : Exit → Act → World → Prop} (hgd : o.guard = none) (x y : Operand) (t : TypeId)
    (ho : o.op = .buildSlice t 2 #[(0, x), (1, y)]) (v u : Value) (hx : a.eval x = v) (hy : a.eval y = u) {v' : Value} {w' : World}
    (hr : (Instr.buildSlice t 2 #[(0, v), (1, u)]).run P w = .ok v' w') (h : wpList P ops Q rest (a.put o.dst v') w') : wpList P ops Q (o :: rest) a w :=
  wpList_plain hgd fun _ hK => by
    unfold Oper.wp execOp
    simp only [ho, Sem.run_bind, Sem.run_pure, Result.andThen_ok, List.map_toArray, List.map_cons, List.map_nil, hx, hy, hr]
    exact hK _ _ h
theorem wpList_build {P : Program} {w : World} {ops : Array Oper} {rest : List Oper} {o : Oper} {a : Act} {Q : Exit → Act → World → Prop} (hgd : o.guard = none) (t : TypeId) (parts : Array (Nat × Operand))
    (ho : o.op = .build t parts) (cells : Array Value) (hb : P.built t (parts.map fun (i, x) => (i, a.eval x)).toList = some cells) (h : wpList P ops Q rest (a.put o.dst (.agg cells)) w) : wpList P ops Q (o :: rest) a w :=
  wpList_plain hgd fun _ hK => by
    unfold Oper.wp execOp
    simp only [ho, Sem.run_bind, run_build w t _ cells hb, Result.andThen_ok]
    exact hK _ _ h
def m77 : En := ⟨77, 0, 0, 0, [], [], 0, []⟩
def m78 : En := ⟨78, 0, 0, 0, [], [], 0, []⟩
set_option maxRecDepth 100000 in
theorem built77 : Tryz.prog.built 35 [(0, iv 77)] = some (en m77).toArray := by kernel_rfl
set_option maxRecDepth 100000 in
theorem built78 : Tryz.prog.built 35 [(0, iv 78)] = some (en m78).toArray := by kernel_rfl
theorem sl22 (a : Option Addr) (n c p : Nat) (hp : p ≤ c) (W : World) : (Instr.slice 22 (.slice a n c) none (some (.int .i64 (p : Int))) none).run Tryz.prog W = .ok (.slice a p c) W := by
  have z : (sizeOf (Tryz.prog.elem 22)).run Tryz.prog W = .ok 8 W := by kernel_rfl
  rw [run_slice_h W 22 a n c (by kernel_rfl) .i64 p (by omega) (by omega), z]
  have e : a.map (·.add (0 * 8)) = a := by cases a <;> simp [add_zero']
  simp only [Result.andThen, sliced, e, Int.toNat_natCast, Nat.sub_zero, ite_self]
set_option maxRecDepth 100000 in
set_option maxHeartbeats 8000000 in
theorem lend_c (a : Option Addr) (n c : Nat) (L : List En) (w : World) (hE : Es w a n c L) (hz : a = none → c = 0) (hn : n ≤ 1048576) :
    Calls Tryz.prog 7 #[.slice a n c] w fun e w' => ∃ g q, e = .returned (.slice (some ⟨g, 0, none⟩) n q) ∧ w.grownBy w' none ∧ Es w' (some ⟨g, 0, none⟩) (n + 2) q (L ++ [m77, m78]) := by
  have S0 : Rw w w.heap.size (.slice none 0 0) [] := Rw.nil _ _
  obtain ⟨v1, W1, r1, s1, g1⟩ : ∃ v1 W1, (Builtin.append_ #[22, 22] 22 #[.slice none 0 0, .slice a n c]).run Tryz.prog w = .ok v1 W1 ∧ Rw W1 w.heap.size v1 L ∧ w.grownBy W1 none := by
    cases a with
    | none =>
      have hc := hz rfl
      have hn0 : n = 0 := by have := hE.cap; omega
      have hnil : L = [] := List.eq_nil_of_length_eq_zero (by rw [hE.len]; exact hn0)
      obtain ⟨i, i1, _⟩ := info35b
      have := run_append_owned_none (P := Tryz.prog) (w := w) 0 22 22 35 i 8 under22 i1 _ _ _ (Rw.nil w 0)
      rw [hc, hn0, hnil]
      exact ⟨_, _, this, S0, World.grownBy.refl _ _⟩
    | some ad =>
      obtain ⟨v', W', q1, q2, q3⟩ := appN S0 ad n c L hE.len (hE.news) (by simp; omega) (Nat.le_refl _)
      exact ⟨v', W', q1, by simpa using q2, q3⟩
  have hh := Has.newA W1 (en m77 ++ en m78).toArray 35
  have s1' := s1.kept (World.grownBy_alloc W1 (.cells (en m77 ++ en m78).toArray 35) none)
  have hl1 := hE.len
  obtain ⟨v2, W2, r2, s2, g2⟩ := appN s1' ⟨W1.heap.size, 0, none⟩ 2 2 [m77, m78] rfl (fun j u hu => by
    rw [Addr.add_mid, Nat.zero_add]
    exact hh.cellv j u (by simpa [ens] using hu)) (by omega) (by rw [heap1]; have := g1.size; omega)
  obtain ⟨av, q, e2, hEs, _⟩ := s2.es
  have hl2 : (L ++ [m77, m78]).length = n + 2 := by simp [hl1]
  rw [hl2] at e2 hEs
  obtain ⟨B, o, e3, _⟩ := hEs.at_ (by omega)
  have e4 : o = 0 := by
    obtain ⟨_, h2⟩ := s2
    rcases h2 with ⟨q1, _⟩ | ⟨g, cap, cur, q1, _⟩
    · rw [e2, e3] at q1; injection q1 with z1; cases z1
    · rw [e2, e3] at q1; injection q1 with z1; injection z1 with z2; injection z2 with z3 z4
  subst e3 e4 e2
  have hg : w.grownBy W2 none := fr_mine (g1.trans (World.grownBy_alloc W1 (.cells (en m77 ++ en m78).toArray 35) none)) (Fr.of g2) (fun _ z => (s1'.own z).1)
  have HF := Keep.mk (And.intro hg hEs)
  have hsl := sl22 (some ⟨B, 0, none⟩) (n + 2) q n (by have := hEs.cap; omega)
  have hnq : (n : Int) ≤ (q : Int) := by have := hEs.cap; omega
  have AP1 := Keep.mk r1
  have AP2 : Keep ((Builtin.append_ #[22, 22] 22 #[v1, .slice (some ⟨W1.heap.size, 0, none⟩) 2 2]).run Tryz.prog (W1.alloc (.cells #[Value.int IntKind.i64 77, Value.int IntKind.u64 0, Value.int IntKind.u64 0, Value.int IntKind.i64 0, Value.string { data := #[] }, Value.string { data := #[] }, Value.int IntKind.u64 0, Value.string { data := #[] }, Value.int IntKind.i64 78, Value.int IntKind.u64 0, Value.int IntKind.u64 0, Value.int IntKind.i64 0, Value.string { data := #[] }, Value.string { data := #[] }, Value.int IntKind.u64 0, Value.string { data := #[] }] 35)) = .ok (.slice (some ⟨B, 0, none⟩) (n + 2) q) W2) := ⟨r2⟩
  clear r1 r2 s1 s2 s1' g1 g2 hg hEs S0 hE hh
  go_enter Tryz.func7, Tryz.ntmps7
  go_wp2_with (first
    | (show wpList _ _ _ ({ dst := some 5, op := Op.call { callee := Callee.builtin Builtin.append, args := _, argTypes := _ }, type := _, pos := _, after := _, guard := _ } :: _) _ _
       refine wpList_append_run2 _ rfl _ _ 22 22 rfl _ _ rfl rfl AP1.out ?_)
    | (show wpList _ _ _ ({ dst := some 10, op := Op.call { callee := Callee.builtin Builtin.append, args := _, argTypes := _ }, type := _, pos := _, after := _, guard := _ } :: _) _ _
       refine wpList_append_run2 _ rfl _ _ 22 22 rfl _ _ rfl rfl AP2.out ?_))
  go_ret
  exact ⟨B, q, rfl, HF.out.1, HF.out.2⟩
end Go.Proofs.YtjbkoablleneeaaGreatDoor.Pk

