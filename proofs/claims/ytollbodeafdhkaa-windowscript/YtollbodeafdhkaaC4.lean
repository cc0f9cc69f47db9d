/- rows of the call's own; the reference's Mark. -/
import Derived.Test.YtollbodeafdhkaaC2
import Derived.Maps.AppendAt
namespace Go.Proofs.Ytollbodeafdhkaa
open Go Go.RowKit
theorem own_fr {S : Nat → Prop} {b : Nat} {w w' : World} {e : TypeId} {s : Nat} {v : Value} {n : Nat} {xs : List Value} (h : w.ownsRow b e s v n xs) (f : Fr S w w') (hs : ∀ k, v.ownBlock = some k → ¬ S k) : w'.ownsRow b e s v n xs := by
  have hl := h.lt
  obtain ⟨h1, h2⟩ := h
  refine ⟨h1, ?_⟩
  rcases h2 with h2 | ⟨g, cap, cur, rfl, a, b, c⟩
  · exact .inl h2
  · exact .inr ⟨g, cap, cur, rfl, a, by rw [f.block g (hl g rfl).2 (hs g rfl), b], c⟩
/-- cells of a row of the call's own -/
theorem own_cell {lo : Nat} {W : World} {e : TypeId} {s : Nat} {v : Value} {n : Nat} {xs : List Value} (h : W.ownsRow lo e s v n xs) (hn : 0 < n) : ∃ g c, v = .slice (some ⟨g, 0, none⟩) n c ∧ ∀ (k : Nat) t, xs[k]? = some t → W.cell? ⟨g, k, none⟩ = some t ∧ W.frozen? ⟨g, k, none⟩ = false := by
  obtain ⟨h1, h2⟩ := h
  rcases h2 with ⟨_, h0⟩ | ⟨g, cap, cur, rfl, hb, hheap, h3, h4, h5, h6⟩
  · omega
  · refine ⟨g, cap, rfl, fun k t ht => ?_⟩
    have hk : k < xs.length := (List.getElem?_eq_some_iff.1 ht).1
    rw [← h6, List.getElem?_take, if_pos (by omega)] at ht
    constructor
    · simp only [World.cell?, hheap]
      simpa using ht
    · simp [World.frozen?, hheap]
/-- one thing more -/
theorem own_app {w0 w : World} {t e : TypeId} {i : TypeInfo} {z : Value} {s bytes : Nat} (ht : Try.prog.underlying t = some (.slice e)) (hi : Try.prog.info? e = some i) (hz : i.zero = some z) (hs : i.size = s) (hby : i.bytes = bytes) (hzs : z.cells.size = s) (hs0 : 0 < s)
    {v : Value} {n : Nat} {xs : List Value} (h : w.ownsRow w0.heap.size e s v n xs) (cs : List Value) (hcs : cs.length = s) (h1 : ∀ u ∈ cs, u.oneCell' = true) (hsz : (n + 1) * bytes ≤ 140737488355328) (hb0 : 0 < bytes) (hw : w0.heap.size ≤ w.heap.size) :
    ∃ g c w3, (Builtin.append_ #[t, t] t #[v, .slice (some ⟨w.heap.size, 0, none⟩) 1 1]).run Try.prog (w.alloc (.cells cs.toArray e)) = .ok (.slice (some ⟨g, 0, none⟩) (n + 1) c) w3 ∧ w3.ownsRow w0.heap.size e s (.slice (some ⟨g, 0, none⟩) (n + 1) c) (n + 1) (xs ++ cs) ∧ w.grownBy w3 v.ownBlock ∧ (v.ownBlock = some g ∨ w.heap.size ≤ g) := by
  have ga := World.grownBy_alloc w (.cells cs.toArray e) none
  have ga2 := World.grownBy_alloc w (.cells cs.toArray e) v.ownBlock
  have hn := Has.new w cs e
  have hle : n + 1 ≤ 140737488355328 := Nat.le_trans (Nat.le_mul_of_pos_right _ hb0) hsz
  obtain ⟨v', w', r1, r2, r3, _, r5⟩ := run_append_own_at (P := Try.prog) (w.alloc (.cells cs.toArray e)) w0.heap.size t t e i z s bytes ht hi hz hs hby hzs hs0 v n xs (own_fr h (Fr.ofNone (S := fun _ => False) ga) (fun _ _ e => e)) ⟨w.heap.size, 0, none⟩ 1 1 cs (by omega) (fun j u hu => by
      rw [Addr.add_mid, Nat.zero_add]; exact hn.cellv j u hu) h1 (by unfold maxLen; omega) hsz (by rw [World.size_alloc]; omega)
  obtain ⟨g, c, e1, _⟩ := own_cell r2 (by omega)
  subst e1
  refine ⟨g, c, w', r1, r2, ga2.trans r3, ?_⟩
  rw [World.size_alloc] at r5
  rcases r5 with q | q
  · exact .inl q.symm
  · have : g = w.heap.size + 1 := by simpa [Value.ownBlock] using q
    exact .inr (by omega)
theorem info24 : ∃ i, Try.prog.info? 24 = some i ∧ i.size = 1 ∧ i.bytes = 8 ∧ i.zero = some (.int .u64 0) := by
  have h : (Try.prog.info? 24).map (fun i => (i.size, i.bytes, i.zero)) = some (1, 8, some (.int .u64 0)) := by kernel_rfl
  cases hq : Try.prog.info? 24 with
  | none => simp [hq] at h
  | some i =>
    simp [hq] at h
    exact ⟨i, rfl, h.1, h.2.1, h.2.2⟩
theorem wpList_append_run {P : Program} (w : World) {ops : Array Oper} {rest : List Oper} {o : Oper} {a : Act} {Q : Exit → Act → World → Prop} (hgd : o.guard = none) (s x : Operand) (t : TypeId)
    (ho : o.op = .call { callee := .builtin .append, args := #[s, x], argTypes := #[t, t] }) (v u : Value) (hs : a.eval s = v) (hx : a.eval x = u) {v' : Value} {w' : World}
    (hr : (Builtin.append_ #[t, t] o.type #[v, u]).run P w = .ok v' w') (h : wpList P ops Q rest (a.put o.dst v') w') : wpList P ops Q (o :: rest) a w :=
  wpList_plain hgd fun _ hK => by
    unfold Oper.wp execOp
    simp only [ho, resolve, invoke, builtin, Sem.run_bind, Sem.run_pure, Result.andThen_ok, List.map_toArray, List.map_cons, List.map_nil, hs, hx, hr]
    exact hK _ _ h
/-- the reference's window of the call's own -/
structure RD (w0 w : World) (p : Nat) (sv : Value) (L : List Nat) (h : Nat) : Prop where
  has : Has w p [sv, uv h] 44
  row : w.ownsRow w0.heap.size 24 1 sv L.length (L.map uv)
  lo : w0.heap.size ≤ p
  ne : sv.ownBlock ≠ some p
  lt : ∀ x ∈ L, x < 18446744073709551616
theorem RD.fr {S : Nat → Prop} {w0 w w' : World} {p : Nat} {sv : Value} {L : List Nat} {h : Nat} (r : RD w0 w p sv L h) (f : Fr S w w') (h1 : ¬ S p) (h2 : ∀ k, sv.ownBlock = some k → ¬ S k) : RD w0 w' p sv L h :=
  ⟨r.has.fr f h1, own_fr r.row f h2, r.lo, r.ne, r.lt⟩
theorem RD.rw {w0 w : World} {p : Nat} {sv : Value} {L : List Nat} {h : Nat} (r : RD w0 w p sv L h) (hn : L.length ≤ 1000) : ∃ a c, sv = .slice a L.length c ∧ RW w p a L.length c L h := by
  have hr := r.row
  rcases Nat.eq_zero_or_pos L.length with hz | hz
  · obtain ⟨_, q⟩ := hr
    rcases q with ⟨rfl, _⟩ | ⟨g, cap, cur, rfl, _⟩
    · exact ⟨none, 0, by rw [hz], ⟨by rw [hz]; exact r.has, ⟨rfl, fun hh => by omega⟩, hn⟩⟩
    · exact ⟨some ⟨g, 0, none⟩, cap, rfl, ⟨r.has, ⟨rfl, fun hh => by omega⟩, hn⟩⟩
  · obtain ⟨g, c, rfl, hc⟩ := own_cell hr hz
    refine ⟨_, c, rfl, ⟨r.has, ⟨rfl, fun _ => ⟨g, 0, rfl, fun j x hx => ⟨?_, ?_⟩⟩⟩, hn⟩⟩
    · rw [Nat.zero_add]
      exact (hc j (uv x) (by rw [List.getElem?_map, hx]; rfl)).1
    · have := r.lt x (List.mem_of_getElem? hx)
      simp [IntKind.bits]; omega
theorem Inv.congr {h B : Nat} {M M' : List Nat} (v : Inv h B M) (e : ∀ x, x ∈ M ↔ x ∈ M') : Inv h B M' :=
  ⟨fun i => by rw [v.bit, e], fun m hm => v.le m ((e m).2 hm), fun hh => (e h).1 (v.top hh)⟩
/-- what was seen behind a Mark -/
def mkL (h B s : Nat) (L : List Nat) : List Nat := if chk h B s = 0 then L ++ [s] else L
theorem Inv.markL {h B : Nat} {L : List Nat} (v : Inv h B L) (s : Nat) : Inv (mkH h B s) (mkB h B s) (mkL h B s L) := by
  refine (v.mark s).congr (fun x => ?_)
  unfold mkM mkL
  split
  · simp [or_comm]
  · rfl
set_option maxRecDepth 100000 in
set_option maxHeartbeats 4000000 in
theorem rmark_c {w0 w : World} {p : Nat} {sv : Value} {L : List Nat} {h B : Nat} (r : RD w0 w p sv L h) (v : Inv h B L) (hh : h < 18446744073709551616) (hn : L.length ≤ 900) (g0 : w0.heap.size ≤ w.heap.size) (s : Nat) (hs : s < 18446744073709551616) :
    Calls Try.prog 16 #[.pointer (some ⟨p, 0, none⟩), uv s] w fun e w' => e = .returned (.int .i64 (chk h B s : Nat)) ∧ ∃ sv', RD w0 w' p sv' (mkL h B s L) (mkH h B s) ∧ Fr (fun i => i = p ∨ sv.ownBlock = some i) w w' ∧ (∀ g, sv'.ownBlock = some g → sv.ownBlock = some g ∨ w.heap.size ≤ g) := by
  obtain ⟨a, c, rfl, rw⟩ := r.rw (by omega)
  have HC := Keep.mk (rcheck_c rw v hh s hs)
  by_cases hc : chk h B s = 0
  · have eL : mkL h B s L = L ++ [s] := if_pos hc
    have eH : mkH h B s = max h s := if_pos hc
    rw [hc] at HC
    rw [eL, eH, hc]
    obtain ⟨i, hi, h1, h2, h3⟩ := info24
    obtain ⟨g, cc, w3, ha, hrow, hg, hb⟩ := own_app (w0 := w0) (w := w) (t := 22) Try.underlying22 hi h3 h1 h2 rfl (by omega) r.row [uv s] rfl (by simp [Value.oneCell']) (by omega) (by omega) g0
    have HA := Keep.mk ha
    have hp : Has w3 p [.slice a L.length c, uv h] 44 := r.has.kept hg (by have := r.ne; intro e; exact this e.symm)
    have hgp : g ≠ p := by
      rcases hb with q | q
      · intro e; subst e; exact r.ne q
      · have := r.has.lt; omega
    have z0 := hp.frozen 0
    have z1 := hp.frozen 1
    have d0 := hp.cellv 0 _ rfl
    have d1 := hp.cellv 1 _ rfl
    have hp2 := hp.setCell 0 (.slice (some ⟨g, 0, none⟩) (L.length + 1) cc)
    have c0 := r.has.cellv 0 _ rfl
    have HG : Keep (Fr (fun i => i = p ∨ (Value.slice a L.length c).ownBlock = some i) w (w3.setCell ⟨p, 0, none⟩ (.slice (some ⟨g, 0, none⟩) (L.length + 1) cc)) ∧ (w3.setCell ⟨p, 0, none⟩ (.slice (some ⟨g, 0, none⟩) (L.length + 1) cc)).ownsRow w0.heap.size 24 1 (.slice (some ⟨g, 0, none⟩) (L.length + 1) cc) (L.length + 1) (L.map uv ++ [uv s]) ∧ Has (w3.setCell ⟨p, 0, none⟩ (.slice (some ⟨g, 0, none⟩) (L.length + 1) cc)) p [.slice (some ⟨g, 0, none⟩) (L.length + 1) cc, uv h] 44) := ⟨((Fr.of hg).mono (fun i q => .inl (.inr q))).then (Fr.of (gr_set w3 p 0 _)) (fun i q => by cases q; exact .inl (.inl rfl)), own_fr hrow (Fr.of (gr_set w3 p 0 _)) (fun k hk e => by cases hk; cases e; exact hgp rfl), hp2⟩
    have HP : Keep (p = p ∧ w0.heap.size ≤ p ∧ g ≠ p ∧ (∀ x ∈ L, x < 18446744073709551616)) := ⟨rfl, r.lo, hgp, r.lt⟩
    have HB := Keep.mk hb
    clear ha hrow hg hb hp hp2 hgp rw r v
    have HRD : Keep (∀ W t, Has W p [.slice (some ⟨g, 0, none⟩) (L.length + 1) cc, uv t] 44 → W.ownsRow w0.heap.size 24 1 (.slice (some ⟨g, 0, none⟩) (L.length + 1) cc) (L.length + 1) (L.map uv ++ [uv s]) → RD w0 W p (.slice (some ⟨g, 0, none⟩) (L.length + 1) cc) (L ++ [s]) t) := ⟨fun W t q1 q2 => ⟨q1, by simpa using q2, HP.out.2.1, by simpa [Value.ownBlock] using HP.out.2.2.1, fun x hx => by
      rcases List.mem_append.1 hx with q | q
      · exact HP.out.2.2.2 x q
      · rw [List.mem_singleton.1 q]; exact hs⟩⟩
    have HB2 : Keep (∀ k, (Value.slice (some ⟨g, 0, none⟩) (L.length + 1) cc).ownBlock = some k → (Value.slice a L.length c).ownBlock = some k ∨ w.heap.size ≤ k) := ⟨fun k q => by cases q; exact HB.out⟩
    by_cases hu : h < s
    · have hui : (h : Int) < (s : Int) := by omega
      have HG2 : Keep (Fr (fun i => i = p ∨ (Value.slice a L.length c).ownBlock = some i) w ((w3.setCell ⟨p, 0, none⟩ (.slice (some ⟨g, 0, none⟩) (L.length + 1) cc)).setCell ⟨p, 1, none⟩ (uv s)) ∧ RD w0 ((w3.setCell ⟨p, 0, none⟩ (.slice (some ⟨g, 0, none⟩) (L.length + 1) cc)).setCell ⟨p, 1, none⟩ (uv s)) p (.slice (some ⟨g, 0, none⟩) (L.length + 1) cc) (L ++ [s]) (max h s)) := ⟨HG.out.1.then (Fr.of (gr_set _ p 1 (uv s))) (fun i q => by cases q; exact .inl (.inl rfl)), by
        rw [show max h s = s by omega]
        exact HRD.out _ _ (HG.out.2.2.setCell 1 (uv s)) (own_fr HG.out.2.1 (Fr.of (gr_set _ p 1 (uv s))) (fun k hk e => by cases hk; cases e; exact HP.out.2.2.1 rfl))⟩
      clear HG HRD HP HB
      go_enter Try.func16, Try.ntmps16
      go_wp2_with fail
      refine HC.out.mono ?_
      rintro e w1 ⟨rfl, rfl⟩
      go_wp2_with (at_builtin; refine wpList_append_run _ rfl (.tmp 16) (.tmp 18) 22 rfl _ _ rfl rfl HA.out ?_)
      go_ret
      exact ⟨rfl, _, HG2.out.2, HG2.out.1, HB2.out⟩
    · have hui : ¬ (h : Int) < (s : Int) := by omega
      have HG2 : Keep (Fr (fun i => i = p ∨ (Value.slice a L.length c).ownBlock = some i) w (w3.setCell ⟨p, 0, none⟩ (.slice (some ⟨g, 0, none⟩) (L.length + 1) cc)) ∧ RD w0 (w3.setCell ⟨p, 0, none⟩ (.slice (some ⟨g, 0, none⟩) (L.length + 1) cc)) p (.slice (some ⟨g, 0, none⟩) (L.length + 1) cc) (L ++ [s]) (max h s)) := ⟨HG.out.1, by
        rw [show max h s = h by omega]
        exact HRD.out _ _ HG.out.2.2 HG.out.2.1⟩
      clear HG HRD HP HB
      go_enter Try.func16, Try.ntmps16
      go_wp2_with fail
      refine HC.out.mono ?_
      rintro e w1 ⟨rfl, rfl⟩
      go_wp2_with (at_builtin; refine wpList_append_run _ rfl (.tmp 16) (.tmp 18) 22 rfl _ _ rfl rfl HA.out ?_)
      go_ret
      exact ⟨rfl, _, HG2.out.2, HG2.out.1, HB2.out⟩
  · have eL : mkL h B s L = L := if_neg hc
    have hci : ((chk h B s : Int) == 0) = false := by simp; omega
    rw [eL, mkH_no hc]
    have HRR : Keep (RD w0 w p (.slice a L.length c) L h) := ⟨r⟩
    clear r rw v eL
    generalize chk h B s = k at *
    go_enter Try.func16, Try.ntmps16
    go_wp2_with fail
    refine HC.out.mono ?_
    rintro e w1 ⟨rfl, rfl⟩
    go_wp2_with fail
    go_ret
    exact ⟨rfl, _, HRR.out, Fr.refl _ _, fun g q => .inl q⟩
end Go.Proofs.Ytollbodeafdhkaa
