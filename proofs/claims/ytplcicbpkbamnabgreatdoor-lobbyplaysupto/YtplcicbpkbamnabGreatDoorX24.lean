import Derived.Test.YtplcicbpkbamnabGreatDoorX20
import Derived.Test.YtplcicbpkbamnabGreatDoorX22
import Derived.Test.YtplcicbpkbamnabGreatDoorX23
/- lobby: ranging over the map of sessions. -/
namespace Go.Proofs.YtplcicbpkbamnabGreatDoor.Lo
open Go Go.RowKit Go.Maps

abbrev lk (k : Nat) : Lit := .int .u64 ((k : Nat) : Int)
/-- the iterator in block r goes over the map in block mb, which holds M; L is still to come -/
structure Rng (w : World) (mb r : Nat) (M L : List (Nat × Nat)) : Prop where
  o : ∃ (D : DataW Unit) (left : Lit → Bool) (cnt : Nat), w.ranges Tryz.prog 38 pe mb r M.length D left cnt ∧ (∀ k z, D.atKey (lk k) z = match Tb.look M k with | some b => .lit (.int .i64 ((b : Nat) : Int)) | none => z) ∧ ∀ k, left (lk k) = decide (k ∈ Tb.keys L)
  sub : ∀ p ∈ L, Tb.look M p.1 = some p.2
  nd : (Tb.keys L).Nodup
set_option maxRecDepth 100000 in
theorem look_mem {M : List (Nat × Nat)} {p : Nat × Nat} (hp : p ∈ M) (hd : (Tb.keys M).Nodup) : Tb.look M p.1 = some p.2 := by
  obtain ⟨A, C, rfl⟩ := List.append_of_mem hp
  obtain ⟨k, b⟩ := p
  exact Tb.look_mid (Tb.nodup_mid hd).1
set_option maxRecDepth 100000 in
theorem wpList_range_s {ops : Array Oper} {rest : List Oper} {o : Oper} {a : Act} {Q : Exit → Act → World → Prop} (w : World) (hg : o.guard = none) (m : Operand) (hop : o.op = Op.range 68 m) (mb : Nat) (M : List (Nat × Nat)) (hm : a.eval m = .map (some mb)) (h : MapIs w mb M) (hd : (Tb.keys M).Nodup)
    (hK : ∀ w', Rng w' mb w.heap.size M M → w.grownBy w' none → w'.heap.size = w.heap.size + 1 → wpList Tryz.prog ops Q rest (a.put o.dst (.pointer (some ⟨w.heap.size, 0, none⟩))) w') : wpList Tryz.prog ops Q (o :: rest) a w := by
  obtain ⟨D, ow, h1, h2, h3⟩ := h.o
  refine wpList_range_own w hg m 68 hop 38 87 law40 Tryz.underlying68 pe mb M.length D hm ow ?_
  intro w' hr g hs
  refine hK w' ⟨⟨D, _, _, hr, h3, fun k => ?_⟩, fun p hp => look_mem hp hd, hd⟩ g hs
  rw [h2]
  cases hl : Tb.look M k with
  | none => rw [decide_eq_false (Tb.look_none.1 hl)]; rfl
  | some b =>
    have : k ∈ Tb.keys M := by
      obtain ⟨A, C, rfl, _⟩ := Tb.look_split hl
      simp [Tb.keys]
    rw [decide_eq_true this]; rfl
set_option maxRecDepth 100000 in
theorem keys_rm_iff {L : List (Nat × Nat)} {k k' : Nat} : k' ∈ Tb.keys (Tb.rm L k) ↔ k' ∈ Tb.keys L ∧ k' ≠ k := by
  constructor
  · intro h
    refine ⟨(Tb.keys_rm_sub L k).subset h, fun e => ?_⟩
    subst e
    exact Tb.rm_keys h
  · rintro ⟨h, hn⟩
    obtain ⟨p, hp, rfl⟩ := List.mem_map.1 h
    exact List.mem_map.2 ⟨p, List.mem_filter.2 ⟨hp, by simpa using hn⟩, rfl⟩
set_option maxRecDepth 100000 in
theorem pe_any {v : Value} {y : DataW Unit × List MemPlace} (h : pe v = some y) : ∃ c, v = pOf c := by
  unfold pe at h
  split at h
  · exact ⟨none, rfl⟩
  · exact ⟨some _, rfl⟩
  · cases h
set_option maxRecDepth 100000 in
theorem wpList_next_s {ops : Array Oper} {rest : List Oper} {o : Oper} {a : Act} {Q : Exit → Act → World → Prop} (w : World) (hg : o.guard = none) (it : Operand) (hop : o.op = Op.next it false) (mb r : Nat) (M L : List (Nat × Nat)) (hit : a.eval it = .pointer (some ⟨r, 0, none⟩)) (h : Rng w mb r M L)
    (hDone : L = [] → wpList Tryz.prog ops Q rest (a.put o.dst (.tuple #[.bool false])) w)
    (hMore : ∀ (k b : Nat) (w' : World), (k, b) ∈ L → k < 18446744073709551616 → Rng w' mb r M (Tb.rm L k) → w'.rangeLeft mb r < w.rangeLeft mb r → w.grownBy w' (some r) → w'.heap.size = w.heap.size →
      (Instr.entry (.pointer (some ⟨r, 0, none⟩))).run Tryz.prog w' = .ok (.tuple #[uv k, pt b]) w' → wpList Tryz.prog ops Q rest (a.put o.dst (.tuple #[.bool true, uv k, pt b])) w') : wpList Tryz.prog ops Q (o :: rest) a w := by
  obtain ⟨D, left, cnt, hr, h3, h4⟩ := h.o
  refine wpList_next_ranges w hg it hop 38 law40 pe (Value.int .u64) pOf (fun key kl hkey => by obtain ⟨x, rfl, _⟩ := Maps.keyOf_int_inv Tryz.underlying38 hkey; exact ⟨x, rfl⟩) (fun v y hv => pe_any hv) mb r M.length D left cnt hit hr ?_ ?_
  · intro _ hl
    refine hDone ?_
    cases L with
    | nil => rfl
    | cons p q =>
      have := hl (lk p.1)
      rw [h4, decide_eq_true (by simp [Tb.keys])] at this
      cases this
  · intro x c kl y w' cnt' hkey hlk hv hat hrg hlt hgr hsz hen
    obtain ⟨x', ex, rfl, hwx⟩ := Maps.keyOf_int_inv Tryz.underlying38 hkey
    cases ex
    have hwf : 0 ≤ x ∧ x < 18446744073709551616 := by
      simp [Lit.wf, IntKind.min, IntKind.max, IntKind.bits, IntKind.signed] at hwx
      omega
    obtain ⟨k, rfl⟩ : ∃ k : Nat, x = (k : Int) := ⟨x.toNat, by omega⟩
    have hkL : k ∈ Tb.keys L := by
      have := h4 k
      rw [hlk] at this
      exact of_decide_eq_true this.symm
    obtain ⟨p, hp, rfl⟩ := List.mem_map.1 hkL
    have hlook := h.sub p hp
    have ha := hat (.lit (.int .i64 0))
    rw [h3, hlook] at ha
    have hc : pOf c = pt p.2 := by
      obtain ⟨yd, yp⟩ := y
      simp only at ha
      subst ha
      exact pe_inv hv
    rw [hc] at hen ⊢
    refine hMore p.1 p.2 w' hp (by omega) ⟨⟨D, _, cnt', hrg, h3, fun k' => ?_⟩, fun q hq => h.sub q (List.mem_filter.1 hq).1, (Tb.keys_rm_sub L p.1).nodup h.nd⟩ (by rw [hrg.left_eq, hr.left_eq]; exact hlt) hgr hsz hen
    rw [h4]
    by_cases e : k' = p.1
    · subst e
      rw [decide_eq_false (fun q => (keys_rm_iff.1 q).2 rfl)]
      simp [Lit.sameKey]
    · have e2 : (lk k').sameKey (lk p.1) = false := by
        simp [Lit.sameKey]
        omega
      rw [e2]
      simp only [Bool.not_false, Bool.and_true]
      exact decide_eq_decide.2 ⟨fun q => keys_rm_iff.2 ⟨q, e⟩, fun q => (keys_rm_iff.1 q).1⟩
end Go.Proofs.YtplcicbpkbamnabGreatDoor.Lo

/- lobby: plays. -/
namespace Go.Proofs.YtplcicbpkbamnabGreatDoor.Lo
open Go Go.RowKit Go.Maps

/-- an iterator's block -/
def iterA (r : Nat) : As :=
  ⟨fun W F => r < W.heap.size ∧ F = fun i => i = r, fun S W W' F h f hs => ⟨Nat.lt_of_lt_of_le h.1 f.size, h.2⟩, fun W F h i hi => by rw [h.2] at hi; have hi : i = r := hi; rw [hi]; exact h.1⟩
set_option maxRecDepth 100000 in
theorem Sep.iter {w0 W W' : World} {l : List As} (h : Sep w0 W l) (g : W.grownBy W' none) (hs : W'.heap.size = W.heap.size + 1) : Sep w0 W' (iterA W.heap.size :: l) :=
  h.new g (Loc.one (a := iterA _) _ ⟨by omega, rfl⟩ (fun i hi => .inr (by rw [hi]; exact Nat.le_refl _)))
set_option maxRecDepth 100000 in
theorem Sep.iterTurn {w0 W W' : World} {l : List As} {r : Nat} (h : Sep w0 W (iterA r :: l)) (g : W.grownBy W' (some r)) (hs : W'.heap.size = W.heap.size) : Sep w0 W' (iterA r :: l) := by
  obtain ⟨F, ⟨h1, rfl⟩, _, hu⟩ := h.use
  exact hu W' [_] (Fr.ofSome g rfl) (Loc.one (a := iterA _) _ ⟨by omega, rfl⟩ (fun i hi => .inl hi))
/-- does a session of this account live? -/
def plyS (X : Lb) (a : Nat) : Bool := X.S.any fun s => decide (s.acc = a)
set_option maxRecDepth 100000 in
set_option maxHeartbeats 8000000 in
theorem plays_c (w0 W : World) (l : List As) (lb : Nat) (X : Lb) (ac : Nat) (h : Sep w0 W (lobA lb X :: l)) (ok : LbOk X) :
    Calls Tryz.prog 49 #[pt lb, iv (ac : Nat)] W fun e W' => e = .returned (.bool (plyS X ac)) ∧ Sep w0 W' (lobA lb X :: l) := by
  obtain ⟨⟨v, mb, P⟩, h⟩ := h.opn
  have hP : P.map (fun p => p.2) = X.S := h.fact k0m
  have c7 : W.cell? ⟨lb, 7, none⟩ = some (.map (some mb)) := (h.boxGet k1m).cellv 7 _ rfl
  have hM : MapIs W mb (P.map fun p => (p.2.num, p.1)) := h.mapGet k3m
  have hkeys : Tb.keys (P.map fun p => (p.2.num, p.1)) = X.S.map Se.num := by
    rw [← hP]; simp [Tb.keys, Function.comp_def]
  have HND : Keep ((Tb.keys (P.map fun p => (p.2.num, p.1))).Nodup) := ⟨by rw [hkeys]; exact ok.nd⟩
  have HP := Keep.mk hP
  have HS := Keep.mk h
  have HM := Keep.mk hM
  have HBX : Keep (∀ p ∈ P, boxA p.1 (sev X.r X.u p.2) 109 ∈ lobL lb X (v, mb, P) ++ l) := ⟨fun p hp => List.mem_append_left _ (by
    unfold lobL
    simp only [List.mem_cons]
    exact .inr (.inr (.inr (.inr (List.mem_map.2 ⟨p, hp, rfl⟩)))))⟩
  obtain ⟨M, hMM⟩ : ∃ M, (P.map fun p => (p.2.num, p.1)) = M := ⟨_, rfl⟩
  have HMM := Keep.mk hMM
  rw [hMM] at HM HND
  obtain ⟨r, hr⟩ : ∃ r, W.heap.size = r := ⟨_, rfl⟩
  clear h hP hM hkeys hMM ok
  go_enter Tryz.func49, Tryz.ntmps49
  go_wp2_with (first | (at_range; refine wpList_range_s _ rfl (.tmp 10) rfl mb M rfl HM.out HND.out ?_))
  intro w1 hrg g1 hs1
  have S1 := HS.out.iter g1 (by rw [hr]; exact hs1)
  rw [hr] at S1
  have HS1 := Keep.mk S1
  have HRG := Keep.mk hrg
  clear hrg g1 hs1 S1 HS HM c7 hr
  first | go_frame | go_wp2_with fail
  go_loopw [6] (fun _ wr => ∃ L, Keep (Rng wr mb r M L) ∧ Keep (Sep w0 wr (iterA r :: (lobL lb X (v, mb, P) ++ l))) ∧ Keep (∀ p ∈ P, p.2.num ∉ Tb.keys L → p.2.acc ≠ ac)) (fun _ wr => wr.rangeLeft mb r)
  case atStart => exact ⟨M, HRG, HS1, ⟨fun p hp hq => absurd (by rw [← HMM.out]; exact List.mem_map.2 ⟨(p.2.num, p.1), List.mem_map.2 ⟨p, hp, rfl⟩, rfl⟩) hq⟩⟩
  case round =>
    clear HRG HS1
    obtain ⟨L, hR, hS, hQ⟩ := hrel
    go_wp2_with (first | (at_next; refine wpList_next_s _ rfl (.tmp 11) rfl mb r M L rfl hR.out ?_ ?_))
    · intro hL
      have HF : Keep (plyS X ac = false) := ⟨by
        unfold plyS
        rw [List.any_eq_false]
        intro s hs
        rw [← HP.out] at hs
        obtain ⟨p, hp, rfl⟩ := List.mem_map.1 hs
        have := hQ.out p hp (by rw [hL]; simp [Tb.keys])
        simpa using this⟩
      have HFS : Keep (Sep w0 wr (lobA lb X :: l)) := ⟨Sep.cls (lobL lb X) (v, mb, P) hS.out.tail⟩
      clear hL hR hS hQ
      go_wp2_with fail
      go_ret
      rw [HF.out]
      exact ⟨rfl, HFS.out⟩
    · intro k b w2 hkb hk hR2 hlt hg2 hs2 hen
      have S2 := hS.out.iterTurn hg2 hs2
      obtain ⟨p, hp, hpe⟩ : ∃ p ∈ P, (p.2.num, p.1) = (k, b) := by
        have := hR.out.sub _ hkb
        obtain ⟨A, C, hAC, _⟩ := Tb.look_split this
        have hm : (k, b) ∈ M := by rw [hAC]; simp
        rw [← HMM.out] at hm
        obtain ⟨p, hp, e⟩ := List.mem_map.1 hm
        exact ⟨p, hp, e⟩
      obtain ⟨pb, s⟩ := p
      simp only [Prod.mk.injEq] at hpe
      obtain ⟨hsk, rfl⟩ := hpe
      have d7 : w2.cell? ⟨pb, 7, none⟩ = some (iv (s.acc : Nat)) := (S2.boxGet (List.mem_cons_of_mem _ (HBX.out _ hp))).cellv 7 _ rfl
      have HS2 := Keep.mk S2
      have HR2 := Keep.mk hR2
      have HLT := Keep.mk hlt
      have HPM : Keep ((pb, s) ∈ P ∧ s.num = k ∧ (∀ p ∈ P, p.2.num ∉ Tb.keys L → p.2.acc ≠ ac)) := ⟨hp, hsk, hQ.out⟩
      clear hR hS hQ hkb hR2 hlt hg2 hs2 S2 hp hsk
      by_cases ha : s.acc = ac
      · have HF : Keep (plyS X ac = true) := ⟨by
          unfold plyS
          rw [List.any_eq_true]
          exact ⟨s, by rw [← HP.out]; exact List.mem_map.2 ⟨_, HPM.out.1, rfl⟩, by simpa using ha⟩⟩
        have HFS : Keep (Sep w0 w2 (lobA lb X :: l)) := ⟨Sep.cls (lobL lb X) (v, mb, P) HS2.out.tail⟩
        rw [ha] at d7
        clear ha HPM HS2 HR2 HLT
        go_wp2_with fail
        go_ret
        rw [HF.out]
        exact ⟨rfl, HFS.out⟩
      · have hne : ¬ ((s.acc : Nat) : Int) = (ac : Nat) := by omega
        have HQ2 : Keep (∀ p ∈ P, p.2.num ∉ Tb.keys (Tb.rm L k) → p.2.acc ≠ ac) := ⟨fun p hp hq => by
          by_cases e : p.2.num = k
          · have e1 : p = (pb, s) := by
              have h1 : (p.2.num, p.1) ∈ M := by rw [← HMM.out]; exact List.mem_map.2 ⟨p, hp, rfl⟩
              have h2 : (s.num, pb) ∈ M := by rw [← HMM.out]; exact List.mem_map.2 ⟨_, HPM.out.1, rfl⟩
              obtain ⟨i, hi, e1⟩ := List.getElem_of_mem hp
              obtain ⟨j, hj, e2⟩ := List.getElem_of_mem HPM.out.1
              have hnd := HND.out
              rw [← HMM.out] at hnd
              have e3 : (Tb.keys (P.map fun p => (p.2.num, p.1)))[i]'(by simpa [Tb.keys] using hi) = (Tb.keys (P.map fun p => (p.2.num, p.1)))[j]'(by simpa [Tb.keys] using hj) := by simp [Tb.keys, e1, e2, e, HPM.out.2.1]
              have e4 : i = j := (List.getElem_inj hnd).1 e3
              subst e4
              rw [← e1, ← e2]
            rw [e1]; exact ha
          · exact HPM.out.2.2 p hp (fun z => hq (keys_rm_iff.2 ⟨z, e⟩))⟩
        generalize s.acc = sa at *
        clear ha HPM
        go_wp2_with fail
        exact ⟨⟨_, HR2, HS2, HQ2⟩, HLT.out⟩
end Go.Proofs.YtplcicbpkbamnabGreatDoor.Lo

/- lobby: the first free place. -/
namespace Go.Proofs.YtplcicbpkbamnabGreatDoor.Lo
open Go Go.RowKit Go.Maps

/-- the first place of x among bits, or -1 -/
def ixB (bs : List Bool) (x : Bool) : Int := match bs.findIdx? (· == x) with
  | some i => (i : Nat)
  | none => -1
set_option maxRecDepth 100000 in
theorem ixB_at {bs : List Bool} {x : Bool} {i : Nat} (h : bs[i]? = some x) (hb : ∀ j y, j < i → bs[j]? = some y → y ≠ x) : ixB bs x = (i : Nat) := by
  unfold ixB
  have : bs.findIdx? (· == x) = some i := by
    rw [List.findIdx?_eq_some_iff_getElem]
    obtain ⟨hi, e⟩ := List.getElem?_eq_some_iff.1 h
    refine ⟨hi, by rw [e]; simp, fun j hj => ?_⟩
    have := hb j _ hj (List.getElem?_eq_getElem (by omega))
    simpa using this
  rw [this]
set_option maxRecDepth 100000 in
theorem ixB_no {bs : List Bool} {x : Bool} (hb : ∀ j y, j < bs.length → bs[j]? = some y → y ≠ x) : ixB bs x = -1 := by
  unfold ixB
  have : bs.findIdx? (· == x) = none := by
    rw [List.findIdx?_eq_none_iff]
    intro y hy
    obtain ⟨j, hj, e⟩ := List.getElem_of_mem hy
    have := hb j y hj (by rw [List.getElem?_eq_getElem hj, e])
    simpa using this
  rw [this]
set_option maxRecDepth 100000 in
set_option maxHeartbeats 8000000 in
theorem idx_c (w : World) (b n c : Nat) (t : TypeId) (bs : List Bool) (x : Bool) (h : Has w b (bs.map Value.bool) t) (hn : bs.length = n) (hm : n ≤ 4611686018427387904) :
    Calls Tryz.prog 89 #[.slice (some ⟨b, 0, none⟩) n c, .bool x] w fun e w' => e = .returned (.int .i64 (ixB bs x)) ∧ w' = w := by
  have HH := Keep.mk (And.intro h hn)
  clear h hn
  go_enter Tryz.func89, Tryz.ntmps89
  go_wp2_with fail
  go_loopw [8] (fun u wr => ∃ i : Nat, i ≤ n ∧ u = .int .i64 i ∧ wr = w ∧ Keep (∀ j y, j < i → bs[j]? = some y → y ≠ x)) (fun u _ => (n - intOf u).toNat)
  case atStart => exact ⟨0, by omega, rfl, rfl, ⟨fun j y hj => absurd hj (by omega)⟩⟩
  case round =>
    obtain ⟨i, hi, rfl, rfl, hQ⟩ := hrel
    by_cases hlt : i < n
    · obtain ⟨y, hy⟩ : ∃ y, bs[i]? = some y := ⟨_, List.getElem?_eq_getElem (by rw [HH.out.2]; exact hlt)⟩
      have hc : wr.cell? ⟨b, i, none⟩ = some (.bool y) := HH.out.1.cellv i _ (by rw [List.getElem?_map, hy]; rfl)
      have hi0 : (0 : Int) ≤ (i : Int) := by omega
      have hi1 : (i : Int) < (n : Nat) := by omega
      have hti : ((i : Nat) : Int).toNat = i := by omega
      have hwi : IntKind.i64.wrap ((i : Int) + 1) = ((i + 1 : Nat) : Int) := by rw [wi _ (by omega) (by omega)]; omega
      by_cases e : y = x
      · have HF : Keep (ixB bs x = (i : Nat)) := ⟨ixB_at (by rw [hy, e]) hQ.out⟩
        subst e
        clear hQ hy
        go_wp2_with fail
        go_ret
        rw [HF.out]
        exact ⟨rfl, rfl⟩
      · have HQ2 : Keep (∀ j z, j < i + 1 → bs[j]? = some z → z ≠ x) := ⟨fun j z hj hz => by
          by_cases e2 : j = i
          · subst e2
            rw [hy] at hz
            obtain rfl : y = z := by simpa using hz
            exact e
          · exact hQ.out j z (by omega) hz⟩
        have hxy : (x == y) = false := by simpa using fun q : x = y => e q.symm
        clear hQ hy
        go_wp2_with fail
        exact ⟨⟨i + 1, by omega, by go_num, trivial, HQ2⟩, by simp [intOf]; omega⟩
    · have hge : ¬ ((i : Int) < (n : Nat)) := by omega
      have HF : Keep (ixB bs x = -1) := ⟨ixB_no (fun j y hj hy => hQ.out j y (by have := HH.out.2; omega) hy)⟩
      clear hQ
      go_wp2_with fail
      go_ret
      rw [HF.out]
      exact ⟨rfl, rfl⟩
/-- nobody has a place -/
def zb32 : List Value := [(.bool false : Value), (.bool false : Value), (.bool false : Value), (.bool false : Value), (.bool false : Value), (.bool false : Value), (.bool false : Value), (.bool false : Value), (.bool false : Value), (.bool false : Value), (.bool false : Value), (.bool false : Value), (.bool false : Value), (.bool false : Value), (.bool false : Value), (.bool false : Value), (.bool false : Value), (.bool false : Value), (.bool false : Value), (.bool false : Value), (.bool false : Value), (.bool false : Value), (.bool false : Value), (.bool false : Value), (.bool false : Value), (.bool false : Value), (.bool false : Value), (.bool false : Value), (.bool false : Value), (.bool false : Value), (.bool false : Value), (.bool false : Value)]
/-- the places taken by those that were met -/
structure Tk (P : List (Nat × Se)) (L : List (Nat × Nat)) (bs : List Bool) : Prop where
  len : bs.length = 32
  tak : ∀ p ∈ P, p.2.num ∉ Tb.keys L → bs[p.2.pl]? = some true
  by_ : ∀ j : Nat, bs[j]? = some true → ∃ p ∈ P, p.2.num ∉ Tb.keys L ∧ p.2.pl = j
/-- the least place that no session has -/
def frS (X : Lb) : Int := ixB ((List.range 32).map fun j => X.S.any fun s => decide (s.pl = j)) false
set_option maxRecDepth 100000 in
theorem Tk.all {X : Lb} {P : List (Nat × Se)} {bs : List Bool} (h : Tk P [] bs) (hP : P.map (fun p => p.2) = X.S) : bs = (List.range 32).map fun j => X.S.any fun s => decide (s.pl = j) := by
  refine List.ext_getElem? fun j => ?_
  by_cases hj : j < 32
  · rw [List.getElem?_map, List.getElem?_range hj]
    obtain ⟨y, hy⟩ : ∃ y, bs[j]? = some y := ⟨_, List.getElem?_eq_getElem (by rw [h.len]; exact hj)⟩
    rw [hy]
    show some y = some (X.S.any fun s => decide (s.pl = j))
    congr 1
    cases y with
    | true =>
      obtain ⟨p, hp, _, e⟩ := h.by_ j hy
      symm
      rw [List.any_eq_true]
      exact ⟨p.2, by rw [← hP]; exact List.mem_map.2 ⟨p, hp, rfl⟩, by simpa using e⟩
    | false =>
      symm
      rw [List.any_eq_false]
      intro s hs
      rw [← hP] at hs
      obtain ⟨p, hp, rfl⟩ := List.mem_map.1 hs
      intro e
      have e : p.2.pl = j := by simpa using e
      have := h.tak p hp (by simp [Tb.keys])
      rw [e, hy] at this
      simp at this
  · rw [List.getElem?_eq_none (by rw [h.len]; omega), List.getElem?_eq_none (by simp; omega)]
set_option maxRecDepth 100000 in
theorem Tk.step {P : List (Nat × Se)} {L : List (Nat × Nat)} {bs : List Bool} {q : Nat × Se} (h : Tk P L bs) (hq : q ∈ P) (hpl : q.2.pl < 32) (hu : ∀ p ∈ P, p.2.num = q.2.num → p = q) : Tk P (Tb.rm L q.2.num) (bs.set q.2.pl true) := by
  refine ⟨by rw [List.length_set]; exact h.len, fun p hp hn => ?_, fun j hj => ?_⟩
  · by_cases e : p.2.num = q.2.num
    · rw [hu p hp e, List.getElem?_set_self (by rw [h.len]; exact hpl)]
    · by_cases e2 : q.2.pl = p.2.pl
      · rw [e2, List.getElem?_set_self (by rw [h.len, ← e2]; exact hpl)]
      · rw [List.getElem?_set_ne e2]
        exact h.tak p hp (fun z => hn (keys_rm_iff.2 ⟨z, e⟩))
  · by_cases e2 : q.2.pl = j
    · exact ⟨q, hq, fun z => (keys_rm_iff.1 z).2 rfl, e2⟩
    · rw [List.getElem?_set_ne e2] at hj
      obtain ⟨p, hp, hn, e⟩ := h.by_ j hj
      exact ⟨p, hp, fun z => hn (keys_rm_iff.1 z).1, e⟩
set_option maxRecDepth 100000 in
theorem Rng.kept {w w' : World} {mb r : Nat} {M L : List (Nat × Nat)} {row : Option Nat} (h : Rng w mb r M L) (g : w.grownBy w' row) (h1 : some mb ≠ row) (h2 : some r ≠ row) : Rng w' mb r M L ∧ w'.rangeLeft mb r = w.rangeLeft mb r := by
  obtain ⟨⟨D, left, cnt, ho, ha, hb⟩, hs, hn⟩ := h
  have ho2 := ho.kept g h1 h2
  exact ⟨⟨⟨D, left, cnt, ho2, ha, hb⟩, hs, hn⟩, by rw [ho.left_eq, ho2.left_eq]⟩
set_option maxRecDepth 100000 in
theorem Rng.apart {w : World} {mb r tb : Nat} {M L : List (Nat × Nat)} {cs : List Value} {t : TypeId} (h : Rng w mb r M L) (hh : Has w tb cs t) : mb ≠ tb ∧ r ≠ tb := by
  unfold Has at hh
  obtain ⟨⟨D, left, cnt, ⟨es, clock, since, seen, c0, hb, _, _, _, hr, _⟩, _⟩, _⟩ := h
  refine ⟨fun e => ?_, fun e => ?_⟩
  · rw [e, hh] at hb; cases hb
  · rw [e, hh] at hr; cases hr
set_option maxRecDepth 100000 in
set_option maxHeartbeats 8000000 in
theorem free_o (w0 W : World) (l : List As) (lb : Nat) (X : Lb) (v : Value) (mb : Nat) (P : List (Nat × Se)) (h : Sep w0 W (lobL lb X (v, mb, P) ++ l)) (ok : LbOk X) :
    Calls Tryz.prog 51 #[pt lb] W fun e W' => e = .returned (.int .i64 (frS X)) ∧ Sep w0 W' (lobL lb X (v, mb, P) ++ l) := by
  have hP : P.map (fun p => p.2) = X.S := h.fact k0m
  have hkeys : Tb.keys (P.map fun p => (p.2.num, p.1)) = X.S.map Se.num := by
    rw [← hP]; simp [Tb.keys, Function.comp_def]
  have HND : Keep ((Tb.keys (P.map fun p => (p.2.num, p.1))).Nodup) := ⟨by rw [hkeys]; exact ok.nd⟩
  have HPL : Keep (∀ p ∈ P, p.2.pl < 32) := ⟨fun p hp => by
    have := (ok.s p.2 (by rw [← hP]; exact List.mem_map.2 ⟨p, hp, rfl⟩)).2.2.1
    have := ok.m2
    omega⟩
  have HP := Keep.mk hP
  have h2 := h.newBox zb32.toArray 132
  obtain ⟨tb, htb⟩ : ∃ tb, W.heap.size = tb := ⟨_, rfl⟩
  obtain ⟨W1, hW1⟩ : ∃ W1, W.alloc (.cells zb32.toArray 132) = W1 := ⟨_, rfl⟩
  rw [hW1, htb] at h2
  have c7 : W1.cell? ⟨lb, 7, none⟩ = some (.map (some mb)) := (h2.boxGet k2m).cellv 7 _ rfl
  have hM : MapIs W1 mb (P.map fun p => (p.2.num, p.1)) := h2.mapGet k4m
  unfold zb32 at hW1
  have HS : Keep (Sep w0 W1 (boxA tb zb32 132 :: (lobL lb X (v, mb, P) ++ l))) := ⟨h2⟩
  have HM := Keep.mk hM
  have HBX : Keep (∀ p ∈ P, boxA p.1 (sev X.r X.u p.2) 109 ∈ lobL lb X (v, mb, P) ++ l) := ⟨fun p hp => List.mem_append_left _ (by
    unfold lobL
    simp only [List.mem_cons]
    exact .inr (.inr (.inr (.inr (List.mem_map.2 ⟨p, hp, rfl⟩)))))⟩
  obtain ⟨M, hMM⟩ : ∃ M, (P.map fun p => (p.2.num, p.1)) = M := ⟨_, rfl⟩
  have HMM := Keep.mk hMM
  rw [hMM] at HM HND
  obtain ⟨r, hr⟩ : ∃ r, W1.heap.size = r := ⟨_, rfl⟩
  clear h h2 hP hM hkeys hMM ok
  go_enter Tryz.func51, Tryz.ntmps51
  go_wp2_with (first | (at_range; refine wpList_range_s _ rfl (.tmp 9) rfl mb M rfl HM.out HND.out ?_))
  intro w1 hrg g1 hs1
  have S1 := HS.out.iter g1 (by rw [hr]; exact hs1)
  rw [hr] at S1
  have HS1 := Keep.mk S1
  have HRG := Keep.mk hrg
  clear hrg g1 hs1 S1 HS HM c7 hr hW1 htb
  first | go_frame | go_wp2_with fail
  go_loopw [5] (fun _ wr => ∃ L bs, Keep (Rng wr mb r M L) ∧ Keep (Sep w0 wr (iterA r :: boxA tb (bs.map Value.bool) 132 :: (lobL lb X (v, mb, P) ++ l))) ∧ Keep (Tk P L bs)) (fun _ wr => wr.rangeLeft mb r)
  case atStart => exact ⟨M, List.replicate 32 false, HRG, HS1, ⟨rfl, fun p hp hq => absurd (by rw [← HMM.out]; exact List.mem_map.2 ⟨(p.2.num, p.1), List.mem_map.2 ⟨p, hp, rfl⟩, rfl⟩) hq, fun j hj => by rw [List.getElem?_replicate] at hj; split at hj <;> simp at hj⟩⟩
  case round =>
    clear HRG HS1
    obtain ⟨L, bs, hR, hS, hQ⟩ := hrel
    go_wp2_with (first | (at_next; refine wpList_next_s _ rfl (.tmp 10) rfl mb r M L rfl hR.out ?_ ?_))
    · intro hL
      subst hL
      have HF : Keep (frS X = ixB bs false) := ⟨by rw [hQ.out.all HP.out]; rfl⟩
      have HFS : Keep (Sep w0 wr (lobL lb X (v, mb, P) ++ l)) := ⟨hS.out.tail.tail⟩
      have hI := idx_c wr tb 32 32 132 bs false (hS.out.boxGet k1m) hQ.out.len (by omega)
      clear hR hS hQ
      go_wp2_with fail
      refine hI.mono ?_
      rintro e w3 ⟨rfl, rfl⟩
      clear hI
      go_wp2_with fail
      go_ret
      rw [HF.out]
      exact ⟨rfl, HFS.out⟩
    · intro k b w2 hkb hk hR2 hlt hg2 hs2 hen
      have S2 := hS.out.iterTurn hg2 hs2
      obtain ⟨p, hp, hpe⟩ : ∃ p ∈ P, (p.2.num, p.1) = (k, b) := by
        have := hR.out.sub _ hkb
        obtain ⟨A, C, hAC, _⟩ := Tb.look_split this
        have hm : (k, b) ∈ M := by rw [hAC]; simp
        rw [← HMM.out] at hm
        obtain ⟨p, hp, e⟩ := List.mem_map.1 hm
        exact ⟨p, hp, e⟩
      obtain ⟨pb, s⟩ := p
      simp only [Prod.mk.injEq] at hpe
      obtain ⟨rfl, rfl⟩ := hpe
      have d1 : w2.cell? ⟨pb, 1, none⟩ = some (iv (s.pl : Nat)) := (S2.boxGet (List.mem_cons_of_mem _ (List.mem_cons_of_mem _ (HBX.out _ hp)))).cellv 1 _ rfl
      have hlen : (bs.map Value.bool).length = 32 := by rw [List.length_map]; exact hQ.out.len
      have hpl := HPL.out _ hp
      simp only at hpl
      have f1 : w2.frozen? ⟨tb, s.pl, none⟩ = false := (S2.boxGet k1m).frozen _
      obtain ⟨y1, y2⟩ : ∃ y, w2.cell? ⟨tb, s.pl, none⟩ = some y := ⟨_, (S2.boxGet k1m).cellv s.pl _ (List.getElem?_eq_getElem (by rw [hlen]; exact hpl))⟩
      have S3 := S2.swap.boxPut s.pl (.bool true)
      rw [← List.map_set] at S3
      have HT3 : Keep (Tk P (Tb.rm L s.num) (bs.set s.pl true)) := ⟨hQ.out.step hp hpl (fun p hp2 e => by
        obtain ⟨i, hi, e1⟩ := List.getElem_of_mem hp2
        obtain ⟨j, hj, e2⟩ := List.getElem_of_mem hp
        have hnd := HND.out
        rw [← HMM.out] at hnd
        have e3 : (Tb.keys (P.map fun p => (p.2.num, p.1)))[i]'(by simpa [Tb.keys] using hi) = (Tb.keys (P.map fun p => (p.2.num, p.1)))[j]'(by simpa [Tb.keys] using hj) := by simp [Tb.keys, e1, e2, e]
        have e4 : i = j := (List.getElem_inj hnd).1 e3
        subst e4
        rw [← e1, ← e2])⟩
      have HS3 := Keep.mk S3.swap
      have hne := hR2.apart (S2.boxGet k1m)
      have hkp := hR2.kept (gr_set w2 tb s.pl (.bool true)) (fun e => hne.1 (by simpa using e)) (fun e => hne.2 (by simpa using e))
      have HR2 := Keep.mk hkp.1
      have HLT := Keep.mk (show (w2.setCell ⟨tb, s.pl, none⟩ (.bool true)).rangeLeft mb r < wr.rangeLeft mb r by rw [hkp.2]; exact hlt)
      clear hkp hne
      generalize s.pl = sp at *
      have hp0 : (0 : Int) ≤ (sp : Nat) := by omega
      have hp1 : ((sp : Nat) : Int) < 32 := by omega
      have htp : ((sp : Nat) : Int).toNat = sp := by omega
      clear hR hS hQ hkb hR2 hlt hg2 hs2 S2 hp hlen S3
      go_wp2_with fail
      exact ⟨⟨_, _, HR2, HS3, HT3⟩, HLT.out⟩
set_option maxRecDepth 100000 in
theorem free_c (w0 W : World) (l : List As) (lb : Nat) (X : Lb) (h : Sep w0 W (lobA lb X :: l)) (ok : LbOk X) :
    Calls Tryz.prog 51 #[pt lb] W fun e W' => e = .returned (.int .i64 (frS X)) ∧ Sep w0 W' (lobA lb X :: l) := by
  obtain ⟨⟨v, mb, P⟩, h⟩ := h.opn
  exact (free_o w0 W l lb X v mb P h ok).mono fun e W' hh => ⟨hh.1, Sep.cls (lobL lb X) (v, mb, P) hh.2⟩
end Go.Proofs.YtplcicbpkbamnabGreatDoor.Lo

/- lobby: the place that a new session gets. -/
namespace Go.Proofs.YtplcicbpkbamnabGreatDoor.Lo
open Go Go.RowKit Go.Maps

/-- fewer than m numbers leave one below m out -/
theorem hole_of : ∀ (m : Nat) (L : List Nat), L.length < m → ∃ j, j < m ∧ j ∉ L
  | 0, _, h => absurd h (by omega)
  | m + 1, L, h => by
    by_cases hm : m ∈ L
    · obtain ⟨j, hj, hn⟩ := hole_of m (L.erase m) (by rw [List.length_erase_of_mem hm]; have := List.length_pos_of_mem hm; omega)
      exact ⟨j, by omega, fun z => hn ((List.mem_erase_of_ne (by omega)).2 z)⟩
    · exact ⟨m, by omega, hm⟩
/-- the place that freePlayer tells: the least one free, below the most -/
theorem frS_at (X : Lb) (hl : X.S.length < X.most) (hm : X.most ≤ 32) : ∃ j : Nat, frS X = (j : Nat) ∧ j < X.most ∧ (∀ s ∈ X.S, s.pl ≠ j) ∧ ∀ i, i < j → ∃ s ∈ X.S, s.pl = i := by
  obtain ⟨j0, hj0, hn0⟩ := hole_of X.most (X.S.map Se.pl) (by rw [List.length_map]; exact hl)
  have hg : ∀ i, i < 32 → ((List.range 32).map fun j => X.S.any fun s => decide (s.pl = j))[i]? = some (X.S.any fun s => decide (s.pl = i)) := fun i hi => by
    rw [List.getElem?_map, List.getElem?_range hi]; rfl
  have hf0 : (X.S.any fun s => decide (s.pl = j0)) = false := by
    rw [List.any_eq_false]
    intro s hs e
    exact hn0 (List.mem_map.2 ⟨s, hs, by simpa using e⟩)
  cases hx : ((List.range 32).map fun j => X.S.any fun s => decide (s.pl = j)).findIdx? (· == false) with
  | none =>
    rw [List.findIdx?_eq_none_iff] at hx
    have := hx _ (List.mem_of_getElem? (hg j0 (by omega)))
    rw [hf0] at this
    cases this
  | some j =>
    have hj := hx
    rw [List.findIdx?_eq_some_iff_getElem] at hx
    obtain ⟨h1, h2, h3⟩ := hx
    have h1' : j < 32 := by simpa using h1
    have hle : j ≤ j0 := by
      rcases Nat.lt_or_ge j0 j with h | h
      · have := h3 j0 h
        simp only [List.getElem_map, List.getElem_range] at this
        rw [hf0] at this
        simp at this
      · exact h
    refine ⟨j, by unfold frS ixB; rw [hj], by omega, fun s hs e => ?_, fun i hi => ?_⟩
    · simp only [List.getElem_map, List.getElem_range] at h2
      have h2 : (X.S.any fun s => decide (s.pl = j)) = false := by simpa using h2
      rw [List.any_eq_false] at h2
      exact h2 s hs (by simpa using e)
    · have := h3 i hi
      simp only [List.getElem_map, List.getElem_range] at this
      have h4 : (X.S.any fun s => decide (s.pl = i)) = true := by
        cases hq : (X.S.any fun s => decide (s.pl = i)) with
        | true => rfl
        | false => rw [hq] at this; simp at this
      rw [List.any_eq_true] at h4
      obtain ⟨s, hs, e⟩ := h4
      exact ⟨s, hs, by simpa using e⟩
end Go.Proofs.YtplcicbpkbamnabGreatDoor.Lo

/- lobby: what Join makes of a lobby. -/
namespace Go.Proofs.YtplcicbpkbamnabGreatDoor.Lo
open Go Go.RowKit Go.Maps

/-- the session that begins -/
def joiE (X : Lb) (fr nonce salt nm : ByteArray) (tick a : Nat) : Se :=
  ⟨X.next, (frS X).toNat, nm, fr, tick, 0, 0, a, drv (((X.A[a]?).map Ac.sc).getD []) nonce salt X.next, 0, 0, 16 * X.u⟩
/-- the code that Join tells -/
def joiC (X : Lb) (nm : ByteArray) : Int := match fdI X.A nm with
  | none => 120
  | some a => if plyS X a then 121 else if X.most ≤ X.S.length then 111 else 0
/-- the session, if one begins -/
def joiS (X : Lb) (fr nonce salt nm : ByteArray) (tick : Nat) : Option Se := match fdI X.A nm with
  | none => none
  | some a => if plyS X a then none else if X.most ≤ X.S.length then none else some (joiE X fr nonce salt nm tick a)
/-- the lobby behind it -/
def joiX (X : Lb) (fr nonce salt nm : ByteArray) (tick : Nat) : Lb := match joiS X fr nonce salt nm tick with
  | none => X
  | some s => { X with next := X.next + 1, S := X.S ++ [s] }
set_option maxRecDepth 100000 in
theorem LbOk.join {X : Lb} {fr nonce salt nm : ByteArray} {tick : Nat} (ok : LbOk X) (hx : X.next < 1000000) (ht : tick < 18446744073709551616) (hn : nm.size ≤ 281474976710656) (hf : fr.size ≤ 281474976710656) (ha : ∀ a, fdI X.A nm = some a → a < X.A.length) : LbOk (joiX X fr nonce salt nm tick) := by
  unfold joiX
  cases hs : joiS X fr nonce salt nm tick with
  | none => exact ok
  | some s =>
    unfold joiS at hs
    cases hfd : fdI X.A nm with
    | none => rw [hfd] at hs; cases hs
    | some a =>
      rw [hfd] at hs
      simp only at hs
      split at hs
      · cases hs
      · split at hs
        · cases hs
        · rename_i _ hl
          obtain rfl : joiE X fr nonce salt nm tick a = s := by simpa using hs
          obtain ⟨j, hj, hjm, _, _⟩ := frS_at X (by omega) ok.m2
          have hjn : (frS X).toNat = j := by rw [hj]; rfl
          refine ⟨ok.m1, ok.m2, ok.r, ok.a1, ok.a2, by show 1 ≤ X.next + 1; omega, by show X.next + 1 ≤ 1000000; omega, ?_, fun z hz => ?_, ?_⟩
          · show ((X.S ++ [joiE X fr nonce salt nm tick a]).map Se.num).Nodup
            rw [List.map_append, List.nodup_append]
            refine ⟨ok.nd, by simp, fun x hx1 y hy => ?_⟩
            obtain ⟨q, hq, rfl⟩ := List.mem_map.1 hx1
            obtain rfl : y = X.next := by simpa [joiE] using hy
            have := (ok.s q hq).2.1
            omega
          · rcases List.mem_append.1 hz with h | h
            · obtain ⟨b1, b2, b3⟩ := ok.s z h
              exact ⟨b1, Nat.lt_succ_of_lt b2, b3⟩
            · obtain rfl : z = joiE X fr nonce salt nm tick a := by simpa using h
              have hu := ok.r.2.2.1
              refine ⟨ok.n1, Nat.lt_succ_self _, by show (frS X).toNat < X.most; omega, sl_drv _ _ _, ha a hfd, ht, Nat.lt_of_sub_pos (show 0 < 18446744073709551616 - 0 by decide), Nat.lt_of_sub_pos (show 0 < 18446744073709551616 - 0 by decide), Nat.lt_of_sub_pos (show 0 < 18446744073709551616 - 0 by decide), Nat.lt_of_sub_pos (show 0 < 18446744073709551616 - 0 by decide), ?_, Int.le_refl _, hn, hf⟩
              show 0 ≤ 16 * X.u
              omega
          · show (X.S ++ [joiE X fr nonce salt nm tick a]).length ≤ X.most
            rw [List.length_append]
            show X.S.length + 1 ≤ X.most
            omega
end Go.Proofs.YtplcicbpkbamnabGreatDoor.Lo

/- lobby: Join refuses. -/
namespace Go.Proofs.YtplcicbpkbamnabGreatDoor.Lo
open Go Go.RowKit Go.Maps

set_option maxRecDepth 100000 in
theorem joi_no {X : Lb} {nm : ByteArray} (h : fdI X.A nm = none) (fr nonce salt : ByteArray) (tick : Nat) : joiC X nm = 120 ∧ joiS X fr nonce salt nm tick = none := by
  unfold joiC joiS; rw [h]; exact ⟨rfl, rfl⟩
set_option maxRecDepth 100000 in
theorem joi_taken {X : Lb} {nm : ByteArray} {a : Nat} (h : fdI X.A nm = some a) (hp : plyS X a = true) (fr nonce salt : ByteArray) (tick : Nat) : joiC X nm = 121 ∧ joiS X fr nonce salt nm tick = none := by
  unfold joiC joiS; rw [h]; simp [hp]
set_option maxRecDepth 100000 in
theorem joi_full {X : Lb} {nm : ByteArray} {a : Nat} (h : fdI X.A nm = some a) (hp : plyS X a = false) (hl : X.most ≤ X.S.length) (fr nonce salt : ByteArray) (tick : Nat) : joiC X nm = 111 ∧ joiS X fr nonce salt nm tick = none := by
  unfold joiC joiS; rw [h]; simp [hp, hl]
set_option maxRecDepth 100000 in
theorem joi_yes {X : Lb} {nm : ByteArray} {a : Nat} (h : fdI X.A nm = some a) (hp : plyS X a = false) (hl : X.S.length < X.most) (fr nonce salt : ByteArray) (tick : Nat) : joiC X nm = 0 ∧ joiS X fr nonce salt nm tick = some (joiE X fr nonce salt nm tick a) := by
  unfold joiC joiS; rw [h]; simp [hp, show ¬ X.most ≤ X.S.length by omega]
set_option maxRecDepth 100000 in
set_option maxHeartbeats 16000000 in
theorem join_no (w0 W : World) (l : List As) (lb : Nat) (X : Lb) (fr nonce salt nm : ByteArray) (tick : Nat) (h : Sep w0 W (lobA lb X :: l)) (ok : LbOk X) (hk : Na.Kc W) (hs : nm.size ≤ 281474976710656) (hno : fdI X.A nm = none) :
    Calls Tryz.prog 14 #[pt lb, .string fr, .string nonce, .string salt, .string nm, uv tick] W fun e W' => e = .returned (.tuple #[.agg z7.toArray, iv (joiC X nm)]) ∧ Sep w0 W' (lobA lb X :: l) := by
  obtain ⟨du, hdu, hdr⟩ := under42
  have S0 := h.newBox z7.toArray 49
  obtain ⟨W1, hW1⟩ : ∃ W1, W.alloc (.cells z7.toArray 49) = W1 := ⟨_, rfl⟩
  obtain ⟨rb, hrb⟩ : ∃ rb, W.heap.size = rb := ⟨_, rfl⟩
  have hk1 : Na.Kc W1 := by rw [← hW1]; exact hk.kept (World.grownBy_alloc _ _ _)
  rw [hW1, hrb] at S0
  change Sep w0 W1 (boxA rb z7 49 :: lobA lb X :: l) at S0
  have HZ1 := Keep.mk z7_one
  obtain ⟨⟨v, mb, P⟩, S0⟩ := S0.swap.opn
  have c5 : W1.cell? ⟨lb, 5, none⟩ = some v := (S0.boxGet k1m).cellv 5 _ rfl
  have hA : AcR W1 v X.A := acr_of ok.a1 (S0.rowGet k2m)
  have hF := find_c W1 v X.A nm hA hk1 hs ok.a2
  obtain ⟨a, cap, hve, _⟩ := hA.o
  subst hve
  have HS : Keep (∀ W', W1.grownBy W' none → Sep w0 W' (boxA rb z7 49 :: lobA lb X :: l)) := ⟨fun W' g => (Sep.cls (lobL lb X) (_, mb, P) (S0.grown g)).swap⟩
  have HR := Keep.mk (joi_no hno fr nonce salt tick).1
  rw [hno] at hF
  simp only [idv] at hF
  unfold z7 at hW1
  clear h S0 hA hno ok hk hk1
  go_enter Tryz.func14, Tryz.ntmps14
  go_wp2_with fail
  refine hF.mono ?_
  rintro e w1 ⟨rfl, g1⟩
  have HS1 := Keep.mk (HS.out w1 g1)
  have HRB := Keep.mk (HS1.out.boxGet k0m)
  clear hF g1 HS c5
  go_wp2_with (first
      | (show wpList _ _ _ ({ dst := _, op := Op.store 49 _ _, type := _, pos := _, after := _, guard := _ } :: _) _ _
         refine store_box _ rb z7 z7 49 rfl rfl rfl rfl HRB.out rfl (by exact info42) HZ1.out ?_))
  intro w7 hS7 g7
  have HS7 := Keep.mk (hS7 _ _ HS1.out)
  clear hS7 g7 HRB HS1
  go_wp2_with fail
  refine Bu.ret_ct rfl rfl (HS7.out.boxGet k0m) hdu hdr (by exact info42) rfl ?_
  rw [HR.out]
  exact ⟨rfl, HS7.out.tail⟩
set_option maxRecDepth 100000 in
set_option maxHeartbeats 16000000 in
theorem join_taken (w0 W : World) (l : List As) (lb : Nat) (X : Lb) (fr nonce salt nm : ByteArray) (tick : Nat) (h : Sep w0 W (lobA lb X :: l)) (ok : LbOk X) (hk : Na.Kc W) (hs : nm.size ≤ 281474976710656) (ac : Nat) (hno : fdI X.A nm = some ac) (hpl : plyS X ac = true) :
    Calls Tryz.prog 14 #[pt lb, .string fr, .string nonce, .string salt, .string nm, uv tick] W fun e W' => e = .returned (.tuple #[.agg z7.toArray, iv (joiC X nm)]) ∧ Sep w0 W' (lobA lb X :: l) := by
  obtain ⟨du, hdu, hdr⟩ := under42
  have S0 := h.newBox z7.toArray 49
  obtain ⟨W1, hW1⟩ : ∃ W1, W.alloc (.cells z7.toArray 49) = W1 := ⟨_, rfl⟩
  obtain ⟨rb, hrb⟩ : ∃ rb, W.heap.size = rb := ⟨_, rfl⟩
  have hk1 : Na.Kc W1 := by rw [← hW1]; exact hk.kept (World.grownBy_alloc _ _ _)
  rw [hW1, hrb] at S0
  change Sep w0 W1 (boxA rb z7 49 :: lobA lb X :: l) at S0
  have HZ1 := Keep.mk z7_one
  obtain ⟨⟨v, mb, P⟩, S0⟩ := S0.swap.opn
  have c5 : W1.cell? ⟨lb, 5, none⟩ = some v := (S0.boxGet k1m).cellv 5 _ rfl
  have hA : AcR W1 v X.A := acr_of ok.a1 (S0.rowGet k2m)
  have hF := find_c W1 v X.A nm hA hk1 hs ok.a2
  obtain ⟨a, cap, hve, _⟩ := hA.o
  subst hve
  have HS : Keep (∀ W', W1.grownBy W' none → Sep w0 W' (boxA rb z7 49 :: lobA lb X :: l)) := ⟨fun W' g => (Sep.cls (lobL lb X) (_, mb, P) (S0.grown g)).swap⟩
  have HR := Keep.mk (joi_taken hno hpl fr nonce salt tick).1
  rw [hno] at hF
  simp only [idv] at hF
  unfold z7 at hW1
  have HPL : Keep (plyS X ac = true ∧ LbOk X) := ⟨hpl, ok⟩
  clear h S0 hA hno ok hk hk1 hpl
  go_enter Tryz.func14, Tryz.ntmps14
  go_wp2_with fail
  refine hF.mono ?_
  rintro e w1 ⟨rfl, g1⟩
  have HS1 := Keep.mk (HS.out w1 g1)
  have hP := plays_c w0 w1 _ lb X ac HS1.out.swap HPL.out.2
  rw [HPL.out.1] at hP
  clear hF g1 HS c5 HS1
  go_wp2_with fail
  refine hP.mono ?_
  rintro e w2 ⟨rfl, S2⟩
  have HS1 := Keep.mk S2.swap
  have HRB := Keep.mk (HS1.out.boxGet k0m)
  clear hP S2
  go_wp2_with (first
      | (show wpList _ _ _ ({ dst := _, op := Op.store 49 _ _, type := _, pos := _, after := _, guard := _ } :: _) _ _
         refine store_box _ rb z7 z7 49 rfl rfl rfl rfl HRB.out rfl (by exact info42) HZ1.out ?_))
  intro w7 hS7 g7
  have HS7 := Keep.mk (hS7 _ _ HS1.out)
  clear hS7 g7 HRB HS1
  go_wp2_with fail
  refine Bu.ret_ct rfl rfl (HS7.out.boxGet k0m) hdu hdr (by exact info42) rfl ?_
  rw [HR.out]
  exact ⟨rfl, HS7.out.tail⟩
end Go.Proofs.YtplcicbpkbamnabGreatDoor.Lo

/- lobby: Join refuses: full. -/
namespace Go.Proofs.YtplcicbpkbamnabGreatDoor.Lo
open Go Go.RowKit Go.Maps

set_option maxRecDepth 100000 in
set_option maxHeartbeats 16000000 in
theorem join_full (w0 W : World) (l : List As) (lb : Nat) (X : Lb) (fr nonce salt nm : ByteArray) (tick : Nat) (h : Sep w0 W (lobA lb X :: l)) (ok : LbOk X) (hk : Na.Kc W) (hs : nm.size ≤ 281474976710656) (ac : Nat) (hno : fdI X.A nm = some ac) (hpl : plyS X ac = false) (hfl : X.most ≤ X.S.length) :
    Calls Tryz.prog 14 #[pt lb, .string fr, .string nonce, .string salt, .string nm, uv tick] W fun e W' => e = .returned (.tuple #[.agg z7.toArray, iv (joiC X nm)]) ∧ Sep w0 W' (lobA lb X :: l) := by
  obtain ⟨du, hdu, hdr⟩ := under42
  have S0 := h.newBox z7.toArray 49
  obtain ⟨W1, hW1⟩ : ∃ W1, W.alloc (.cells z7.toArray 49) = W1 := ⟨_, rfl⟩
  obtain ⟨rb, hrb⟩ : ∃ rb, W.heap.size = rb := ⟨_, rfl⟩
  have hk1 : Na.Kc W1 := by rw [← hW1]; exact hk.kept (World.grownBy_alloc _ _ _)
  rw [hW1, hrb] at S0
  change Sep w0 W1 (boxA rb z7 49 :: lobA lb X :: l) at S0
  have HZ1 := Keep.mk z7_one
  obtain ⟨⟨v, mb, P⟩, S0⟩ := S0.swap.opn
  have c5 : W1.cell? ⟨lb, 5, none⟩ = some v := (S0.boxGet k1m).cellv 5 _ rfl
  have hA : AcR W1 v X.A := acr_of ok.a1 (S0.rowGet k2m)
  have hF := find_c W1 v X.A nm hA hk1 hs ok.a2
  obtain ⟨a, cap, hve, _⟩ := hA.o
  subst hve
  have HS : Keep (∀ W', W1.grownBy W' none → Sep w0 W' (boxA rb z7 49 :: lobA lb X :: l)) := ⟨fun W' g => (Sep.cls (lobL lb X) (_, mb, P) (S0.grown g)).swap⟩
  have HR := Keep.mk (joi_full hno hpl hfl fr nonce salt tick).1
  rw [hno] at hF
  simp only [idv] at hF
  unfold z7 at hW1
  have HPL : Keep (plyS X ac = false ∧ LbOk X ∧ X.most ≤ X.S.length) := ⟨hpl, ok, hfl⟩
  clear h S0 hA hno ok hk hk1 hpl hfl
  go_enter Tryz.func14, Tryz.ntmps14
  go_wp2_with fail
  refine hF.mono ?_
  rintro e w1 ⟨rfl, g1⟩
  have HS1 := Keep.mk (HS.out w1 g1)
  have hP := plays_c w0 w1 _ lb X ac HS1.out.swap HPL.out.2.1
  rw [HPL.out.1] at hP
  clear hF g1 HS c5 HS1
  go_wp2_with fail
  refine hP.mono ?_
  rintro e w2 ⟨rfl, S2⟩
  have HS1 := Keep.mk (S2.swap.grown (gr_drew w2 none))
  have HRB := Keep.mk (HS1.out.boxGet k0m)
  obtain ⟨⟨v2, mb2, P2⟩, S3⟩ := S2.opn
  have S3d := S3.grown (gr_drew w2 none)
  have c7 : w2.cell? ⟨lb, 7, none⟩ = some (.map (some mb2)) := (S3.boxGet k1m).cellv 7 _ rfl
  have c0 : w2.cell? ⟨lb, 0, none⟩ = some (iv (X.most : Nat)) := (S3.boxGet k1m).cellv 0 _ rfl
  have hP2 : P2.map (fun p => p.2) = X.S := S3.fact k0m
  have hlen := (S3d.mapGet k3m : MapIs w2.drew mb2 _).len 3
  rw [List.length_map, show P2.length = X.S.length by rw [← hP2, List.length_map]] at hlen
  have hge : ((X.most : Nat) : Int) ≤ (X.S.length : Nat) := by have := HPL.out.2.2; omega
  clear hP S2 S3 S3d hP2
  go_wp2_with fail
  go_region
  go_wp2_with (first
      | (show wpList _ _ _ ({ dst := _, op := Op.store 49 _ _, type := _, pos := _, after := _, guard := _ } :: _) _ _
         refine store_box _ rb z7 z7 49 rfl rfl rfl rfl HRB.out rfl (by exact info42) HZ1.out ?_))
  intro w7 hS7 g7
  have HS7 := Keep.mk (hS7 _ _ HS1.out)
  clear hS7 g7 HRB HS1
  go_wp2_with fail
  refine Bu.ret_ct rfl rfl (HS7.out.boxGet k0m) hdu hdr (by exact info42) rfl ?_
  rw [HR.out]
  exact ⟨rfl, HS7.out.tail⟩
end Go.Proofs.YtplcicbpkbamnabGreatDoor.Lo

