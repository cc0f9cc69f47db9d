/- TableScript: the function that Each is handed. -/
import Derived.Test.YtkaakbldkicnaaaT1
namespace Go.Proofs.Ytkaakbldkicnaaa
open Go Go.RowKit Go.Maps

/-- a step, at a depth -/
def StepC (w0 : World) (m : Nat) (dp : Int) : Prop :=
  ∀ (W : World) (b : Bool) (pb t t' d d' s s' : Nat) (L L' : KV) (tv wv : Value) (n c : Nat) (R : List As) (vs : List Value), OpV w0 m vs c → n + c ≤ 4194304 → Sep w0 W (stB b pb t t' d d' s s' L L' tv wv n R) →
    Calls Try.prog 31 #[pt pb, .agg vs.toArray, iv dp] W (StP w0 b pb t t' d d' s s' n c R)
/-- the variables that the function has with the call that made it -/
def bxs (nb kb dx gb sb ob px eb : Nat) (nx : Nat) (vk : Value) (d st : Nat) (op : List Value) (pb : Nat) (dp : Int) : List As :=
  [boxA nb [iv (nx : Nat)] 3, boxA kb [vk] 22, boxA dx [pt d] 54, boxA gb [.bool true] 4, boxA sb [iv (st : Nat)] 3, boxA ob op 62, boxA px [pt pb] 52, boxA eb [iv dp] 3]
structure BxC (W : World) (nb kb dx gb sb ob px eb : Nat) (nx : Nat) (vk : Value) (d st : Nat) (pb : Nat) (dp : Int) : Prop where
  nx : W.cell? ⟨nb, 0, none⟩ = some (iv (nx : Nat))
  vk : W.cell? ⟨kb, 0, none⟩ = some vk
  d : W.cell? ⟨dx, 0, none⟩ = some (pt d)
  g : W.cell? ⟨gb, 0, none⟩ = some (.bool true)
  st : W.cell? ⟨sb, 0, none⟩ = some (iv (st : Nat))
  pb : W.cell? ⟨px, 0, none⟩ = some (pt pb)
  dp : W.cell? ⟨eb, 0, none⟩ = some (iv dp)
  fn : W.frozen? ⟨nb, 0, none⟩ = false
  fs : W.frozen? ⟨sb, 0, none⟩ = false
theorem Sep.bxc {w0 W : World} {l : List As} {nb kb dx gb sb ob px eb nx : Nat} {vk : Value} {d st : Nat} {op : List Value} {pb : Nat} {dp : Int} (h : Sep w0 W l) (hm : ∀ a ∈ bxs nb kb dx gb sb ob px eb nx vk d st op pb dp, a ∈ l) : BxC W nb kb dx gb sb ob px eb nx vk d st pb dp :=
  ⟨(h.boxGet (hm _ k0m)).cellv 0 _ rfl, (h.boxGet (hm _ k1m)).cellv 0 _ rfl, (h.boxGet (hm _ k2m)).cellv 0 _ rfl, (h.boxGet (hm _ k3m)).cellv 0 _ rfl, (h.boxGet (hm _ k4m)).cellv 0 _ rfl, (h.boxGet (hm _ (List.mem_cons_of_mem _ k5m))).cellv 0 _ rfl, (h.boxGet (hm _ (List.mem_cons_of_mem _ (List.mem_cons_of_mem _ k5m)))).cellv 0 _ rfl, (h.boxGet (hm _ k0m)).frozen 0, (h.boxGet (hm _ k4m)).frozen 0⟩
/-- where the function is called: the play, Each's own list, the list of the call that made it, the variables -/
def clL (b : Bool) (pb t t' d d' s s' : Nat) (L LR L' : KV) (tv wv : Value) (n : Nat) (v vk : Value) (K : List ByteArray) (X : List As) (R : List As) : List As :=
  boxA pb (pcb b t t' d d' tv wv) 58 :: tabA t s L :: refA d s LR :: tabA t' s' L' :: refA d' s' L' :: bookA tv wv n :: rowA v K :: rowA vk K :: (X ++ R)
theorem cl_bx {b : Bool} {pb t t' d d' s s' : Nat} {L LR L' : KV} {tv wv : Value} {n : Nat} {v vk : Value} {K : List ByteArray} {X R : List As} : ∀ a ∈ X, a ∈ clL b pb t t' d d' s s' L LR L' tv wv n v vk K X R := fun a ha => by
  unfold clL
  simp only [List.mem_cons, List.mem_append]
  simp [ha]
theorem cl_st {w0 W : World} {b : Bool} {pb t t' d d' s s' : Nat} {L L' : KV} {tv wv : Value} {n : Nat} {v vk : Value} {K : List ByteArray} {X R : List As} (h : Sep w0 W (clL b pb t t' d d' s s' L L L' tv wv n v vk K X R)) : Sep w0 W (stB b pb t t' d d' s s' L L' tv wv n (rowA v K :: rowA vk K :: (X ++ R))) := h
/-- the first of the variables is written -/
theorem cl_next {w0 W : World} {b : Bool} {pb t t' d d' s s' : Nat} {L LR L' : KV} {tv wv : Value} {n : Nat} {v vk : Value} {K : List ByteArray} {R : List As} {nb kb dx gb sb ob px eb nx : Nat} {st : Nat} {op : List Value} {dp : Int}
    (h : Sep w0 W (clL b pb t t' d d' s s' L LR L' tv wv n v vk K (bxs nb kb dx gb sb ob px eb nx vk d st op pb dp) R)) (q : Nat) : Sep w0 (W.setCell ⟨nb, 0, none⟩ (iv (q : Nat))) (clL b pb t t' d d' s s' L LR L' tv wv n v vk K (bxs nb kb dx gb sb ob px eb q vk d st op pb dp) R) := by
  have h1 := (fr1 [_, _, _, _, _, _, _, _] h).boxSet (iv (q : Nat))
  exact bk1 [_, _, _, _, _, _, _, _] h1
theorem cl_step {w0 W : World} {b : Bool} {pb t t' d d' s s' : Nat} {L LR L' : KV} {tv wv : Value} {n : Nat} {v vk : Value} {K : List ByteArray} {R : List As} {nb kb dx gb sb ob px eb nx : Nat} {st : Nat} {op : List Value} {dp : Int}
    (h : Sep w0 W (clL b pb t t' d d' s s' L LR L' tv wv n v vk K (bxs nb kb dx gb sb ob px eb nx vk d st op pb dp) R)) (q : Nat) : Sep w0 (W.setCell ⟨sb, 0, none⟩ (iv (q : Nat))) (clL b pb t t' d d' s s' L LR L' tv wv n v vk K (bxs nb kb dx gb sb ob px eb nx vk d q op pb dp) R) := by
  have h1 := (fr1 [_, _, _, _, _, _, _, _, _, _, _, _] h).boxSet (iv (q : Nat))
  exact bk1 [_, _, _, _, _, _, _, _, _, _, _, _] h1
theorem cl_op {w0 W : World} {b : Bool} {pb t t' d d' s s' : Nat} {L LR L' : KV} {tv wv : Value} {n : Nat} {v vk : Value} {K : List ByteArray} {R : List As} {nb kb dx gb sb ob px eb nx : Nat} {st : Nat} {dp : Int} {k a : Int} {key : ByteArray} {x : Int} {a0 : Option Addr} {ni ci : Nat}
    (h : Sep w0 W (clL b pb t t' d d' s s' L LR L' tv wv n v vk K (bxs nb kb dx gb sb ob px eb nx vk d st (opL k a key x a0 ni ci) pb dp) R)) : OpC W ob k a key x a0 ni ci :=
  h.opc (cl_bx _ (by unfold bxs; simp))
theorem OpV.form {W : World} {m : Nat} {vs : List Value} {c : Nat} (h : OpV W m vs c) : ∃ (k a : Int) (key : ByteArray) (x : Int) (inn : Value), vs = [iv k, iv a, .string key, iv x, inn] := by
  cases m with
  | zero => obtain ⟨k, a, key, x, inn, e, _⟩ := h; exact ⟨k, a, key, x, inn, e⟩
  | succ m => obtain ⟨k, a, key, x, a0, n, cap, cs, e, _⟩ := h; exact ⟨k, a, key, x, _, e⟩
theorem sum_take (cs : List Nat) (i c : Nat) (h : cs[i]? = some c) : (cs.take (i + 1)).sum = (cs.take i).sum + c ∧ (cs.take i).sum + c ≤ cs.sum := by
  obtain ⟨hi, e⟩ := List.getElem?_eq_some_iff.1 h
  have e1 : (cs.take (i + 1)).sum = (cs.take i).sum + c := by rw [List.take_add_one, h, List.sum_append]; simp
  refine ⟨e1, ?_⟩
  have e2 : cs.sum = (cs.take (i + 1)).sum + (cs.drop (i + 1)).sum := by rw [← List.sum_append, List.take_append_drop]
  omega
/-- what the first of the variables holds -/
def nxOf (w : World) (nb : Nat) : Nat := match w.cell? ⟨nb, 0, none⟩ with
  | some (.int _ z) => z.toNat
  | _ => 0
theorem nxOf_of {w : World} {nb q : Nat} (h : w.cell? ⟨nb, 0, none⟩ = some (iv (q : Nat))) : nxOf w nb = q := by
  unfold nxOf
  rw [h]
  simp
set_option maxRecDepth 100000 in
set_option maxHeartbeats 16000000 in
theorem clos_c (w0 W : World) (m : Nat) (b : Bool) (pb t t' d d' s s' : Nat) (L L' : KV) (tv wv : Value) (n n0 : Nat) (v : Value) (ka : Addr) (kn kc : Nat) (K : List ByteArray) (R : List As) (nb kb dx gb sb ob px eb nx st : Nat) (ok oa : Int) (okey : ByteArray) (X : Int) (a0 : Option Addr) (ni ci : Nat) (dp : Int) (cs : List Nat) (i : Nat) (k : ByteArray) (x : Int)
    (h : Sep w0 W (clL b pb t t' d d' s s' L L L' tv wv n v (.slice (some ka) kn kc) K (bxs nb kb dx gb sb ob px eb nx (.slice (some ka) kn kc) d st (opL ok oa okey X a0 ni ci) pb dp) R))
    (hstep : StepC w0 m (dp + 1)) (hdp : 0 ≤ dp ∧ dp ≤ 2) (hkn : K.length = kn) (hk4 : kn ≤ 4096) (hki : K[i]? = some k) (hlk : Tb.look L k = some x) (hnx : nx ≤ i) (hgone : ∀ j, nx ≤ j → j < i → ∃ kj, K[j]? = some kj ∧ Tb.look L kj = none)
    (hcl : cs.length = ni) (hni : ni ≤ 1048576) (hst : st ≤ ni) (hn : n ≤ n0 + (cs.take st).sum) (hn0 : n0 + cs.sum + 1 ≤ 4194304)
    (hop : 0 < ni → ∃ B o, a0 = some ⟨B, o, none⟩ ∧ ∀ j cj, cs[j]? = some cj → ∃ vj, w0.rangeAt B (o + j * 5) vj ∧ OpV w0 m vj cj) :
    Calls Try.prog 53 #[.string k, iv x, pt nb, pt kb, pt dx, pt gb, pt sb, pt ob, pt px, pt eb] W fun r W' => r = .returned (iv (IntKind.i64.wrap (x + X))) ∧ ∃ M M' tv' wv' n' st', st' ≤ ni ∧ n' ≤ n0 + (cs.take st').sum ∧
      Sep w0 W' (clL b pb t t' d d' s s' M (Tb.setL M k (IntKind.i64.wrap (x + X))) M' tv' wv' n' v (.slice (some ka) kn kc) K (bxs nb kb dx gb sb ob px eb (i + 1) (.slice (some ka) kn kc) d st' (opL ok oa okey X a0 ni ci) pb dp) R) := by
  have H0 := Keep.mk h
  have HG : Keep (K.length = kn ∧ kn ≤ 4096 ∧ K[i]? = some k ∧ Tb.look L k = some x ∧ (∀ j, nx ≤ j → j < i → ∃ kj, K[j]? = some kj ∧ Tb.look L kj = none) ∧ i < kn) := ⟨hkn, hk4, hki, hlk, hgone, by rw [← hkn]; exact (List.getElem?_eq_some_iff.1 hki).1⟩
  have HN : Keep (cs.length = ni ∧ ni ≤ 1048576 ∧ st ≤ ni ∧ n ≤ n0 + (cs.take st).sum ∧ n0 + cs.sum + 1 ≤ 4194304) := ⟨hcl, hni, hst, hn, hn0⟩
  have HO := Keep.mk hop
  have HST := Keep.mk hstep
  have hin : (i : Int) < (kn : Nat) := by have := HG.out.2.2.2.2.2; omega
  have hkn4 : (kn : Int) ≤ 4096 := by omega
  have hni4 : (ni : Int) ≤ 1048576 := by omega
  have hsti : (st : Int) ≤ (ni : Nat) := by omega
  obtain ⟨yv, hyv⟩ : ∃ yv, IntKind.i64.wrap (x + X) = yv := ⟨_, rfl⟩
  rw [hyv]
  clear h hkn hk4 hki hlk hgone hcl hni hst hn hn0 hop hstep
  go_enter Try.func53, Try.ntmps53
  go_wp2_with fail
  go_loopw [13] (fun u wr => ∃ q : Nat, nx ≤ q ∧ q ≤ i + 1 ∧ u = .bool (decide (q = i + 1)) ∧ Keep (Sep w0 wr (clL b pb t t' d d' s s' L L L' tv wv n v (.slice (some ka) kn kc) K (bxs nb kb dx gb sb ob px eb q (.slice (some ka) kn kc) d st (opL ok oa okey X a0 ni ci) pb dp) R)) ∧ Keep (wr.cell? ⟨nb, 0, none⟩ = some (iv (q : Nat)))) (fun _ wr => i + 1 - nxOf wr nb)
  case atStart => exact ⟨nx, Nat.le_refl _, by omega, by simp; omega, H0, ⟨(H0.out.bxc cl_bx).nx⟩⟩
  case round =>
    clear H0
    obtain ⟨q, hq0, hq1, rfl, hR, hC⟩ := hrel
    have bc := hR.out.bxc cl_bx
    obtain ⟨b1, b2, b3, b4, b5, b6, b7, b8, b9⟩ := bc
    by_cases hlt : q ≤ i
    · have hqd : decide (q = i + 1) = false := decide_eq_false (by omega)
      obtain ⟨kq, hkq, hlq⟩ : ∃ kq, K[q]? = some kq ∧ Tb.look L kq = (if q = i then some x else none) := by
        by_cases e : q = i
        · exact ⟨k, by rw [e]; exact HG.out.2.2.1, by rw [if_pos e]; exact HG.out.2.2.2.1⟩
        · obtain ⟨kj, e1, e2⟩ := HG.out.2.2.2.2.1 q hq0 (by omega)
          exact ⟨kj, e1, by rw [if_neg e]; exact e2⟩
      have okk := hR.out.tab k1m
      obtain ⟨a', c', e, hcs⟩ := (hR.out.row (show rowA (.slice (some ka) kn kc) K ∈ _ by unfold clL; simp)).form (by rw [HG.out.1]; have := HG.out.2.2.2.2.2; omega)
      injection e with e1 e2 e3
      injection e1 with e1
      subst e1
      have cq := hcs q kq hkq
      have hp : ∀ (z : Nat), Calls Try.prog 42 #[pt d, .string kq] (wr.drewN z) fun r W' => r = .returned (.tuple #[iv ((if q = i then some x else none : Option Int).getD 0), .bool (decide (q = i))]) ∧ ∃ z2, W' = (wr.drewN z).drewN z2 := fun z => by
        have := rpeek_s kq (fr1 [_, _] (hR.out.grown (gr_drewN wr z none))) okk.four okk.nk
        rw [hlq] at this
        refine this.mono fun _ _ ⟨h1, h2⟩ => ⟨?_, 0, h2⟩
        rw [h1]
        by_cases e : q = i <;> simp [e]
      generalize (if q = i then some x else none : Option Int).getD 0 = pv at hp
      have hq2 : (0 : Int) ≤ (q : Int) := by omega
      have hq3 : (q : Int) < (kn : Nat) := by have := HG.out.2.2.2.2.2; omega
      have htq : ((q : Nat) : Int).toNat = q := by omega
      have hwq : IntKind.i64.wrap ((q : Int) + 1) = ((q + 1 : Nat) : Int) := by rw [wi _ (by omega) (by omega)]; omega
      have HQ : Keep (nx ≤ q ∧ q ≤ i) := ⟨hq0, hlt⟩
      rw [hqd]
      clear hqd hcs hkq hlq okk e2 e3 hq0 hq1 hlt
      go_wp2_with fail
      go_quiet (((go_at_call 42; with_reducible exact Calls.quiet_of (hp _))))
      generalize hw4 : World.drewN wr _ = w4
      have S4 := hR.out.grown (show wr.grownBy w4 none by rw [← hw4]; exact gr_drewN _ _ _)
      have d1 := (S4.bxc cl_bx).nx
      have f1 := (S4.bxc cl_bx).fn
      have S5 := cl_next S4 (q + 1)
      have HS5 := Keep.mk S5
      have d5 := (S5.bxc cl_bx).nx
      have HC5 := Keep.mk d5
      have HM := Keep.mk (nxOf_of d5)
      have HM0 := Keep.mk (nxOf_of b1)
      have HD : Keep (decide (q = i) = decide (q + 1 = i + 1)) := ⟨by simp⟩
      generalize decide (q = i) = dq at *
      clear hw4 S4 S5 b1 b2 b3 b4 b5 b6 b7 b8 b9 cq hp hR hC d5
      go_wp2_with fail
      have e : ((q : Int) + 1) = ((q + 1 : Nat) : Int) := by simp
      rw [e]
      exact ⟨⟨q + 1, by have := HQ.out; omega, by have := HQ.out; omega, by rw [HD.out], HS5, HC5⟩, by rw [HM.out, HM0.out]; have := HQ.out; omega⟩
    · obtain rfl : q = i + 1 := by omega
      have hqd : decide (i + 1 = i + 1) = true := by simp
      rw [hqd]
      have S := hR.out
      have okk := S.tab k1m
      obtain ⟨a', c', e, hcs⟩ := (S.row (show rowA (.slice (some ka) kn kc) K ∈ _ by unfold clL; simp)).form (by rw [HG.out.1]; have := HG.out.2.2.2.2.2; omega)
      injection e with e1 e2 e3
      injection e1 with e1
      subst e1
      have cq := hcs i k HG.out.2.2.1
      have hp := rpeek_s k (fr1 [_, _] S) okk.four okk.nk
      rw [HG.out.2.2.2.1] at hp
      obtain ⟨o0, o1, o2, o3, o4⟩ := cl_op S
      have hi0 : (0 : Int) ≤ (i : Int) := by omega
      have hti : ((i : Nat) : Int).toNat = i := by omega
      have hwm : IntKind.i64.wrap (((i + 1 : Nat) : Int) - 1) = (i : Int) := by rw [wi _ (by omega) (by omega)]; omega
      have hwm2 : IntKind.i64.wrap ((i : Int) + 1 - 1) = (i : Int) := by rw [wi _ (by omega) (by omega)]; omega
      have hi1 : ((i : Int) + 1 - 1) = (i : Int) := by omega
      clear hqd hq0 hq1 hlt hcs e2 e3 hC S okk
      by_cases hend : i + 1 < kn
      all_goals
        have hend2 : decide (((i : Int) + 1) < (kn : Nat)) = decide (i + 1 < kn) := by simp; omega
        go_wp2_with fail
        refine hp.mono ?_
        rintro r w5 ⟨rfl, hw⟩
        subst w5
        clear hp hend hend2
        by_cases hsn : st < ni
        · obtain ⟨BB, bo, ha0, hops⟩ := HO.out (by omega)
          subst ha0
          obtain ⟨cj, hcj⟩ : ∃ cj, cs[st]? = some cj := ⟨_, List.getElem?_eq_getElem (by rw [HN.out.1]; exact hsn)⟩
          obtain ⟨vj, hrj, hvj⟩ := hops st cj hcj
          obtain ⟨pk, pa, pkey, px', pinn, rfl⟩ := hvj.form
          have HRJ := Keep.mk hrj
          have HVJ := Keep.mk hvj
          have HCJ := Keep.mk hcj
          have hs0 : (0 : Int) ≤ (st : Int) := by omega
          have hs1 : (st : Int) < (ni : Nat) := by omega
          have hts : ((st : Nat) : Int).toNat = st := by omega
          have hws : IntKind.i64.wrap ((st : Int) + 1) = (st : Int) + 1 := wi _ (by omega) (by omega)
          have hwd : IntKind.i64.wrap (dp + 1) = dp + 1 := wi _ (by omega) (by omega)
          clear hops hrj hvj hcj
          go_wp2_with fail
          have SD := hR.out.grown (gr_drew wr none)
          refine wp_region_held_drew (S := fun w => w.cell? ⟨px, 0, none⟩ = some (pt pb) ∧ w.cell? ⟨ob, 4, none⟩ = some (.slice (some ⟨BB, bo, none⟩) ni ci) ∧ w.cell? ⟨sb, 0, none⟩ = some (iv (st : Nat)) ∧ w.cell? ⟨eb, 0, none⟩ = some (iv dp) ∧ w0.grownBy w none) (by kernel_rfl) ⟨(SD.bxc cl_bx).pb, (cl_op SD).i, (SD.bxc cl_bx).st, (SD.bxc cl_bx).dp, SD.g⟩ (fun hHeld => ?_)
          generalize wr.drew = w2 at SD hHeld ⊢
          have HSD := Keep.mk SD
          clear hR SD b1 b2 b3 b4 b5 b6 b7 b8 b9 o0 o1 o2 o3 o4 cq
          refine wpAnyH_take (i := 0) (oi := _) (v := ?_) rfl (by kernel_rfl) (by kernel_rfl) (by kernel_rfl) (fun _ _ _ h => h) (Or.inl ⟨by rfl, ?_⟩) (by assumption) ?_
          rotate_left
          · (intro w hSw; obtain ⟨y1, y2, y3, y4, y5⟩ := hSw; go_simp; first | done | (with_reducible rfl))
          simp only [Act.put, List.getElem_toArray, List.getElem_cons_zero, List.setIfInBounds_toArray, List.set_cons_zero, List.set_cons_succ]
          refine wpAnyH_take (i := 1) (oi := _) (v := ?_) rfl (by kernel_rfl) (by kernel_rfl) (by kernel_rfl) (fun _ _ _ h => h) (Or.inl ⟨by rfl, ?_⟩) (by assumption) ?_
          rotate_left
          · (intro w hSw; go_simp; first | done | (with_reducible rfl))
          simp only [Act.put, List.getElem_toArray, List.getElem_cons_succ, List.getElem_cons_zero, List.setIfInBounds_toArray, List.set_cons_zero, List.set_cons_succ]
          refine wpAnyH_take (i := 2) (oi := _) (v := ?_) rfl (by kernel_rfl) (by kernel_rfl) (by kernel_rfl) (fun _ _ _ h => h) (Or.inl ⟨by rfl, ?_⟩) (by assumption) ?_
          rotate_left
          · (intro w hSw; obtain ⟨y1, y2, y3, y4, y5⟩ := hSw; go_simp; first | done | (with_reducible rfl))
          simp only [Act.put, List.getElem_toArray, List.getElem_cons_succ, List.getElem_cons_zero, List.setIfInBounds_toArray, List.set_cons_zero, List.set_cons_succ]
          refine wpAnyH_take (i := 3) (oi := _) (v := ?_) rfl (by kernel_rfl) (by kernel_rfl) (by kernel_rfl) (fun _ _ _ h => h) (Or.inl ⟨by rfl, ?_⟩) (by assumption) ?_
          rotate_left
          · (intro w hSw; obtain ⟨y1, y2, y3, y4, y5⟩ := hSw; go_simp; first | done | (with_reducible rfl))
          simp only [Act.put, List.getElem_toArray, List.getElem_cons_succ, List.getElem_cons_zero, List.setIfInBounds_toArray, List.set_cons_zero, List.set_cons_succ]
          refine wpAnyH_take (i := 4) (oi := _) (v := ?_) rfl (by kernel_rfl) (by kernel_rfl) (by kernel_rfl) (fun _ _ _ h => h) (Or.inl ⟨by rfl, ?_⟩) (by assumption) ?_
          rotate_left
          · (intro w hSw; go_simp; first | done | (with_reducible rfl))
          simp only [Act.put, List.getElem_toArray, List.getElem_cons_succ, List.getElem_cons_zero, List.setIfInBounds_toArray, List.set_cons_zero, List.set_cons_succ]
          refine wpAnyH_take (i := 5) (oi := _) (v := ?_) rfl (by kernel_rfl) (by kernel_rfl) (by kernel_rfl) (fun _ _ _ h => h) (Or.inl ⟨by rfl, ?_⟩) (by assumption) ?_
          rotate_left
          · (intro w hSw; have y5 := hSw.2.2.2.2; have z0 : w.cell? ⟨BB, bo + st * 5, none⟩ = some (iv pk) := y5.cell (HRJ.out 0 _ rfl) (by simp); have z1 : w.cell? ⟨BB, bo + st * 5 + 1, none⟩ = some (iv pa) := y5.cell (HRJ.out 1 _ rfl) (by simp); have z2 : w.cell? ⟨BB, bo + st * 5 + 2, none⟩ = some (.string pkey) := y5.cell (HRJ.out 2 _ rfl) (by simp); have z3 : w.cell? ⟨BB, bo + st * 5 + 3, none⟩ = some (iv px') := y5.cell (HRJ.out 3 _ rfl) (by simp); have z4 : w.cell? ⟨BB, bo + st * 5 + 4, none⟩ = some pinn := y5.cell (HRJ.out 4 _ rfl) (by simp); clear hSw; go_simp; first | done | (with_reducible rfl))
          simp only [Act.put, List.getElem_toArray, List.getElem_cons_succ, List.getElem_cons_zero, List.setIfInBounds_toArray, List.set_cons_zero, List.set_cons_succ]
          refine wpAnyH_take (i := 6) (oi := _) (v := ?_) rfl (by kernel_rfl) (by kernel_rfl) (by kernel_rfl) (fun _ _ _ h => h) (Or.inl ⟨by rfl, ?_⟩) (by assumption) ?_
          rotate_left
          · (intro w hSw; obtain ⟨y1, y2, y3, y4, y5⟩ := hSw; go_simp; first | done | (with_reducible rfl))
          simp only [Act.put, List.getElem_toArray, List.getElem_cons_succ, List.getElem_cons_zero, List.setIfInBounds_toArray, List.set_cons_zero, List.set_cons_succ]
          refine wpAnyH_take (i := 7) (oi := _) (v := ?_) rfl (by kernel_rfl) (by kernel_rfl) (by kernel_rfl) (fun _ _ _ h => h) (Or.inl ⟨by rfl, ?_⟩) (by assumption) ?_
          rotate_left
          · (intro w hSw; go_simp; first | done | (with_reducible rfl))
          simp only [Act.put, List.getElem_toArray, List.getElem_cons_succ, List.getElem_cons_zero, List.setIfInBounds_toArray, List.set_cons_zero, List.set_cons_succ]
          refine wpAnyH_ready (rs := [8]) (by kernel_rfl) (by simp) ?_
          refine AllReadyH.cons rfl (fun K' hK => ?_) AllReadyH.nil
          have hbd : n + cj ≤ 4194304 := by
            obtain ⟨_, _, _, q4, q5⟩ := HN.out
            have := sum_take cs st cj HCJ.out
            omega
          have hS := HST.out w2 b pb t t' d d' s s' L L' tv wv n cj _ _ HVJ.out hbd (cl_st HSD.out)
          go_simp
          go_wp2_with fail
          refine hS.mono ?_
          rintro r w3 ⟨rfl, M, M', tv', wv', n', hn', S3⟩
          change Sep w0 w3 (clL b pb t t' d d' s s' M M M' tv' wv' n' v (.slice (some ka) kn kc) K (bxs nb kb dx gb sb ob px eb (i + 1) (.slice (some ka) kn kc) d st (opL ok oa okey X (some ⟨BB, bo, none⟩) ni ci) pb dp) R) at S3
          clear hS HSD hHeld
          refine hK.out _ _ ⟨(S3.bxc cl_bx).pb, (cl_op S3).i, (S3.bxc cl_bx).st, (S3.bxc cl_bx).dp, S3.g⟩ (fun hHeld => ?_)
          clear hK K'
          refine wpAnyH_take (i := 9) (oi := _) (v := ?_) rfl (by kernel_rfl) (by kernel_rfl) (by kernel_rfl) (fun _ _ _ h => h) (Or.inl ⟨by rfl, ?_⟩) (by assumption) ?_
          rotate_left
          · (intro w hSw; go_simp; first | done | (with_reducible rfl))
          simp only [Act.put, List.getElem_toArray, List.getElem_cons_succ, List.getElem_cons_zero, List.setIfInBounds_toArray, List.set_cons_zero, List.set_cons_succ]
          refine wpAnyH_done (by kernel_rfl) ?_ _
          clear hHeld
          have S4 := cl_step S3 (st + 1)
          have e : ((st + 1 : Nat) : Int) = ((st : Int) + 1) := by simp
          have d1 := (S3.bxc cl_bx).st
          have d2 := (S3.bxc cl_bx).fs
          obtain ⟨W4, hW4⟩ : ∃ W4, w3.setCell ⟨sb, 0, none⟩ (.int .i64 ((st : Int) + 1)) = W4 := ⟨_, rfl⟩
          change Sep w0 (w3.setCell ⟨sb, 0, none⟩ (.int .i64 ((st + 1 : Nat) : Int))) _ at S4
          rw [e, hW4] at S4
          have okM := S4.tab k1m
          have hset := rset_s k yv (fr1 [_, _] S4) okM.four okM.nk
          obtain ⟨_, _, b3, _, _, _, _, _, _⟩ := S4.bxc cl_bx
          obtain ⟨_, _, _, o3, _⟩ := cl_op S4
          have HN' : Keep (st + 1 ≤ ni ∧ n' ≤ n0 + (cs.take (st + 1)).sum) := ⟨by omega, by
            obtain ⟨_, _, _, q4, q5⟩ := HN.out
            have := sum_take cs st cj HCJ.out
            omega⟩
          clear S3 S4 okM e hn' hbd
          go_wp2_with fail
          refine hset.mono ?_
          rintro r w6 ⟨rfl, S6⟩
          have S7 := bk1 [_, _] S6
          change Sep w0 w6 (clL b pb t t' d d' s s' M (Tb.setL M k yv) M' tv' wv' n' v (.slice (some ka) kn kc) K (bxs nb kb dx gb sb ob px eb (i + 1) (.slice (some ka) kn kc) d (st + 1) (opL ok oa okey X (some ⟨BB, bo, none⟩) ni ci) pb dp) R) at S7
          clear hset b3 o3 S6 d1 d2 hW4
          obtain ⟨_, _, _, o3, _⟩ := cl_op S7
          have HF := Keep.mk S7
          clear S7
          go_wp2_with fail
          go_ret
          exact ⟨rfl, M, M', tv', wv', n', st + 1, HN'.out.1, HN'.out.2, HF.out⟩
        · have hsn2 : ¬ (st : Int) < (ni : Nat) := by omega
          have okM := hR.out.tab k1m
          have hset := rset_s k yv (fr1 [_, _] hR.out) okM.four okM.nk
          clear okM hsn hR
          go_wp2_with fail
          refine hset.mono ?_
          rintro r w6 ⟨rfl, S6⟩
          have S7 := bk1 [_, _] S6
          change Sep w0 w6 (clL b pb t t' d d' s s' L (Tb.setL L k yv) L' tv wv n v (.slice (some ka) kn kc) K (bxs nb kb dx gb sb ob px eb (i + 1) (.slice (some ka) kn kc) d st (opL ok oa okey X a0 ni ci) pb dp) R) at S7
          clear hset b1 b2 b3 b4 b5 b6 b7 b8 b9 o0 o1 o2 o3 o4 cq S6
          obtain ⟨_, _, _, o3, _⟩ := cl_op S7
          have HF := Keep.mk S7
          clear S7
          go_wp2_with fail
          go_ret
          exact ⟨rfl, L, L', tv, wv, n, st, HN.out.2.2.1, HN.out.2.2.2.1, HF.out⟩
end Go.Proofs.Ytkaakbldkicnaaa
