/- the reference's gate. -/
import Derived.Test.YtjoodembmjooaaaG6
namespace Go.Proofs.Ytjoodembmjooaaa
open Go Go.RowKit Go.Maps

/-- the reference's gate, in which M waits -/
def rgA (rb : Nat) (M : List Itn) : As := exA (fun v : Value => [boxA rb [v] 44, rowV 36 5 v M.length (its M), pureA (Gok M)])
theorem rg_open {w0 W : World} {l : List As} {rb : Nat} {M : List Itn} (h : Sep w0 W (rgA rb M :: l)) : ∃ v, Sep w0 W (boxA rb [v] 44 :: rowV 36 5 v M.length (its M) :: l) ∧ Gok M := by
  obtain ⟨v, h1⟩ := h.opn
  exact ⟨v, h1.third.tail, h1.fact k2m⟩
theorem rg_shut {w0 W : World} {l : List As} {rb : Nat} {v : Value} {M : List Itn} (h : Sep w0 W (boxA rb [v] 44 :: rowV 36 5 v M.length (its M) :: l)) (g : Gok M) : Sep w0 W (rgA rb M :: l) :=
  Sep.cls (fun v : Value => [boxA rb [v] 44, rowV 36 5 v M.length (its M), pureA (Gok M)]) v (bk1 [_, _] (h.know g))
theorem look_drop {M : List Itn} {i : Nat} {y : Itn} (h : M[i]? = some y) (k : Int) : look (M.drop i) k = if y.pl = k then some y else look (M.drop (i + 1)) k := by
  have e : M.drop i = y :: M.drop (i + 1) := by
    obtain ⟨hi, e⟩ := List.getElem?_eq_some_iff.1 h
    rw [← e]
    exact List.drop_eq_getElem_cons hi
  rw [e]
  rfl
theorem drop_cons {M : List Itn} {i : Nat} {y : Itn} (h : M[i]? = some y) : M.drop i = y :: M.drop (i + 1) := by
  obtain ⟨hi, e⟩ := List.getElem?_eq_some_iff.1 h
  rw [← e]
  exact List.drop_eq_getElem_cons hi
set_option maxRecDepth 100000 in
set_option maxHeartbeats 8000000 in
theorem rwaits_o (w0 W : World) (l : List As) (rb : Nat) (v : Value) (M : List Itn) (p : Int) (hn : M.length < 4611686018427387904) (h : Sep w0 W (boxA rb [v] 44 :: rowV 36 5 v M.length (its M) :: l)) :
    Calls Try.prog 16 #[pt rb, iv p] W fun e W' => e = .returned (.bool (look M p).isSome) ∧ W.grownBy W' none := by
  have hr := h.rdi (M := M) k1m rfl
  obtain ⟨n, hnn⟩ : ∃ n, M.length = n := ⟨_, rfl⟩
  obtain ⟨a, cap, hv, hq⟩ := hr.o
  rw [hnn] at hv hq hn
  subst hv
  have HQ := Keep.mk hnn
  have HR := Keep.mk hr
  have HA : Keep (0 < n → ∃ g, a = some ⟨g, 0, none⟩) := ⟨fun q => by obtain ⟨g, e, _⟩ := hq q; exact ⟨g, e⟩⟩
  have HC : Keep (Has W rb [.slice a n cap] 44) := ⟨h.boxGet k0m⟩
  clear hr hq h hnn
  go_enter Try.func16, Try.ntmps16
  go_wp2_with fail
  go_loopw [5] (fun u wr => ∃ i : Nat, i ≤ n ∧ u = iv i ∧ Keep (W.grownBy wr none) ∧ Keep (look M p = look (M.drop i) p)) (fun u _ => (n - intOf u).toNat)
  case atStart => exact ⟨0, by omega, rfl, ⟨World.grownBy.refl _ _⟩, ⟨rfl⟩⟩
  case round =>
    obtain ⟨i, hi, rfl, hG, hLk⟩ := hrel
    have c0 : wr.cell? ⟨rb, 0, none⟩ = some (.slice a n cap) := (HC.out.kept hG.out (by simp)).cellv 0 _ rfl
    by_cases hlt : i < n
    · obtain ⟨s, hs⟩ : ∃ s, M[i]? = some s := ⟨_, List.getElem?_eq_getElem (by rw [HQ.out]; exact hlt)⟩
      obtain ⟨g, rfl⟩ := HA.out (by omega)
      obtain ⟨y0, _⟩ := (HR.out.kept hG.out).cells HQ.out hs
      have hi0 : (0 : Int) ≤ (i : Int) := by omega
      have hi1 : (i : Int) < (n : Nat) := by omega
      have hti : ((i : Nat) : Int).toNat = i := by omega
      have hwi : IntKind.i64.wrap ((i : Int) + 1) = ((i + 1 : Nat) : Int) := by rw [wi _ (by omega) (by omega)]; omega
      have HLD := Keep.mk (look_drop hs p)
      have HI : Keep (i < n) := ⟨hlt⟩
      by_cases e : s.pl = p
      · have n0 : (s.pl == p) = true := by simp [e]
        have HE : Keep ((look M p).isSome = true) := ⟨by rw [hLk.out, HLD.out, if_pos e]; rfl⟩
        clear e HLD hLk hs
        go_wp2_with fail
        go_ret
        exact ⟨by rw [HE.out]; rfl, hG.out⟩
      · have n0 : (s.pl == p) = false := by simp [e]
        have HE : Keep (look M p = look (M.drop (i + 1)) p) := ⟨by rw [hLk.out, HLD.out, if_neg e]⟩
        clear e HLD hLk hs
        go_wp2_with fail
        go_roundw
        case rel => exact ⟨i + 1, HI.out, rfl, hG, HE⟩
        case measure => simp [intOf]; have := HI.out; omega
    · have hi1 : ¬ (i : Int) < (n : Nat) := by omega
      have HE : Keep ((look M p).isSome = false) := ⟨by rw [hLk.out, List.drop_eq_nil_of_le (by rw [HQ.out]; omega)]; rfl⟩
      clear hLk
      go_wp2_with fail
      go_ret
      exact ⟨by rw [HE.out]; rfl, hG.out⟩
theorem rwaits_c (w0 W : World) (l : List As) (rb : Nat) (M : List Itn) (p : Int) (hn : M.length < 4611686018427387904) (h : Sep w0 W (rgA rb M :: l)) :
    Calls Try.prog 16 #[pt rb, iv p] W fun e W' => e = .returned (.bool (look M p).isSome) ∧ W.grownBy W' none := by
  obtain ⟨v, h1, _⟩ := rg_open h
  exact rwaits_o w0 W l rb v M p hn h1
set_option maxRecDepth 100000 in
set_option maxHeartbeats 4000000 in
theorem rtake_c (w0 W : World) (l : List As) (rb : Nat) (M : List Itn) (h : Sep w0 W (rgA rb M :: l)) :
    Calls Try.prog 18 #[pt rb] W fun e W' => ∃ v, e = .returned v ∧ Sep w0 W' (rowV 36 5 v M.length (its M) :: rgA rb [] :: l) := by
  obtain ⟨v, h1, hg⟩ := rg_open h
  have c0 : W.cell? ⟨rb, 0, none⟩ = some v := (h1.boxGet k0m).cellv 0 _ rfl
  have f0 : W.frozen? ⟨rb, 0, none⟩ = false := (h1.boxGet k0m).frozen 0
  have S2 := h1.boxSet (.slice none 0 0)
  obtain ⟨W2, hW2⟩ : ∃ W2, W.setCell ⟨rb, 0, none⟩ (.slice none 0 0) = W2 := ⟨_, rfl⟩
  rw [hW2] at S2
  have HS : Keep (Sep w0 W2 (rowV 36 5 v M.length (its M) :: rgA rb [] :: l)) := ⟨(rg_shut (M := []) (S2.nilV 36 5).swap Gok.nil).swap⟩
  clear S2 h h1 hg
  go_enter Try.func18, Try.ntmps18
  go_wp2_with fail
  go_ret
  exact ⟨v, rfl, HS.out⟩
def rmkT (M : List Itn) (p : Int) (i : Nat) : List Itn := rmk (M.take i) p
theorem rmkT_next {M : List Itn} {p : Int} {i : Nat} {y : Itn} (h : M[i]? = some y) : rmkT M p (i + 1) = if y.pl = p then rmkT M p i else rmkT M p i ++ [y] := by
  have e : M.take (i + 1) = M.take i ++ [y] := by
    rw [List.take_add_one, h]; rfl
  unfold rmkT rmk
  rw [e, List.filter_append]
  by_cases hy : y.pl = p <;> simp [hy]
theorem rmkT_len (M : List Itn) (p : Int) (i : Nat) : (rmkT M p i).length ≤ M.length := by
  unfold rmkT
  have := len_rmk (M.take i) p
  rw [List.length_take] at this
  omega
set_option maxRecDepth 100000 in
set_option maxHeartbeats 8000000 in
theorem rdrop_c (w0 W : World) (l : List As) (rb : Nat) (M : List Itn) (p : Int) (hn : (M.length + 2) * 32 ≤ 140737488355328) (h : Sep w0 W (rgA rb M :: l)) :
    Calls Try.prog 17 #[pt rb, iv p] W fun e W' => e = .returned (.bool (look M p).isSome) ∧ Sep w0 W' (rgA rb (rmk M p) :: l) := by
  obtain ⟨v, h1, hg⟩ := rg_open h
  have HW := Keep.mk (rwaits_o w0 W l rb v M p (by omega) h1)
  have hr := h1.rdi (M := M) k1m rfl
  obtain ⟨n, hnn⟩ : ∃ n, M.length = n := ⟨_, rfl⟩
  obtain ⟨a, cap, hv, hq⟩ := hr.o
  rw [hnn] at hv hq hn h1
  subst hv
  have HQ := Keep.mk hnn
  have HA : Keep (0 < n → ∃ g, a = some ⟨g, 0, none⟩) := ⟨fun q => by obtain ⟨g, e, _⟩ := hq q; exact ⟨g, e⟩⟩
  have HS := Keep.mk h1
  have HG := Keep.mk (hg.rmk p)
  obtain ⟨du, hdu, hdr⟩ := underI
  generalize (look M p).isSome = lk at HW ⊢
  clear hr hq h h1 hnn hg
  go_enter Try.func17, Try.ntmps17
  go_wp2_with fail
  refine HW.out.mono ?_
  rintro e w1 ⟨rfl, g1⟩
  have HS1 : Keep (Sep w0 w1 (rowV 36 5 (.slice none 0 0) 0 (its []) :: boxA rb [.slice a n cap] 44 :: rowV 36 5 (.slice a n cap) n (its M) :: l)) := ⟨(HS.out.grown g1).nilV 36 5⟩
  clear HW HS g1
  go_wp2_with fail
  go_loopw [6, 7] (fun u6 u7 wr => ∃ i : Nat, i ≤ n ∧ u7 = iv i ∧ Keep (Sep w0 wr (rowV 36 5 u6 (rmkT M p i).length (its (rmkT M p i)) :: boxA rb [.slice a n cap] 44 :: rowV 36 5 (.slice a n cap) n (its M) :: l))) (fun _ u7 _ => (n - intOf u7).toNat)
  case atStart => exact ⟨0, by omega, rfl, HS1⟩
  case round =>
    clear HS1
    obtain ⟨i, hi, rfl, hS⟩ := hrel
    have c0 : wr.cell? ⟨rb, 0, none⟩ = some (.slice a n cap) := (hS.out.boxGet k1m).cellv 0 _ rfl
    by_cases hlt : i < n
    · obtain ⟨s, hs⟩ : ∃ s, M[i]? = some s := ⟨_, List.getElem?_eq_getElem (by rw [HQ.out]; exact hlt)⟩
      obtain ⟨g, rfl⟩ := HA.out (by omega)
      have hrd := hS.out.rdi (M := M) k2m HQ.out.symm
      obtain ⟨y0, y1, y2, y3, y4⟩ := hrd.cells HQ.out hs
      have hi0 : (0 : Int) ≤ (i : Int) := by omega
      have hi1 : (i : Int) < (n : Nat) := by omega
      have hti : ((i : Nat) : Int).toNat = i := by omega
      have hwi : IntKind.i64.wrap ((i : Int) + 1) = ((i + 1 : Nat) : Int) := by rw [wi _ (by omega) (by omega)]; omega
      have HI : Keep (i < n) := ⟨hlt⟩
      have HNX := Keep.mk (rmkT_next (p := p) hs)
      have HTL : Keep (((rmkT M p i).length + 1) * 32 ≤ 140737488355328) := ⟨by have := rmkT_len M p i; have := HQ.out; omega⟩
      by_cases e : s.pl = p
      · have n0 : (s.pl != p) = false := by simp [e]
        have HE : Keep (rmkT M p (i + 1) = rmkT M p i) := ⟨by rw [HNX.out, if_pos e]⟩
        clear e HNX hs hrd HTL
        go_wp2_with fail
        go_roundw
        case rel => exact ⟨i + 1, HI.out, rfl, by rw [HE.out]; exact hS⟩
        case measure => simp [intOf]; have := HI.out; omega
      · have n0 : (s.pl != p) = true := by simp [e]
        have HE : Keep (rmkT M p (i + 1) = rmkT M p i ++ [s]) := ⟨by rw [HNX.out, if_neg e]⟩
        obtain ⟨g9, c9, w9, ap, _, S9⟩ := Sep.app5 s hS.out HTL.out
        rw [← HE.out] at S9
        have AP := Keep.mk ap
        have HS9 := Keep.mk S9
        have e9 : (rmkT M p i).length + 1 = (rmkT M p (i + 1)).length := by rw [HE.out]; simp
        have HE9 := Keep.mk e9
        obtain ⟨n1, hn1⟩ : ∃ n1, (rmkT M p i).length + 1 = n1 := ⟨_, rfl⟩
        rw [hn1] at AP HS9
        have RN : Keep (wr.rangeAt g (i * 5) (itv s)) := ⟨by
          obtain ⟨a', c', e1, q⟩ := hrd.o
          injection e1 with e2 _ _
          obtain ⟨g', e3, q⟩ := q (by have := HQ.out; omega)
          rw [e3] at e2
          injection e2 with e2
          injection e2 with e2 _ _
          subst e2
          exact q i s hs⟩
        clear e HNX hs hrd HTL ap S9 e9 hS HE9 hn1 y1 y2 y3 y4
        go_wp2_with (first
          | (show wpList _ _ _ ({ dst := _, op := Op.load 36 _, type := _, pos := _, after := _, guard := _ } :: _) _ _
             refine wpList_load_mid rfl 36 _ rfl _ _ rfl _ _ RN.out hdu hdr infoI ?_)
          | (show wpList _ _ _ ({ dst := _, op := Op.buildSlice 33 _ #[(0, Operand.tmp 37)], type := _, pos := _, after := _, guard := _ } :: _) _ _
             refine wpList_bs_run rfl (.tmp 37) 33 rfl _ rfl (bs5_run _ (itv s) rfl) ?_)
          | (at_builtin; refine wpList_append_run _ rfl (.tmp 30) (.tmp 38) 33 rfl _ _ rfl rfl AP.out ?_))
        go_roundw
        case rel => exact ⟨i + 1, HI.out, rfl, HS9⟩
        case measure => simp [intOf]; have := HI.out; omega
    · have hi1 : ¬ (i : Int) < (n : Nat) := by omega
      have HE : Keep (rmkT M p i = rmk M p) := ⟨by unfold rmkT; rw [List.take_of_length_le (by rw [HQ.out]; omega)]⟩
      have f0 : wr.frozen? ⟨rb, 0, none⟩ = false := (hS.out.boxGet k1m).frozen 0
      obtain ⟨a6, c6, h6⟩ := own_slice (hS.out.rowGet k0m)
      obtain ⟨n6, hn6⟩ : ∃ n6, (rmkT M p i).length = n6 := ⟨_, rfl⟩
      rw [hn6] at h6
      subst h6
      have S2 := (fr1 [_] hS.out).boxSet (.slice a6 n6 c6)
      obtain ⟨W2, hW2⟩ : ∃ W2, wr.setCell ⟨rb, 0, none⟩ (.slice a6 n6 c6) = W2 := ⟨_, rfl⟩
      rw [hW2, HE.out] at S2
      clear hn6
      have HS2 : Keep (Sep w0 W2 (rgA rb (rmk M p) :: l)) := ⟨(fr1 [_] (rg_shut S2 HG.out)).tail⟩
      clear S2 hS
      go_wp2_with fail
      go_ret
      exact ⟨rfl, HS2.out⟩
/-- how far the reference's Offer has come -/
def OfI (x : Itn) (M T : List Itn) (i : Nat) (d : Bool) : Prop := (d = false → ins x M = T ++ ins x (M.drop i)) ∧ (d = true → ins x M = T ++ M.drop i) ∧ T.length ≤ i + 1
set_option maxRecDepth 100000 in
set_option maxHeartbeats 16000000 in
theorem roffer_c (w0 W : World) (l : List As) (rb : Nat) (M : List Itn) (p : Int) (c : Cmd) (hp : I64 p) (hn : (M.length + 4) * 32 ≤ 140737488355328) (h : Sep w0 W (rgA rb M :: l)) :
    Calls Try.prog 15 #[pt rb, iv p, .agg (cmv c).toArray] W fun e W' => e = .returned (iv (ofE M p)) ∧ Sep w0 W' (rgA rb (ofX M p c) :: l) := by
  obtain ⟨v, h1, hg⟩ := rg_open h
  have S1 := h1.newBox (cmv c).toArray 27
  obtain ⟨W1, hW1⟩ : ∃ W1, W.alloc (.cells (cmv c).toArray 27) = W1 := ⟨_, rfl⟩
  obtain ⟨cb, hcb⟩ : ∃ b, W.heap.size = b := ⟨_, rfl⟩
  rw [hW1, hcb] at S1
  have HB0 : Sep w0 W1 (boxA rb [v] 44 :: rowV 36 5 v M.length (its M) :: boxA cb (cmv c) 27 :: l) := bk1 [_, _] S1
  have HW := Keep.mk (rwaits_o w0 W1 _ rb v M p (by omega) HB0)
  have hr := HB0.rdi (M := M) k1m rfl
  have HGX := Keep.mk (hg.ofX hp c)
  have HE : Keep (ofE M p = if (look M p).isSome then 180 else 0) := ⟨rfl⟩
  have HX : Keep (ofX M p c = if (look M p).isSome then M else ins (lgl p c) M) := ⟨rfl⟩
  obtain ⟨n, hnn⟩ : ∃ n, M.length = n := ⟨_, rfl⟩
  obtain ⟨a, cap, hv, hq⟩ := hr.o
  rw [hnn] at hv hq hn HB0
  subst hv
  have HQ := Keep.mk hnn
  have HA : Keep (0 < n → ∃ g, a = some ⟨g, 0, none⟩) := ⟨fun q => by obtain ⟨g, e, _⟩ := hq q; exact ⟨g, e⟩⟩
  have HS := Keep.mk HB0
  have HL := Keep.mk (fun W => rlegal_c W p c)
  have HPL : Keep ((lgl p c).pl = p) := ⟨rfl⟩
  have HCV : Keep (∀ W' l', Sep w0 W' l' → boxA cb (cmv c) 27 ∈ l' → W'.cell? ⟨cb, 0, none⟩ = some (iv c.th) ∧ W'.cell? ⟨cb, 1, none⟩ = some (iv c.tu) ∧ W'.cell? ⟨cb, 2, none⟩ = some (.bool c.fi) ∧ W'.cell? ⟨cb, 3, none⟩ = some (.bool c.bo)) := ⟨fun W' l' q hm => ⟨(q.boxGet hm).cellv 0 _ rfl, (q.boxGet hm).cellv 1 _ rfl, (q.boxGet hm).cellv 2 _ rfl, (q.boxGet hm).cellv 3 _ rfl⟩⟩
  obtain ⟨du, hdu, hdr⟩ := underI
  have hcl : cmv c = [iv c.th, iv c.tu, .bool c.fi, .bool c.bo] := rfl
  rw [hcl] at hW1 HL ⊢
  clear hcl hr hq h h1 hnn hg S1 HB0 hp
  generalize ofX M p c = M2 at HX HGX ⊢
  generalize ofE M p = e2 at HE ⊢
  generalize lgl p c = x at HX HL HPL
  generalize (look M p).isSome = lk at HW HE HX
  cases lk
  case true =>
    go_enter Try.func15, Try.ntmps15
    go_wp2_with fail
    refine HW.out.mono ?_
    rintro e w1 ⟨rfl, g1⟩
    have HS1 := Keep.mk (HS.out.grown g1)
    clear HW HS g1
    go_wp2_with fail
    go_ret
    exact ⟨by rw [HE.out]; rfl, by
      have e1 : M2 = M := HX.out
      have q : Sep w0 w1 (boxA rb [.slice a n cap] 44 :: rowV 36 5 (.slice a n cap) n (its M) :: boxA cb (cmv c) 27 :: l) := HS1.out
      rw [← HQ.out] at q
      have gx := HGX.out
      rw [e1] at gx ⊢
      have q2 := (rg_shut (v := .slice a M.length cap) (M := M) q gx)
      exact (fr1 [_] q2).tail⟩
  case false =>
  go_enter Try.func15, Try.ntmps15
  go_wp2_with fail
  refine HW.out.mono ?_
  rintro e w1 ⟨rfl, g1⟩
  have HS1 : Keep (Sep w0 w1 (rowV 36 5 (.slice none 0 0) 0 (its []) :: boxA rb [.slice a n cap] 44 :: rowV 36 5 (.slice a n cap) n (its M) :: boxA cb (cmv c) 27 :: l)) := ⟨(HS.out.grown g1).nilV 36 5⟩
  clear HW HS g1 hW1
  go_wp2_with fail
  go_loopw [7, 8, 9] (fun u7 u8 u9 wr => ∃ (T : List Itn) (d : Bool) (i : Nat), i ≤ n ∧ u8 = .bool d ∧ u9 = iv i ∧ Keep (Sep w0 wr (rowV 36 5 u7 T.length (its T) :: boxA rb [.slice a n cap] 44 :: rowV 36 5 (.slice a n cap) n (its M) :: boxA cb (cmv c) 27 :: l)) ∧ Keep (OfI x M T i d)) (fun _ _ u9 _ => (n - intOf u9).toNat)
  case atStart => exact ⟨[], false, 0, by omega, rfl, rfl, HS1, ⟨fun _ => rfl, fun q => (by cases q), by simp⟩⟩
  case round =>
    clear HS1
    obtain ⟨T, d, i, hi, rfl, rfl, hS, hO⟩ := hrel
    have c0 : wr.cell? ⟨rb, 0, none⟩ = some (.slice a n cap) := (hS.out.boxGet k1m).cellv 0 _ rfl
    by_cases hlt : i < n
    · obtain ⟨s, hs⟩ : ∃ s, M[i]? = some s := ⟨_, List.getElem?_eq_getElem (by rw [HQ.out]; exact hlt)⟩
      obtain ⟨g, rfl⟩ := HA.out (by omega)
      have hrd := hS.out.rdi (M := M) k2m HQ.out.symm
      obtain ⟨y0, _⟩ := hrd.cells HQ.out hs
      have hi0 : (0 : Int) ≤ (i : Int) := by omega
      have hi1 : (i : Int) < (n : Nat) := by omega
      have hti : ((i : Nat) : Int).toNat = i := by omega
      have hwi : IntKind.i64.wrap ((i : Int) + 1) = ((i + 1 : Nat) : Int) := by rw [wi _ (by omega) (by omega)]; omega
      have HI : Keep (i < n) := ⟨hlt⟩
      have HDR := Keep.mk (drop_cons hs)
      have HTL : Keep ((T.length + 2) * 32 ≤ 140737488355328) := ⟨by have := hO.out.2.2; omega⟩
      have HRNX : Keep (∀ W', Rdi W' (sl g n cap) M → W'.rangeAt g (i * 5) (itv s)) := ⟨fun W' q => by
        obtain ⟨a', c', e1, q⟩ := q.o
        injection e1 with e2 _ _
        obtain ⟨g', e3, q⟩ := q (by have := HQ.out; omega)
        rw [e3] at e2
        injection e2 with e2
        injection e2 with e2 _ _
        subst e2
        exact q i s hs⟩
      have HLAST : Keep (∀ (W' : World) (u : Value) (T' : List Itn), Sep w0 W' (rowV 36 5 u T'.length (its T') :: boxA rb [sl g n cap] 44 :: rowV 36 5 (sl g n cap) n (its M) :: boxA cb (cmv c) 27 :: l) → W'.rangeAt g (i * 5) (itv s) ∧ W'.cell? ⟨rb, 0, none⟩ = some (sl g n cap)) := ⟨fun W' u T' q => ⟨HRNX.out W' (q.rdi (M := M) k2m HQ.out.symm), (q.boxGet k1m).cellv 0 _ rfl⟩⟩
      clear hs hrd hlt HRNX
      by_cases hd : d = false ∧ p < s.pl
      · obtain ⟨rfl, hps⟩ := hd
        have n0 : decide (p < s.pl) = true := decide_eq_true hps
        have HN2 : Keep (OfI x M (T ++ [x] ++ [s]) (i + 1) true) := ⟨fun q => (by cases q), fun _ => by
          rw [hO.out.1 rfl, HDR.out]
          unfold ins
          rw [if_pos (by rw [HPL.out]; exact hps)]
          simp, by have := hO.out.2.2; simp; have := hO.out.1 rfl; have q2 := congrArg List.length this; rw [len_ins, List.length_append, len_ins, List.length_drop, HQ.out] at q2; omega⟩
        obtain ⟨z0, z1, z2, z3⟩ := HCV.out _ _ hS.out k3m
        clear hps
        go_wp2_with fail
        refine (HL.out _).mono ?_
        rintro e w2 ⟨rfl, g2⟩
        obtain ⟨g9, c9, w9, ap, _, S9⟩ := Sep.app5 x (hS.out.grown g2) (by have := HTL.out; omega)
        have AP := Keep.mk ap
        obtain ⟨n1, hn1⟩ : ∃ n1, T.length + 1 = n1 := ⟨_, rfl⟩
        rw [hn1] at AP S9
        obtain ⟨RNx, cX⟩ := HLAST.out _ _ _ S9
        have RN := Keep.mk RNx
        have HT1 : Keep (((T ++ [x]).length + 1) * 32 ≤ 140737488355328) := ⟨by have := HTL.out; simp; omega⟩
        obtain ⟨g8, c8, w8, ap8, _, S8⟩ := Sep.app5 s S9 HT1.out
        have AP8 := Keep.mk ap8
        obtain ⟨n2, hn2⟩ : ∃ n2, (T ++ [x]).length + 1 = n2 := ⟨_, rfl⟩
        rw [hn2] at AP8 S8
        have HS8 := Keep.mk S8
        clear ap S9 ap8 S8 g2 z0 z1 z2 z3 y0 hS hn1 hn2 RNx c0
        go_wp2_with (first
          | (show wpList _ _ _ ({ dst := _, op := Op.load 36 _, type := _, pos := _, after := _, guard := _ } :: _) _ _
             refine wpList_load_mid rfl 36 _ rfl _ _ rfl _ _ RN.out hdu hdr infoI ?_)
          | (show wpList _ _ _ ({ dst := _, op := Op.buildSlice 33 _ #[(0, Operand.tmp 39)], type := _, pos := _, after := _, guard := _ } :: _) _ _
             refine wpList_bs_run rfl (.tmp 39) 33 rfl _ rfl (bs5_run _ (itv x) rfl) ?_)
          | (at_builtin; refine wpList_append_run _ rfl (.tmp 36) (.tmp 40) 33 rfl _ _ rfl rfl AP.out ?_)
          | (show wpList _ _ _ ({ dst := _, op := Op.buildSlice 33 _ #[(0, Operand.tmp 49)], type := _, pos := _, after := _, guard := _ } :: _) _ _
             refine wpList_bs_run rfl (.tmp 49) 33 rfl _ rfl (bs5_run _ (itv s) rfl) ?_)
          | (at_builtin; refine wpList_append_run _ rfl (.tmp 42) (.tmp 50) 33 rfl _ _ rfl rfl AP8.out ?_))
        go_roundw
        case rel => exact ⟨_, true, i + 1, HI.out, rfl, rfl, HS8, HN2⟩
        case measure => simp [intOf]; have := HI.out; omega
      · have HN2 : Keep (OfI x M (T ++ [s]) (i + 1) d) := ⟨fun q => by
          rw [hO.out.1 q, HDR.out]
          have hps : ¬ p < s.pl := fun z => hd ⟨q, z⟩
          rw [show ins x (s :: M.drop (i + 1)) = s :: ins x (M.drop (i + 1)) by rw [ins, if_neg (by rw [HPL.out]; exact hps)]]
          simp, fun q => by
          rw [hO.out.2.1 q, HDR.out]
          simp, by have := hO.out.2.2; simp; omega⟩
        have n0 : (!d && decide (p < s.pl)) = false := by
          cases d
          · simp only [Bool.not_false, Bool.true_and]; exact decide_eq_false fun z => hd ⟨rfl, z⟩
          · rfl
        obtain ⟨RNx, cX⟩ := HLAST.out _ _ _ hS.out
        have RN := Keep.mk RNx
        obtain ⟨g8, c8, w8, ap8, _, S8⟩ := Sep.app5 s hS.out (by have := HTL.out; omega)
        have AP8 := Keep.mk ap8
        obtain ⟨n2, hn2⟩ : ∃ n2, T.length + 1 = n2 := ⟨_, rfl⟩
        rw [hn2] at AP8 S8
        have HS8 := Keep.mk S8
        clear ap8 S8 hS hn2 RNx
        cases d
        · have n1 : decide (p < s.pl) = false := decide_eq_false fun z => hd ⟨rfl, z⟩
          clear hd n0
          go_wp2_with (first
            | (show wpList _ _ _ ({ dst := _, op := Op.load 36 _, type := _, pos := _, after := _, guard := _ } :: _) _ _
               refine wpList_load_mid rfl 36 _ rfl _ _ rfl _ _ RN.out hdu hdr infoI ?_)
            | (show wpList _ _ _ ({ dst := _, op := Op.buildSlice 33 _ #[(0, Operand.tmp 49)], type := _, pos := _, after := _, guard := _ } :: _) _ _
               refine wpList_bs_run rfl (.tmp 49) 33 rfl _ rfl (bs5_run _ (itv s) rfl) ?_)
            | (at_builtin; refine wpList_append_run _ rfl (.tmp 42) (.tmp 50) 33 rfl _ _ rfl rfl AP8.out ?_))
          go_roundw
          case rel => exact ⟨_, false, i + 1, HI.out, rfl, rfl, HS8, HN2⟩
          case measure => simp [intOf]; have := HI.out; omega
        · clear hd n0
          go_wp2_with (first
            | (show wpList _ _ _ ({ dst := _, op := Op.load 36 _, type := _, pos := _, after := _, guard := _ } :: _) _ _
               refine wpList_load_mid rfl 36 _ rfl _ _ rfl _ _ RN.out hdu hdr infoI ?_)
            | (show wpList _ _ _ ({ dst := _, op := Op.buildSlice 33 _ #[(0, Operand.tmp 49)], type := _, pos := _, after := _, guard := _ } :: _) _ _
               refine wpList_bs_run rfl (.tmp 49) 33 rfl _ rfl (bs5_run _ (itv s) rfl) ?_)
            | (at_builtin; refine wpList_append_run _ rfl (.tmp 42) (.tmp 50) 33 rfl _ _ rfl rfl AP8.out ?_))
          go_roundw
          case rel => exact ⟨_, true, i + 1, HI.out, rfl, rfl, HS8, HN2⟩
          case measure => simp [intOf]; have := HI.out; omega
    · have hi1 : ¬ (i : Int) < (n : Nat) := by omega
      have HNI : Keep (M.drop i = []) := ⟨List.drop_eq_nil_of_le (by rw [HQ.out]; omega)⟩
      cases d
      · have HE2 : Keep (M2 = T ++ [x]) := ⟨by
          rw [HX.out]
          show ins x M = _
          rw [hO.out.1 rfl, HNI.out]; rfl⟩
        obtain ⟨z0, z1, z2, z3⟩ := HCV.out _ _ hS.out k3m
        have HTL : Keep ((T.length + 1) * 32 ≤ 140737488355328) := ⟨by have := hO.out.2.2; omega⟩
        clear hlt hO
        go_wp2_with fail
        refine (HL.out _).mono ?_
        rintro e w2 ⟨rfl, g2⟩
        obtain ⟨g9, c9, w9, ap, _, S9⟩ := Sep.app5 x (hS.out.grown g2) HTL.out
        have AP := Keep.mk ap
        obtain ⟨n1, hn1⟩ : ∃ n1, T.length + 1 = n1 := ⟨_, rfl⟩
        rw [hn1] at AP S9
        rw [← HE2.out] at S9
        have cX : w9.cell? ⟨rb, 0, none⟩ = some (.slice a n cap) := (S9.boxGet k1m).cellv 0 _ rfl
        have fX : w9.frozen? ⟨rb, 0, none⟩ = false := (S9.boxGet k1m).frozen 0
        have S2 := (fr1 [_] S9).boxSet (sl g9 n1 c9)
        obtain ⟨W2, hW2⟩ : ∃ W2, w9.setCell ⟨rb, 0, none⟩ (sl g9 n1 c9) = W2 := ⟨_, rfl⟩
        rw [hW2] at S2
        have HS2 : Keep (Sep w0 W2 (rgA rb M2 :: l)) := ⟨(fr1 [_] (fr1 [_] (rg_shut S2 HGX.out)).tail).tail⟩
        have RN : Keep True := ⟨trivial⟩
        clear ap S9 S2 g2 z0 z1 z2 z3 hS hn1 c0
        go_wp2_with (first
          | (show wpList _ _ _ ({ dst := _, op := Op.buildSlice 33 _ #[(0, Operand.tmp 57)], type := _, pos := _, after := _, guard := _ } :: _) _ _
             refine wpList_bs_run rfl (.tmp 57) 33 rfl _ rfl (bs5_run _ (itv x) rfl) ?_)
          | (at_builtin; refine wpList_append_run _ rfl (.tmp 54) (.tmp 58) 33 rfl _ _ rfl rfl AP.out ?_))
        go_ret
        exact ⟨by rw [HE.out]; rfl, HS2.out⟩
      · have HE2 : Keep (M2 = T) := ⟨by
          rw [HX.out]
          show ins x M = _
          rw [hO.out.2.1 rfl, HNI.out, List.append_nil]⟩
        have f0 : wr.frozen? ⟨rb, 0, none⟩ = false := (hS.out.boxGet k1m).frozen 0
        obtain ⟨a6, c6, h6⟩ := own_slice (hS.out.rowGet k0m)
        obtain ⟨n6, hn6⟩ : ∃ n6, T.length = n6 := ⟨_, rfl⟩
        rw [hn6] at h6
        subst h6
        have S2 := (fr1 [_] hS.out).boxSet (.slice a6 n6 c6)
        obtain ⟨W2, hW2⟩ : ∃ W2, wr.setCell ⟨rb, 0, none⟩ (.slice a6 n6 c6) = W2 := ⟨_, rfl⟩
        rw [hW2, ← HE2.out] at S2
        clear hn6
        have HS2 : Keep (Sep w0 W2 (rgA rb M2 :: l)) := ⟨(fr1 [_] (fr1 [_] (rg_shut S2 HGX.out)).tail).tail⟩
        clear S2 hS hlt hO
        go_wp2_with fail
        go_ret
        exact ⟨by rw [HE.out]; rfl, HS2.out⟩
end Go.Proofs.Ytjoodembmjooaaa
