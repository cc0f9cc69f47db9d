/- the reference's grid: New, Len, Put, Delete, At. -/
import Derived.Test.YtidpafmhmhojmaaL3
import Derived.Deep.DeepCutAuto
namespace Go.Proofs.Ytidpafmhmhojmaa
open Go Go.RowKit

def plv (p : Pl) : List Value := [iv p.id, iv p.x, iv p.y]
def pls (M : List Pl) : List Value := M.flatMap plv
theorem pls_app (A B : List Pl) : pls (A ++ B) = pls A ++ pls B := by simp [pls]
theorem pls_one (p : Pl) : pls [p] = plv p := by simp [pls]
theorem pls_get : ∀ (M : List Pl) (j : Nat) (p : Pl), M[j]? = some p → ∀ (k : Nat) (u : Value), (plv p)[k]? = some u → (pls M)[j * 3 + k]? = some u
  | [], j, p, h, _, _, _ => by simp at h
  | y :: r, 0, p, h, k, u, hu => by
    obtain rfl : y = p := by simpa using h
    have hk := (List.getElem?_eq_some_iff.1 hu).1
    rw [show pls (y :: r) = plv y ++ pls r by simp [pls], Nat.zero_mul, Nat.zero_add, List.getElem?_append_left hk]
    exact hu
  | y :: r, j + 1, p, h, k, u, hu => by
    have ih := pls_get r j p (by simpa using h) k u hu
    have hl : (plv y).length = 3 := rfl
    rw [show pls (y :: r) = plv y ++ pls r by simp [pls], List.getElem?_append_right (by rw [hl]; omega), hl, show (j + 1) * 3 + k - 3 = j * 3 + k by omega]
    exact ih
theorem pls_rd {w0 W : World} {l : List As} {g n c : Nat} {M : List Pl} (h : Sep w0 W l) (hm : rowV 75 3 (sl g n c) n (pls M) ∈ l) (hn : 0 < n) {i : Nat} {p : Pl} (hp : M[i]? = some p) : W.rangeAt g (i * 3) (plv p) := by
  intro k u hu
  obtain ⟨g', c', e, q⟩ := own_any (h.rowGet hm) hn
  injection e with e1 e2 e3
  cases e1
  exact (q (i * 3 + k) u (pls_get M i p hp k u hu)).1
def rgA (rb : Nat) (M : List Pl) : As := exA (fun v : Value => [boxA rb [v] 73, rowV 75 3 v M.length (pls M)])
theorem rg_open {w0 W : World} {l : List As} {rb : Nat} {M : List Pl} (h : Sep w0 W (rgA rb M :: l)) : ∃ a c, Sep w0 W (boxA rb [.slice a M.length c] 73 :: rowV 75 3 (.slice a M.length c) M.length (pls M) :: l) := by
  obtain ⟨v, h1⟩ := h.opn
  obtain ⟨a, c, rfl⟩ := own_slice (h1.rowGet k1m)
  exact ⟨a, c, h1⟩
theorem rg_shut {w0 W : World} {l : List As} {rb : Nat} {M : List Pl} {v : Value} (h : Sep w0 W (boxA rb [v] 73 :: rowV 75 3 v M.length (pls M) :: l)) : Sep w0 W (rgA rb M :: l) :=
  Sep.cls (fun v : Value => [boxA rb [v] 73, rowV 75 3 v M.length (pls M)]) v h
theorem info75b : ∃ i, Try.prog.info? 75 = some i ∧ i.size = 3 ∧ i.bytes = 24 ∧ i.zero = some (.agg #[iv 0, iv 0, iv 0]) := by
  have h : (Try.prog.info? 75).map (fun i => (i.size, i.bytes, i.zero)) = some (3, 24, some (.agg #[iv 0, iv 0, iv 0])) := by kernel_rfl
  cases e : Try.prog.info? 75 with
  | none => rw [e] at h; cases h
  | some i =>
    rw [e] at h
    simp only [Option.map_some, Option.some.injEq, Prod.mk.injEq] at h
    exact ⟨i, rfl, h.1, h.2.1, h.2.2⟩
theorem under75 : ∃ d, Try.prog.underlying 75 = some d ∧ d.isRow = true := ⟨_, Try.underlying75, rfl⟩
theorem info75 : (Try.prog.info? 75).map (·.size) = some 3 := by kernel_rfl
theorem wpList_bs_run {P : Program} {w : World} {ops : Array Oper} {rest : List Oper} {o : Oper} {a : Act} {Q : Exit → Act → World → Prop} (hgd : o.guard = none) (x : Operand) (t : TypeId)
    (ho : o.op = .buildSlice t 1 #[(0, x)]) (v : Value) (hx : a.eval x = v) {v' : Value} {w' : World}
    (hr : (Instr.buildSlice t 1 #[(0, v)]).run P w = .ok v' w') (h : wpList P ops Q rest (a.put o.dst v') w') : wpList P ops Q (o :: rest) a w :=
  wpList_plain hgd fun _ hK => by
    unfold Oper.wp execOp
    simp only [ho, Sem.run_bind, Sem.run_pure, Result.andThen_ok, List.map_toArray, List.map_cons, List.map_nil, hx, hr]
    exact hK _ _ h
theorem bs3_run (w : World) (x y z : Value) : (Instr.buildSlice 71 1 #[(0, .agg #[x, y, z])]).run Try.prog w = .ok (sl w.heap.size 1 1) (w.alloc (.cells #[x, y, z] 75)) := by kernel_rfl
theorem built75 (i x y : Int) : Try.prog.built 75 [(0, iv i), (1, .agg #[iv x, iv y])] = some #[iv i, iv x, iv y] := by kernel_rfl
/-- one thing more -/
theorem Sep.appP {w0 W : World} {l : List As} {v : Value} {T : List Pl} (h : Sep w0 W (rowV 75 3 v T.length (pls T) :: l)) (p : Pl) (hn : (T.length + 1) * 24 ≤ 140737488355328) :
    ∃ g c W', (Builtin.append_ #[71, 71] 71 #[v, sl W.heap.size 1 1]).run Try.prog (W.alloc (.cells #[iv p.id, iv p.x, iv p.y] 75)) = .ok (sl g (T.length + 1) c) W' ∧ Sep w0 W' (rowV 75 3 (sl g (T.length + 1) c) (T ++ [p]).length (pls (T ++ [p])) :: l) := by
  obtain ⟨i, i1, i2, i3, i4⟩ := info75b
  obtain ⟨g, c, W', ap, S⟩ := Sep.app (t := 71) (bytes := 24) Try.underlying71 i1 i4 i2 i3 rfl (by omega) h (plv p) rfl (by intro u hu; simp only [plv, List.mem_cons, List.not_mem_nil, or_false] at hu; rcases hu with rfl | rfl | rfl <;> rfl) hn (by omega)
  refine ⟨g, c, W', ap, ?_⟩
  rw [pls_app, pls_one, List.length_append, List.length_singleton]
  exact S
set_option maxHeartbeats 2000000 in
theorem rnew_no (W : World) (sd : Int) (hs : sd < 1 ∨ 1099511627776 < sd) :
    Calls Try.prog 18 #[iv sd] W fun e W' => e = .returned (.tuple #[.pointer none, iv 110]) ∧ W' = W := by
  by_cases h1 : sd < 1
  · clear hs
    go_enter Try.func18, Try.ntmps18
    go_wp2_with fail
    go_ret2
    exact ⟨rfl, rfl⟩
  · have h2 : 1099511627776 < sd := by omega
    clear hs
    go_enter Try.func18, Try.ntmps18
    go_wp2_with fail
    go_ret2
    exact ⟨rfl, rfl⟩
set_option maxHeartbeats 2000000 in
theorem rnew_c (w0 W : World) (l : List As) (sd : Int) (hs : 1 ≤ sd ∧ sd ≤ 1099511627776) (h : Sep w0 W l) :
    Calls Try.prog 18 #[iv sd] W fun e W' => ∃ rb, e = .returned (.tuple #[pt rb, iv 0]) ∧ Sep w0 W' (rgA rb [] :: l) := by
  have S3 := h.newBox #[.slice none 0 0] 73
  obtain ⟨W3, hW3⟩ : ∃ W3, W.alloc (.cells #[.slice none 0 0] 73) = W3 := ⟨_, rfl⟩
  obtain ⟨rb, hrb⟩ : ∃ b, W.heap.size = b := ⟨_, rfl⟩
  rw [hW3, hrb] at S3
  have HS : Keep (Sep w0 W3 (rgA rb [] :: l)) := ⟨rg_shut (v := .slice none 0 0) (bk1 [_] (S3.nilV 75 3))⟩
  obtain ⟨h1, h2⟩ := hs
  have n1 : ¬ sd < 1 := by omega
  have n2 : ¬ 1099511627776 < sd := by omega
  clear S3 h h1 h2
  go_enter Try.func18, Try.ntmps18
  go_wp2_with fail
  go_ret2
  exact ⟨rb, rfl, HS.out⟩
theorem rlen_c (w0 W : World) (l : List As) (rb : Nat) (M : List Pl) (h : Sep w0 W (rgA rb M :: l)) :
    Calls Try.prog 26 #[pt rb] W fun e W' => e = .returned (iv M.length) ∧ W' = W := by
  obtain ⟨a, c, h1⟩ := rg_open h
  have c1 := (h1.boxGet k0m).cellv 0 _ rfl
  generalize M.length = n at *
  clear h h1
  go_enter Try.func26, Try.ntmps26
  go_wp2_with fail
  go_ret
  exact ⟨rfl, rfl⟩

/-- what Put's loop still makes -/
def pr (t : Pl) : Bool → List Pl → List Pl
  | d, [] => if d then [] else [t]
  | d, m :: r => (if t.id ≤ m.id ∧ d = false then [t] else []) ++ ((if m.id = t.id then [] else [m]) ++ pr t (d || decide (t.id ≤ m.id)) r)
theorem pr_true (t : Pl) : ∀ M : List Pl, pr t true M = rmk M t.id
  | [] => rfl
  | m :: r => by
    unfold pr
    rw [Bool.true_or, pr_true t r, if_neg (by simp)]
    unfold rmk
    rw [List.filter_cons]
    by_cases e : m.id = t.id
    · simp [e]
    · simp [e]
theorem pr_is (t : Pl) : ∀ M : List Pl, Srt M → pr t false M = putM M t
  | [], _ => rfl
  | m :: r, h => by
    obtain ⟨h1, h2⟩ := List.pairwise_cons.1 h
    have ih := pr_is t r h2
    unfold pr
    by_cases e : m.id = t.id
    · have hr : rmk r t.id = r := by
        unfold rmk
        refine List.filter_eq_self.2 fun x hx => ?_
        have := h1 x hx
        simp; omega
      rw [if_pos ⟨by omega, rfl⟩, if_pos e, show (false || decide (t.id ≤ m.id)) = true by simp; omega, pr_true, hr]
      have hm : rmk (m :: r) t.id = r := by
        unfold rmk at hr ⊢
        rw [List.filter_cons]
        simp [e]
        simpa using hr
      unfold putM
      rw [hm]
      cases r with
      | nil => rfl
      | cons z r' =>
        have := h1 z (List.mem_cons_self ..)
        show [t] ++ ([] ++ z :: r') = ins t (z :: r')
        unfold ins
        rw [if_pos (by omega)]; rfl
    · have hm : rmk (m :: r) t.id = m :: rmk r t.id := by
        unfold rmk
        rw [List.filter_cons]
        simp [e]
      unfold putM
      rw [hm]
      by_cases c : t.id ≤ m.id
      · have hr : rmk r t.id = r := by
          unfold rmk
          refine List.filter_eq_self.2 fun x hx => ?_
          have := h1 x hx
          simp; omega
        rw [if_pos ⟨c, rfl⟩, if_neg e, show (false || decide (t.id ≤ m.id)) = true by simpa using c, pr_true, hr]
        unfold ins
        rw [if_pos (by omega)]; rfl
      · rw [if_neg (fun q => c q.1), if_neg e, show (false || decide (t.id ≤ m.id)) = false by simpa using c, ih]
        unfold ins
        rw [if_neg (by omega)]; rfl
theorem pr_cons (t : Pl) (d : Bool) (m : Pl) (r : List Pl) : pr t d (m :: r) = (if t.id ≤ m.id ∧ d = false then [t] else []) ++ ((if m.id = t.id then [] else [m]) ++ pr t (d || decide (t.id ≤ m.id)) r) := rfl
theorem drop_cons {α : Type} {M : List α} {i : Nat} {s : α} (h : M[i]? = some s) : M.drop i = s :: M.drop (i + 1) := by
  obtain ⟨hi, e⟩ := List.getElem?_eq_some_iff.1 h
  rw [List.drop_eq_getElem_cons hi, e]
theorem len_b1 {T : List Pl} {i n : Nat} {d : Bool} (h1 : T.length ≤ i + d.toNat) (h2 : (n + 4) * 24 ≤ 140737488355328) (h3 : i < n) : (T.length + 1) * 24 ≤ 140737488355328 := by
  have := Bool.toNat_le d
  omega
theorem len_b2 {T : List Pl} {i n : Nat} {d : Bool} (h1 : T.length ≤ i + d.toNat) (h2 : (n + 4) * 24 ≤ 140737488355328) (h3 : i < n) (p : Pl) : ((T ++ [p]).length + 1) * 24 ≤ 140737488355328 := by
  have := Bool.toNat_le d
  have e : (T ++ [p]).length = T.length + 1 := by simp
  omega
theorem len_a1 {T : List Pl} {i : Nat} {d : Bool} (h1 : T.length ≤ i + d.toNat) (h2 : d = false) (p : Pl) : (T ++ [p]).length ≤ i + 1 + (true).toNat := by
  subst h2
  rw [List.length_append, List.length_singleton]
  simp only [Bool.toNat_false, Bool.toNat_true] at *
  omega
theorem len_a2 {T : List Pl} {i : Nat} {d : Bool} (h1 : T.length ≤ i + d.toNat) (h2 : d = false) (p q : Pl) : (T ++ [p] ++ [q]).length ≤ i + 1 + (true).toNat := by
  subst h2
  simp only [List.length_append, List.length_singleton, Bool.toNat_false, Bool.toNat_true] at *
  omega
theorem len_n1 {T : List Pl} {i : Nat} {d e : Bool} (h1 : T.length ≤ i + d.toNat) (h2 : d = e) : T.length ≤ i + 1 + e.toNat := by
  subst h2; omega
theorem len_n2 {T : List Pl} {i : Nat} {d e : Bool} (h1 : T.length ≤ i + d.toNat) (h2 : d = e) (p : Pl) : (T ++ [p]).length ≤ i + 1 + e.toNat := by
  subst h2
  rw [List.length_append, List.length_singleton]
  omega
set_option maxRecDepth 100000 in
set_option maxHeartbeats 16000000 in
theorem rput_c (w0 W : World) (l : List As) (rb : Nat) (M : List Pl) (id x y : Int) (hM : Srt M) (hn : (M.length + 4) * 24 ≤ 140737488355328) (h : Sep w0 W (rgA rb M :: l)) :
    Calls Try.prog 19 #[pt rb, iv id, vv x y] W fun e W' => e = .returned (.tuple #[]) ∧ Sep w0 W' (rgA rb (putM M ⟨id, x, y⟩) :: l) := by
  obtain ⟨a, c, h1⟩ := rg_open h
  have S1 := h1.newBox #[iv x, iv y] 32
  obtain ⟨W1, hW1⟩ : ∃ W1, W.alloc (.cells #[iv x, iv y] 32) = W1 := ⟨_, rfl⟩
  obtain ⟨ab, hab⟩ : ∃ b, W.heap.size = b := ⟨_, rfl⟩
  rw [hW1, hab] at S1
  have HPI := Keep.mk (pr_is ⟨id, x, y⟩ M hM)
  obtain ⟨n, hnn⟩ : ∃ n, M.length = n := ⟨_, rfl⟩
  have HQ := Keep.mk hnn
  have HN : Keep ((n + 4) * 24 ≤ 140737488355328) := ⟨by rw [← hnn]; exact hn⟩
  rw [hnn] at S1
  have HS0 : Keep (Sep w0 W1 (rowV 75 3 (.slice none 0 0) ([] : List Pl).length (pls []) :: boxA rb [.slice a n c] 73 :: rowV 75 3 (.slice a n c) n (pls M) :: boxA ab [iv x, iv y] 32 :: l)) := ⟨(bk1 [_, _] S1).nilV 75 3⟩
  obtain ⟨du, hdu, hdr⟩ := under75
  clear h h1 S1 hnn hM hn
  go_enter Try.func19, Try.ntmps19
  go_wp2_with fail
  clear hW1 hab
  go_loopw [6, 7, 8] (fun u6 u7 u8 wr => ∃ (T : List Pl) (d : Bool) (i : Nat), i ≤ n ∧ u7 = .bool d ∧ u8 = iv i ∧ Keep (Sep w0 wr (rowV 75 3 u6 T.length (pls T) :: boxA rb [.slice a n c] 73 :: rowV 75 3 (.slice a n c) n (pls M) :: boxA ab [iv x, iv y] 32 :: l)) ∧ Keep (T ++ pr ⟨id, x, y⟩ d (M.drop i) = pr ⟨id, x, y⟩ false M) ∧ Keep (T.length ≤ i + d.toNat)) (fun _ _ u8 _ => (n - intOf u8).toNat)
  case atStart => exact ⟨[], false, 0, by omega, rfl, rfl, HS0, ⟨by simp⟩, ⟨by simp⟩⟩
  case round =>
    clear HS0
    obtain ⟨T, d, i, hi, rfl, rfl, HS, hE, hT⟩ := hrel
    have c0 := (HS.out.boxGet k1m).cellv 0 _ rfl
    by_cases hlt : i < n
    · obtain ⟨s, hs⟩ : ∃ s, M[i]? = some s := ⟨_, List.getElem?_eq_getElem (by rw [HQ.out]; exact hlt)⟩
      have HP := Keep.mk hs
      obtain ⟨g, c', e1, _⟩ := own_any (HS.out.rowGet k2m) (by omega)
      injection e1 with e1 _ e3
      subst e1 e3
      have r0 : wr.cell? ⟨g, i * 3, none⟩ = some (iv s.id) := (pls_rd HS.out k2m (by omega) hs : World.rangeAt wr g (i * 3) [iv s.id, iv s.x, iv s.y]) 0 _ rfl
      have hi1 : (i : Int) < (n : Int) := by omega
      have hwi : IntKind.i64.wrap ((i : Int) + 1) = ((i + 1 : Nat) : Int) := by have := HN.out; rw [IntKind.wrap_i64]; omega
      have HDT := Keep.mk hT.out
      obtain ⟨bc, hbc⟩ : ∃ bc : Bool, decide (id ≤ s.id ∧ d = false) = bc := ⟨_, rfl⟩
      have HBC := Keep.mk hbc
      clear hbc hs hT
      go_upto_region 6 with fail
      go_cut [31] (fun sv wx => sv = .bool bc ∧ wx = wr)
      case first =>
        by_cases q1 : id ≤ s.id
        · cases d
          · have HE : Keep (bc = true) := ⟨by rw [← HBC.out]; exact decide_eq_true ⟨q1, rfl⟩⟩
            go_wp2_with fail
            go_meet
            exact ⟨by rw [HE.out], rfl⟩
          · have HE : Keep (bc = false) := ⟨by rw [← HBC.out]; exact decide_eq_false (fun q => by cases q.2)⟩
            go_wp2_with fail
            go_meet
            exact ⟨by rw [HE.out], rfl⟩
        · have HE : Keep (bc = false) := ⟨by rw [← HBC.out]; exact decide_eq_false (fun q => q1 q.1)⟩
          go_wp2_with fail
          go_meet
          exact ⟨by rw [HE.out], rfl⟩
      case rest =>
      rename World => wc
      obtain ⟨rfl, rfl⟩ := hcut
      by_cases heq : s.id = id
      · have HSE : Keep (s.id = (⟨id, x, y⟩ : Pl).id) := ⟨heq⟩
        have dne : (s.id == id) = true := by simpa using heq
        clear heq
        cases bc
        case true =>
            have HD0 : Keep (d = false) := ⟨(of_decide_eq_true HBC.out).2⟩
            have a0 := (HS.out.boxGet k3m).cellv 0 _ rfl
            have a1 := (HS.out.boxGet k3m).cellv 1 _ rfl
            have HLB8 : Keep (((T).length + 1) * 24 ≤ 140737488355328) := ⟨len_b1 HDT.out HN.out hlt⟩
            obtain ⟨g8, g8c, W8, ap8, S8⟩ := HS.out.appP (⟨id, x, y⟩ : Pl) (HLB8.out)
            have AP8 := Keep.mk ap8
            obtain ⟨n8, hn8⟩ : ∃ z, (T).length + 1 = z := ⟨_, rfl⟩
            rw [hn8] at AP8 S8
            replace AP8 : Keep ((Builtin.append_ #[71, 71] 71 #[u6, sl (World.heap wc).size 1 1]).run Try.prog (World.alloc wc (.cells #[iv id, iv x, iv y] 75)) = .ok (sl g8 n8 g8c) W8) := AP8
            replace HS : Keep (Sep w0 W8 (rowV 75 3 (sl g8 n8 g8c) (T ++ [(⟨id, x, y⟩ : Pl)]).length (pls (T ++ [(⟨id, x, y⟩ : Pl)])) :: boxA rb [sl g n c] 73 :: rowV 75 3 (sl g n c) n (pls M) :: boxA ab [iv x, iv y] 32 :: l)) := ⟨S8⟩
            clear ap8 S8 hn8
            have c80 := (HS.out.boxGet k1m).cellv 0 _ rfl
            have r80 : World.cell? W8 ⟨g, i * 3, none⟩ = some (iv s.id) := (pls_rd HS.out k2m (by omega) HP.out : World.rangeAt W8 g (i * 3) [iv s.id, iv s.x, iv s.y]) 0 _ rfl
            have HEQ : Keep ((T ++ [(⟨id, x, y⟩ : Pl)]) ++ pr ⟨id, x, y⟩ true (M.drop (i + 1)) = pr ⟨id, x, y⟩ false M) := ⟨by
              have q := hE.out
              rw [drop_cons HP.out, pr_cons] at q
              have hb := HBC.out
              obtain ⟨hb1, hb2⟩ := of_decide_eq_true hb
              subst hb2
              rw [if_pos ⟨hb1, rfl⟩, show (false || decide ((⟨id, x, y⟩ : Pl).id ≤ s.id)) = true by simpa using hb1] at q
              rw [if_pos HSE.out] at q
              simp only [List.append_assoc, List.nil_append] at q ⊢
              exact q⟩
            clear hE
            clear HBC
            go_wp2_with (first
              | (show wpList _ _ _ ({ dst := some 35, op := Op.build 75 _, type := _, pos := _, after := _, guard := _ } :: _) _ _
                 refine wpList_build rfl 75 _ rfl #[iv id, iv x, iv y] ((congrArg (Try.prog.built 75) (by simp only [List.map_toArray, List.map_cons, List.map_nil]; rfl)).trans (built75 _ _ _)) ?_)
              | (at_builtin; show wpList _ _ _ ({ dst := some 37, op := _, type := _, pos := _, after := _, guard := _ } :: _) _ _; refine wpList_append_run _ rfl (.tmp 32) (.tmp 36) 71 rfl _ _ rfl rfl AP8.out ?_)
              | (show wpList _ _ _ ({ dst := some 36, op := Op.buildSlice 71 _ _, type := _, pos := _, after := _, guard := _ } :: _) _ _
                 refine wpList_bs_run rfl (.tmp 35) 71 rfl _ rfl (bs3_run _ _ _ _) ?_)
              | fail)
            go_roundw
            case rel => exact ⟨T ++ [(⟨id, x, y⟩ : Pl)], true, i + 1, by omega, rfl, rfl, HS, HEQ, ⟨len_a1 HDT.out HD0.out _⟩⟩
            case measure => simp [intOf]; omega
        case false =>
            have HDD : Keep (d = (d || decide (id ≤ s.id))) := ⟨by
              have := of_decide_eq_false HBC.out
              cases d
              · simp only [Bool.false_or]
                exact (decide_eq_false (fun q => this ⟨q, rfl⟩)).symm
              · rfl⟩
            have HEQ : Keep ((T) ++ pr ⟨id, x, y⟩ (d || decide (id ≤ s.id)) (M.drop (i + 1)) = pr ⟨id, x, y⟩ false M) := ⟨by
              have q := hE.out
              rw [drop_cons HP.out, pr_cons] at q
              have hb := HBC.out
              rw [if_neg (of_decide_eq_false hb)] at q
              rw [if_pos HSE.out] at q
              simp only [List.nil_append] at q ⊢
              exact q⟩
            clear hE
            have HDB := Keep.mk HBC.out
            clear HBC
            go_wp2_with (first
              | fail)
            go_roundw
            case rel => exact ⟨T, (d || decide (id ≤ s.id)), i + 1, by omega, congrArg Value.bool HDD.out, rfl, HS, HEQ, ⟨len_n1 HDT.out HDD.out⟩⟩
            case measure => simp [intOf]; omega
      · have HSE : Keep (¬ s.id = (⟨id, x, y⟩ : Pl).id) := ⟨heq⟩
        have dne : (s.id == id) = false := by simpa using heq
        clear heq
        cases bc
        case true =>
            have HD0 : Keep (d = false) := ⟨(of_decide_eq_true HBC.out).2⟩
            have a0 := (HS.out.boxGet k3m).cellv 0 _ rfl
            have a1 := (HS.out.boxGet k3m).cellv 1 _ rfl
            have HLB8 : Keep (((T).length + 1) * 24 ≤ 140737488355328) := ⟨len_b1 HDT.out HN.out hlt⟩
            obtain ⟨g8, g8c, W8, ap8, S8⟩ := HS.out.appP (⟨id, x, y⟩ : Pl) (HLB8.out)
            have AP8 := Keep.mk ap8
            obtain ⟨n8, hn8⟩ : ∃ z, (T).length + 1 = z := ⟨_, rfl⟩
            rw [hn8] at AP8 S8
            replace AP8 : Keep ((Builtin.append_ #[71, 71] 71 #[u6, sl (World.heap wc).size 1 1]).run Try.prog (World.alloc wc (.cells #[iv id, iv x, iv y] 75)) = .ok (sl g8 n8 g8c) W8) := AP8
            replace HS : Keep (Sep w0 W8 (rowV 75 3 (sl g8 n8 g8c) (T ++ [(⟨id, x, y⟩ : Pl)]).length (pls (T ++ [(⟨id, x, y⟩ : Pl)])) :: boxA rb [sl g n c] 73 :: rowV 75 3 (sl g n c) n (pls M) :: boxA ab [iv x, iv y] 32 :: l)) := ⟨S8⟩
            clear ap8 S8 hn8
            have c80 := (HS.out.boxGet k1m).cellv 0 _ rfl
            have r80 : World.cell? W8 ⟨g, i * 3, none⟩ = some (iv s.id) := (pls_rd HS.out k2m (by omega) HP.out : World.rangeAt W8 g (i * 3) [iv s.id, iv s.x, iv s.y]) 0 _ rfl
            have HLB9 : Keep (((T ++ [(⟨id, x, y⟩ : Pl)]).length + 1) * 24 ≤ 140737488355328) := ⟨len_b2 HDT.out HN.out hlt _⟩
            obtain ⟨g9, g9c, W9, ap9, S9⟩ := HS.out.appP s (HLB9.out)
            have AP9 := Keep.mk ap9
            have RN9 : Keep (World.rangeAt W8 g (i * 3) [iv s.id, iv s.x, iv s.y]) := ⟨pls_rd HS.out k2m (by omega) HP.out⟩
            have c90 := (HS.out.boxGet k1m).cellv 0 _ rfl
            obtain ⟨n9, hn9⟩ : ∃ z, (T ++ [(⟨id, x, y⟩ : Pl)]).length + 1 = z := ⟨_, rfl⟩
            rw [hn9] at AP9 S9
            replace HS : Keep (Sep w0 W9 (rowV 75 3 (sl g9 n9 g9c) (T ++ [(⟨id, x, y⟩ : Pl)] ++ [s]).length (pls (T ++ [(⟨id, x, y⟩ : Pl)] ++ [s])) :: boxA rb [sl g n c] 73 :: rowV 75 3 (sl g n c) n (pls M) :: boxA ab [iv x, iv y] 32 :: l)) := ⟨S9⟩
            clear ap9 S9 hn9
            have HEQ : Keep ((T ++ [(⟨id, x, y⟩ : Pl)] ++ [s]) ++ pr ⟨id, x, y⟩ true (M.drop (i + 1)) = pr ⟨id, x, y⟩ false M) := ⟨by
              have q := hE.out
              rw [drop_cons HP.out, pr_cons] at q
              have hb := HBC.out
              obtain ⟨hb1, hb2⟩ := of_decide_eq_true hb
              subst hb2
              rw [if_pos ⟨hb1, rfl⟩, show (false || decide ((⟨id, x, y⟩ : Pl).id ≤ s.id)) = true by simpa using hb1] at q
              rw [if_neg HSE.out] at q
              simp only [List.append_assoc] at q ⊢
              exact q⟩
            clear hE
            clear HBC
            go_wp2_with (first
              | (show wpList _ _ _ ({ dst := some 35, op := Op.build 75 _, type := _, pos := _, after := _, guard := _ } :: _) _ _
                 refine wpList_build rfl 75 _ rfl #[iv id, iv x, iv y] ((congrArg (Try.prog.built 75) (by simp only [List.map_toArray, List.map_cons, List.map_nil]; rfl)).trans (built75 _ _ _)) ?_)
              | (at_builtin; show wpList _ _ _ ({ dst := some 37, op := _, type := _, pos := _, after := _, guard := _ } :: _) _ _; refine wpList_append_run _ rfl (.tmp 32) (.tmp 36) 71 rfl _ _ rfl rfl AP8.out ?_)
              | (show wpList _ _ _ ({ dst := some 36, op := Op.buildSlice 71 _ _, type := _, pos := _, after := _, guard := _ } :: _) _ _
                 refine wpList_bs_run rfl (.tmp 35) 71 rfl _ rfl (bs3_run _ _ _ _) ?_)
              | (at_builtin; show wpList _ _ _ ({ dst := some 57, op := _, type := _, pos := _, after := _, guard := _ } :: _) _ _; refine wpList_append_run _ rfl (.tmp 48) (.tmp 56) 71 rfl _ _ rfl rfl AP9.out ?_)
              | (show wpList _ _ _ ({ dst := some 56, op := Op.buildSlice 71 _ _, type := _, pos := _, after := _, guard := _ } :: _) _ _
                 refine wpList_bs_run rfl (.tmp 55) 71 rfl _ rfl (bs3_run _ _ _ _) ?_)
              | (show wpList _ _ _ ({ dst := _, op := Op.load 75 _, type := _, pos := _, after := _, guard := _ } :: _) _ _
                 refine wpList_load_mid rfl 75 _ rfl _ _ rfl _ _ RN9.out hdu hdr info75 ?_)
              | fail)
            go_roundw
            case rel => exact ⟨T ++ [(⟨id, x, y⟩ : Pl)] ++ [s], true, i + 1, by omega, rfl, rfl, HS, HEQ, ⟨len_a2 HDT.out HD0.out _ _⟩⟩
            case measure => simp [intOf]; omega
        case false =>
            have HDD : Keep (d = (d || decide (id ≤ s.id))) := ⟨by
              have := of_decide_eq_false HBC.out
              cases d
              · simp only [Bool.false_or]
                exact (decide_eq_false (fun q => this ⟨q, rfl⟩)).symm
              · rfl⟩
            have HLB9 : Keep (((T).length + 1) * 24 ≤ 140737488355328) := ⟨len_b1 HDT.out HN.out hlt⟩
            obtain ⟨g9, g9c, W9, ap9, S9⟩ := HS.out.appP s (HLB9.out)
            have AP9 := Keep.mk ap9
            have RN9 : Keep (World.rangeAt wc g (i * 3) [iv s.id, iv s.x, iv s.y]) := ⟨pls_rd HS.out k2m (by omega) HP.out⟩
            have c90 := (HS.out.boxGet k1m).cellv 0 _ rfl
            obtain ⟨n9, hn9⟩ : ∃ z, (T).length + 1 = z := ⟨_, rfl⟩
            rw [hn9] at AP9 S9
            replace HS : Keep (Sep w0 W9 (rowV 75 3 (sl g9 n9 g9c) (T ++ [s]).length (pls (T ++ [s])) :: boxA rb [sl g n c] 73 :: rowV 75 3 (sl g n c) n (pls M) :: boxA ab [iv x, iv y] 32 :: l)) := ⟨S9⟩
            clear ap9 S9 hn9
            have HEQ : Keep ((T ++ [s]) ++ pr ⟨id, x, y⟩ (d || decide (id ≤ s.id)) (M.drop (i + 1)) = pr ⟨id, x, y⟩ false M) := ⟨by
              have q := hE.out
              rw [drop_cons HP.out, pr_cons] at q
              have hb := HBC.out
              rw [if_neg (of_decide_eq_false hb)] at q
              rw [if_neg HSE.out] at q
              simp only [List.append_assoc, List.nil_append] at q ⊢
              exact q⟩
            clear hE
            have HDB := Keep.mk HBC.out
            clear HBC
            go_wp2_with (first
              | (at_builtin; show wpList _ _ _ ({ dst := some 57, op := _, type := _, pos := _, after := _, guard := _ } :: _) _ _; refine wpList_append_run _ rfl (.tmp 48) (.tmp 56) 71 rfl _ _ rfl rfl AP9.out ?_)
              | (show wpList _ _ _ ({ dst := some 56, op := Op.buildSlice 71 _ _, type := _, pos := _, after := _, guard := _ } :: _) _ _
                 refine wpList_bs_run rfl (.tmp 55) 71 rfl _ rfl (bs3_run _ _ _ _) ?_)
              | (show wpList _ _ _ ({ dst := _, op := Op.load 75 _, type := _, pos := _, after := _, guard := _ } :: _) _ _
                 refine wpList_load_mid rfl 75 _ rfl _ _ rfl _ _ RN9.out hdu hdr info75 ?_)
              | fail)
            go_roundw
            case rel => exact ⟨T ++ [s], (d || decide (id ≤ s.id)), i + 1, by omega, congrArg Value.bool HDD.out, rfl, HS, HEQ, ⟨len_n2 HDT.out HDD.out _⟩⟩
            case measure => simp [intOf]; omega
    · have hE2 : Keep (T ++ (if d then [] else [⟨id, x, y⟩]) = putM M ⟨id, x, y⟩) := ⟨by
        have q := hE.out
        rw [List.drop_of_length_le (by rw [HQ.out]; omega)] at q
        rw [← HPI.out, ← q]
        unfold pr
        rfl⟩
      have hTl := hT.out
      clear hE hT
      cases d
      case true =>
        have HF : Keep (T = putM M ⟨id, x, y⟩) := ⟨by simpa using hE2.out⟩
        have x0 := (HS.out.boxGet k1m).cellv 0 _ rfl
        have y0 := (HS.out.boxGet k1m).frozen 0
        have HG : Keep (Sep w0 (wr.setCell ⟨rb, 0, none⟩ u6) (rgA rb (putM M ⟨id, x, y⟩) :: l)) := ⟨by
          have q := (fr1 [_] HS.out).boxPut 0 u6
          have q2 := rg_shut (M := T) (v := u6) q
          rw [HF.out] at q2
          exact ((q2.swap.tail).swap.tail)⟩
        obtain ⟨a6, c6, e6⟩ := own_slice (HS.out.rowGet k0m)
        generalize T.length = n6 at e6
        subst e6
        clear HS hE2
        go_wp2_with fail
        go_end0
        exact ⟨rfl, HG.out⟩
      case false =>
        have HF : Keep (T ++ [⟨id, x, y⟩] = putM M ⟨id, x, y⟩) := ⟨by simpa using hE2.out⟩
        obtain ⟨g8, c8, W8, ap8, S8⟩ := HS.out.appP ⟨id, x, y⟩ (by have := HN.out; simp only [Bool.toNat_false] at hTl; omega)
        have AP8 := Keep.mk ap8
        have a0 := (HS.out.boxGet k3m).cellv 0 _ rfl
        have a1 := (HS.out.boxGet k3m).cellv 1 _ rfl
        obtain ⟨n8, hn8⟩ : ∃ z, T.length + 1 = z := ⟨_, rfl⟩
        rw [hn8] at AP8 S8
        replace AP8 : Keep ((Builtin.append_ #[71, 71] 71 #[u6, sl wr.heap.size 1 1]).run Try.prog (wr.alloc (.cells #[iv id, iv x, iv y] 75)) = .ok (sl g8 n8 c8) W8) := AP8
        have x0 := (S8.boxGet k1m).cellv 0 _ rfl
        have y0 := (S8.boxGet k1m).frozen 0
        have HG : Keep (Sep w0 (W8.setCell ⟨rb, 0, none⟩ (sl g8 n8 c8)) (rgA rb (putM M ⟨id, x, y⟩) :: l)) := ⟨by
          have q := (fr1 [_] S8).boxPut 0 (sl g8 n8 c8)
          have q2 := rg_shut (M := T ++ [⟨id, x, y⟩]) (v := sl g8 n8 c8) q
          rw [HF.out] at q2
          exact ((q2.swap.tail).swap.tail)⟩
        clear ap8 S8 hn8 HS hE2
        go_wp2_with (first
          | (show wpList _ _ _ ({ dst := some 63, op := Op.build 75 _, type := _, pos := _, after := _, guard := _ } :: _) _ _
             refine wpList_build rfl 75 _ rfl #[iv id, iv x, iv y] ((congrArg (Try.prog.built 75) (by simp only [List.map_toArray, List.map_cons, List.map_nil]; rfl)).trans (built75 _ _ _)) ?_)
          | (at_builtin; refine wpList_append_run _ rfl (.tmp 60) (.tmp 64) 71 rfl _ _ rfl rfl AP8.out ?_)
          | (show wpList _ _ _ ({ dst := some 64, op := Op.buildSlice 71 _ _, type := _, pos := _, after := _, guard := _ } :: _) _ _
             refine wpList_bs_run rfl (.tmp 63) 71 rfl _ rfl (bs3_run _ _ _ _) ?_))
        go_end0
        exact ⟨rfl, HG.out⟩
end Go.Proofs.Ytidpafmhmhojmaa
