import Derived.Test.YtldnpebnpbahjaaGreatDoorX7
import Derived.Test.YtldnpebnpbahjaaGreatDoorX12
set_option maxRecDepth 100000
set_option maxHeartbeats 8000000
namespace Go.Proofs.YtldnpebnpbahjaaGreatDoor.Pk.Sn
open Go Go.RowKit Go.Proofs.Tryz
theorem st_all {ops : Array Oper} {rest : List Oper} {op : Oper} {a : Act} {Q : Exit → Act → World → Prop} (w3 : World) (rb : Nat) (ds cs : List Value) (T T' : TypeId) (hgd : op.guard = none) {x y : Operand} (ho : op.op = .store T x y)
    (hx : a.eval x = .pointer (some ⟨rb, 0, none⟩)) (hy : a.eval y = .agg cs.toArray) (hh : Has w3 rb ds T') (hl : cs.length = ds.length) (hi : (prog.info? T).map (·.size) = some cs.length) (h1 : ∀ v ∈ cs, v.oneCell' = true)
    (h : ∀ w6, Has w6 rb cs T' → w3.grownBy w6 (some rb) → wpList prog ops Q rest (a.put op.dst undef) w6) : wpList prog ops Q (op :: rest) a w3 := by
  refine wpList_store_mid hgd T x y ho rb 0 cs.toArray hx hy (hh.there 0 cs.toArray.size (by rw [List.size_toArray]; omega)) (by rw [List.size_toArray]; exact hi) (all_oneCell_toArray h1) ?_; exact h _ (hh.setAll cs hl) (gr_sets _ _ _ _)
theorem underV : ∃ d, prog.underlying 49 = some d ∧ d.isRow = true := ⟨_, underlying49, rfl⟩
theorem infoV : (prog.info? 49).map (·.size) = some 16 := by kernel_rfl
theorem builtV : prog.built 49 [] = some #[.int .u64 0, .int .i64 0, .string { data := #[] }, .int .i64 0, .int .i64 0, .int .i64 0, .int .i64 0, .int .i64 0, .int .i64 0, .int .i64 0, .int .i64 0, .int .i64 0, .int .i64 0, .int .i64 0, .int .i64 0, .slice none 0 0] := by kernel_rfl
theorem vw_one (V : Vw) (a : Option Addr) (c : Nat) : ∀ v ∈ V.cs a c, v.oneCell' = true := by
  intro v hv; simp only [Vw.cs, List.mem_cons, List.not_mem_nil, or_false] at hv; rcases hv with rfl | rfl | rfl | rfl | rfl | rfl | rfl | rfl | rfl | rfl | rfl | rfl | rfl | rfl | rfl | rfl <;> rfl
def vOf (X : List Lv) (S : List Sn) : Vw :=
  match X with
  | [.num t, .num p, .txt n, .num x, .num y, .num u, .num v, .num h, .num he, .num en, .num am, .num co, .num wt, .num sp, .num sc, .num _] => ⟨t, p, ⟨n.toArray⟩, x, y, u, v, h, he, en, am, co, wt, sp, sc, S⟩
  | _ => Vw.zero
def cnt (X : List Lv) : Nat :=
  match (X[15]? : Option Lv) with
  | some (Lv.num k) => k.toNat
  | _ => 0
theorem says_cons {m : Mk} {ms : List Mk} {X : List Lv} {Cs : List Value} (h : Says (m :: ms) X Cs) : ∃ x xs z zs, X = x :: xs ∧ Cs = z :: zs ∧ m.r x z ∧ Says ms xs zs := by
  cases X with
  | nil => exact h.elim
  | cons x xs =>
    cases Cs with
    | nil => exact h.elim
    | cons z zs => exact ⟨x, xs, z, zs, rfl, rfl, h.1, h.2⟩
theorem says_nil {X : List Lv} {Cs : List Value} (h : Says [] X Cs) : X = [] ∧ Cs = [] := by
  cases X with
  | nil =>
    cases Cs with
    | nil => exact ⟨rfl, rfl⟩
    | cons z zs => exact h.elim
  | cons x xs => exact h.elim
theorem says_v {X : List Lv} {Cs : List Value} {a : Option Addr} {n c : Nat} (h : Says hMs X Cs) (hc : Cs[15]? = some (.slice a n c)) (S : List Sn) (hS : S.length = n) : Cs = (vOf X S).cs a c ∧ (vOf X S).lv = X ∧ (vOf X S).S = S ∧ cnt X = n := by
  obtain ⟨x0, X0, z0, Z0, rfl, rfl, r0, h⟩ := says_cons h; obtain ⟨x1, X1, z1, Z1, rfl, rfl, r1, h⟩ := says_cons h; obtain ⟨x2, X2, z2, Z2, rfl, rfl, r2, h⟩ := says_cons h; obtain ⟨x3, X3, z3, Z3, rfl, rfl, r3, h⟩ := says_cons h; obtain ⟨x4, X4, z4, Z4, rfl, rfl, r4, h⟩ := says_cons h; obtain ⟨x5, X5, z5, Z5, rfl, rfl, r5, h⟩ := says_cons h; obtain ⟨x6, X6, z6, Z6, rfl, rfl, r6, h⟩ := says_cons h; obtain ⟨x7, X7, z7, Z7, rfl, rfl, r7, h⟩ := says_cons h; obtain ⟨x8, X8, z8, Z8, rfl, rfl, r8, h⟩ := says_cons h; obtain ⟨x9, X9, z9, Z9, rfl, rfl, r9, h⟩ := says_cons h; obtain ⟨x10, X10, z10, Z10, rfl, rfl, r10, h⟩ := says_cons h; obtain ⟨x11, X11, z11, Z11, rfl, rfl, r11, h⟩ := says_cons h; obtain ⟨x12, X12, z12, Z12, rfl, rfl, r12, h⟩ := says_cons h; obtain ⟨x13, X13, z13, Z13, rfl, rfl, r13, h⟩ := says_cons h; obtain ⟨x14, X14, z14, Z14, rfl, rfl, r14, h⟩ := says_cons h; obtain ⟨x15, X15, z15, Z15, rfl, rfl, r15, h⟩ := says_cons h; obtain ⟨rfl, rfl⟩ : X15 = [] ∧ Z15 = [] := says_nil h; obtain ⟨y0, rfl, rfl⟩ := r0; obtain ⟨y1, rfl, rfl⟩ := r1; obtain ⟨y2, rfl, rfl⟩ := r2; obtain ⟨y3, rfl, rfl⟩ := r3; obtain ⟨y4, rfl, rfl⟩ := r4; obtain ⟨y5, rfl, rfl⟩ := r5; obtain ⟨y6, rfl, rfl⟩ := r6; obtain ⟨y7, rfl, rfl⟩ := r7; obtain ⟨y8, rfl, rfl⟩ := r8; obtain ⟨y9, rfl, rfl⟩ := r9; obtain ⟨y10, rfl, rfl⟩ := r10; obtain ⟨y11, rfl, rfl⟩ := r11; obtain ⟨y12, rfl, rfl⟩ := r12; obtain ⟨y13, rfl, rfl⟩ := r13; obtain ⟨y14, rfl, rfl⟩ := r14; obtain ⟨a', n', c', rfl, rfl⟩ := r15
  obtain ⟨rfl, rfl, rfl⟩ : a' = a ∧ n' = n ∧ c' = c := by
    have := Option.some.inj hc
    simpa using this
  refine ⟨?_, ?_, rfl, rfl⟩
  · simp only [vOf, Vw.cs, hS, sl_back]
  · simp only [vOf, Vw.lv, hS, sl_mk]
def rdV (b : List UInt8) : Vw × Int :=
  let x := takeL hK (b, 0)
  let y := takeSn (cnt x.1) x.2
  if rDone y.2 = 0 then (vOf x.1 y.1, 0) else (Vw.zero, rDone y.2)
structure RdR (w w' : World) (V : Vw) (a : Option Addr) (c : Nat) : Prop where
  g : w.grownBy w' none
  s : (a = none ∧ c = 0 ∧ V.S = []) ∨ ∃ b, a = some ⟨b, 0, none⟩ ∧ c = V.S.length ∧ w.heap.size ≤ b ∧ Has w' b (fls V.S) 98
theorem read_c (s : ByteArray) (w : World) :
    Calls prog 46 #[.string s] w fun e w' => ∃ a c, e = .returned (.tuple #[.agg ((rdV (sl s)).1.cs a c).toArray, iv (rdV (sl s)).2]) ∧ RdR w w' (rdV (sl s)).1 a c := by
  obtain ⟨d, hd, hr⟩ := underV; have hmf : MF := fun _ _ _ _ => rfl
  obtain ⟨w0, hw0⟩ : ∃ q, w.alloc (.cells #[.int .u64 0, .int .i64 0, .string { data := #[] }, .int .i64 0, .int .i64 0, .int .i64 0, .int .i64 0, .int .i64 0, .int .i64 0, .int .i64 0, .int .i64 0, .int .i64 0, .int .i64 0, .int .i64 0, .int .i64 0, .slice none 0 0] 49) = q := ⟨_, rfl⟩; obtain ⟨h0, g0, s0⟩ := hasN hw0; have HG := Kp.mk (And.intro h0 (And.intro g0 s0)); obtain ⟨VR, hVR⟩ : ∃ q, rdV (sl s) = q := ⟨_, rfl⟩; rw [hVR]; have HVR := Kp.mk hVR; clear h0 g0 s0 hVR; go_enter func46, ntmps46; go_wp2_with fail; refine (newR_c s w0).mono ?_; rintro e w1 ⟨rb, B, rfl, a1, g1, l1, l2⟩; obtain ⟨w2, hw2⟩ : ∃ q, w1.alloc (.cells #[pa rb 0] 134) = q := ⟨_, rfl⟩; obtain ⟨h2, g2, s2⟩ := hasN hw2; obtain ⟨w3, hw3⟩ : ∃ q, w2.alloc (.cells #[.int .u64 0, .int .i64 0, .string { data := #[] }, .int .i64 0, .int .i64 0, .int .i64 0, .int .i64 0, .int .i64 0, .int .i64 0, .int .i64 0, .int .i64 0, .int .i64 0, .int .i64 0, .int .i64 0, .int .i64 0, .slice none 0 0] 49) = q := ⟨_, rfl⟩; obtain ⟨h3, g3, s3⟩ := hasN hw3; have hrl : rb < w1.heap.size := by obtain ⟨⟨a, c, q1, q2⟩, _⟩ := a1; exact q1.lt
  have hBl : B < w1.heap.size := a1.lt; have HE := Kp.mk (each_r w3 w2.heap.size rb B w1.heap.size (sl s, 0) [uv 0, iv 0, .string ⟨#[]⟩, iv 0, iv 0, iv 0, iv 0, iv 0, iv 0, iv 0, iv 0, iv 0, iv 0, iv 0, iv 0, .slice none 0 0] h3 rfl ((a1.kept g2).kept g3) (by omega) (by omega) (g3.cell (h2.cellv 0 _ rfl) (by simp)) (by omega) (by omega)); have HW := Kp.mk (And.intro (((HG.out.2.1.trans g1).trans g2).trans g3) (And.intro ((((HG.out.1.kept g1 (by simp)).kept g2 (by simp)).kept g3 (by simp))) (And.intro (g3.cell (h2.cellv 0 _ rfl) (by simp) : w3.cell? ⟨w1.heap.size, 0, none⟩ = some (pa rb 0)) (And.intro (And.intro l1 HG.out.2.2) (And.intro hrl (And.intro s2 (And.intro s3 g1.size))))))); clear a1 g1 l1 l2 h2 g2 h3 g3 hrl hBl s2 s3; go_wp2_with fail; refine HE.out.mono ?_; rintro e w4 ⟨rfl, Cs, n, g, ER⟩; obtain ⟨hg3, hz3, hx3, hl1, hrl, hs2, hs3, hg1⟩ := HW.out; have c4 : w4.cell? ⟨w1.heap.size, 0, none⟩ = some (pa rb 0) := fr_cell ER.f (by omega) hx3
  have HV : Kp (Cs = (vOf (takeL hK (sl s, 0)).1 (takeSn n (takeL hK (sl s, 0)).2).1).cs (some ⟨g, 0, none⟩) n ∧ cnt (takeL hK (sl s, 0)).1 = n ∧ (vOf (takeL hK (sl s, 0)).1 (takeSn n (takeL hK (sl s, 0)).2).1).S = (takeSn n (takeL hK (sl s, 0)).2).1) := by
    obtain ⟨q1, q2, q3, q4⟩ := says_v ER.s ER.c (takeSn n (takeL hK (sl s, 0)).2).1 (takeSn_len _ _); exact ⟨q1, q4, q3⟩
  have hz4 : Has w4 w.heap.size [uv 0, iv 0, .string ⟨#[]⟩, iv 0, iv 0, iv 0, iv 0, iv 0, iv 0, iv 0, iv 0, iv 0, iv 0, iv 0, iv 0, .slice none 0 0] 49 := by
    exact hz3.fr ER.f (by omega)
  have HR : Kp (Has w4 w.heap.size [uv 0, iv 0, .string ⟨#[]⟩, iv 0, iv 0, iv 0, iv 0, iv 0, iv 0, iv 0, iv 0, iv 0, iv 0, iv 0, iv 0, .slice none 0 0] 49 ∧ Has w4 w2.heap.size Cs 49 ∧ Has w4 g (fls (takeSn n (takeL hK (sl s, 0)).2).1) 98 ∧ RAt w4 rb B (takeSn n (takeL hK (sl s, 0)).2).2 ∧ w.grownBy w4 none ∧ w.heap.size < g) := by
    have := ER.gg; refine ⟨hz4, ER.v, ER.h, ER.r, fr_mine hg3 ER.f (fun i e => ?_), ?_⟩ <;> omega
  obtain ⟨y, hy⟩ : ∃ y, takeSn n (takeL hK (sl s, 0)).2 = y := ⟨_, rfl⟩
  have HRD : Kp (VR = if rDone y.2 = 0 then (vOf (takeL hK (sl s, 0)).1 y.1, 0) else (Vw.zero, rDone y.2)) := by
    rw [← HVR.out]; unfold rdV; simp only [HV.out.2.1, hy]; exact ⟨trivial⟩
  rw [hy] at HR HV; have HN : Kp (y.1.length = n) := ⟨by rw [← hy]; exact takeSn_len _ _⟩; obtain ⟨dn, hdn⟩ : ∃ q, rDone y.2 = q := ⟨_, rfl⟩; have HDN := Kp.mk (rDone_c rb B y.2 w4 HR.out.2.2.2.1); rw [hdn] at HRD HDN; clear ER hg3 hz3 hx3 hl1 hrl hs2 hs3 hg1 hz4 HE HW hy; go_wp2_with fail; refine HDN.out.mono ?_; rintro e w5 ⟨rfl, hw5⟩; subst hw5; clear HDN hdn; by_cases h0 : dn = 0
  · have HR2 : Kp (VR = (vOf (takeL hK (sl s, 0)).1 y.1, 0)) := by
      have h := HRD.out; rw [if_pos h0] at h; exact ⟨h⟩
    (have hq : (dn == 0) = true := by simp [h0]); have HD0 := Kp.mk h0; obtain ⟨V, hV⟩ : ∃ V, vOf (takeL hK (sl s, 0)).1 y.1 = V := ⟨_, rfl⟩; rw [hV] at HV HR2; clear h0 HRD hV; have hCs := HV.out.1; subst hCs
    go_wp2_with (first
      | (with_reducible show wpList _ _ _ ({ dst := _, op := Op.load 49 _, type := _, pos := _, after := _, guard := _ } :: _) _ _
         refine load_g rfl 49 _ rfl w2.heap.size 0 rfl (V.cs (some ⟨g, 0, none⟩) n) d HR.out.2.1.range hd hr infoV ?_)
      | (with_reducible show wpList _ _ _ ({ dst := _, op := Op.store 49 _ _, type := _, pos := _, after := _, guard := _ } :: _) _ _
         refine st_all _ w.heap.size [uv 0, iv 0, .string ⟨#[]⟩, iv 0, iv 0, iv 0, iv 0, iv 0, iv 0, iv 0, iv 0, iv 0, iv 0, iv 0, iv 0, .slice none 0 0] (V.cs (some ⟨g, 0, none⟩) n) 49 49 rfl rfl rfl rfl HR.out.1 rfl infoV (vw_one _ _ _) ?_; intro w6 h6 g6; have HF := Kp.mk (And.intro h6 g6)
         clear h6 g6))
    exact ret_ct rfl rfl HF.out.1 hd hr infoV rfl (by rw [HR2.out]; exact ⟨some ⟨g, 0, none⟩, n, rfl, gr_new HR.out.2.2.2.2.1 HF.out.2 (Nat.le_refl _), .inr ⟨g, rfl, by rw [HV.out.2.2]; exact HN.out.symm, by have := HR.out.2.2.2.2.2; omega, by rw [HV.out.2.2]; exact HR.out.2.2.1.kept HF.out.2 (fun e => by have := Option.some.inj e; have := HR.out.2.2.2.2.2; omega)⟩⟩)
  · have HR2 : Kp (VR = (Vw.zero, dn)) := by
      have h := HRD.out; rw [if_neg h0] at h; exact ⟨h⟩
    (have hq : (dn == 0) = false := by simp [h0]); clear h0 HRD; have HBT := Kp.mk builtV
    go_wp2_with (first
      | (with_reducible show wpList _ _ _ ({ dst := _, op := Op.build 49 _, type := _, pos := _, after := _, guard := _ } :: _) _ _
         refine wpList_build rfl 49 _ rfl _ ((congrArg (prog.built 49) (by simp only [List.map_toArray, List.map_nil]; rfl)).trans HBT.out) ?_)
      | (with_reducible show wpList _ _ _ ({ dst := _, op := Op.store 49 _ _, type := _, pos := _, after := _, guard := _ } :: _) _ _
         refine st_all _ w.heap.size [uv 0, iv 0, .string ⟨#[]⟩, iv 0, iv 0, iv 0, iv 0, iv 0, iv 0, iv 0, iv 0, iv 0, iv 0, iv 0, iv 0, .slice none 0 0] (Vw.zero.cs none 0) 49 49 rfl rfl rfl rfl HR.out.1 rfl infoV (vw_one _ _ _) ?_; intro w6 h6 g6; have HF := Kp.mk (And.intro h6 g6)
         clear h6 g6))
    exact ret_ct rfl rfl HF.out.1 hd hr infoV rfl (by rw [HR2.out]; exact ⟨none, 0, rfl, gr_new HR.out.2.2.2.2.1 HF.out.2 (Nat.le_refl _), .inl ⟨rfl, rfl, rfl⟩⟩)
def encS (S : List Sn) : List UInt8 := S.flatMap fun s => encL tK s.lv
def fitS (S : List Sn) : Prop := ∀ s ∈ S, fitL tK s.lv
def encV (V : Vw) : List UInt8 := encL hK V.lv ++ encS V.S
structure fitV (V : Vw) : Prop where
  h : fitL hK V.lv
  s : fitS V.S
theorem laySn_none (S : List Sn) : laySn S none = none := by
  unfold laySn
  induction S with
  | nil => rfl
  | cons s r ih => rw [List.foldl_cons, layL_none, ih]
theorem laySn_yes (S : List Sn) (T : List UInt8) (h : ∀ s ∈ S, s.ok) (hf : fitS S) : laySn S (some T) = some (T ++ encS S) := by
  induction S generalizing T with
  | nil => simp [laySn, encS]
  | cons s r ih =>
    have h1 := layL_eq tK s.lv T (h s (by simp)); rw [if_pos (hf s (by simp))] at h1; have h2 : laySn (s :: r) (some T) = laySn r (Pk.layL tK s.lv (some T)) := rfl; rw [h2, h1, ih _ (fun x hx => h x (by simp [hx])) (fun x hx => hf x (by simp [hx]))]; simp [encS, List.append_assoc]
theorem laySn_no (S : List Sn) (T : List UInt8) (h : ∀ s ∈ S, s.ok) (hf : ¬ fitS S) : laySn S (some T) = none := by
  induction S generalizing T with
  | nil => exact absurd (fun _ hx => absurd hx List.not_mem_nil) hf
  | cons s r ih =>
    have h1 := layL_eq tK s.lv T (h s (by simp)); have h2 : laySn (s :: r) (some T) = laySn r (Pk.layL tK s.lv (some T)) := rfl; rw [h2, h1]; by_cases hs : fitL tK s.lv
    · rw [if_pos hs]; refine ih _ (fun x hx => h x (by simp [hx])) (fun q => hf (fun x hx => ?_)); rcases List.mem_cons.1 hx with rfl | hx
      · exact hs
      · exact q x hx
    · rw [if_neg hs, laySn_none]
theorem fit_cnt : ∀ {V : Vw}, fitL hK V.lv → V.S.length ≤ 255 := fun {V} h => by
  have h16 : fitK .u1 (.num (V.S.length : Nat)) := h.2.2.2.2.2.2.2.2.2.2.2.2.2.2.2.1; have : (0 : Int) ≤ (V.S.length : Nat) ∧ ((V.S.length : Nat) : Int) < 256 := h16; omega
theorem wrS_yes {V : Vw} (h : V.ok) (hf : fitV V) : wrS V = some (encV V) := by
  unfold wrS; have h1 := layL_eq hK V.lv [] h.h; rw [if_pos hf.h] at h1; rw [h1, laySn_yes _ _ h.s hf.s]; rfl
theorem wrS_no {V : Vw} (h : V.ok) (hf : ¬ fitV V) : wrS V = none := by
  unfold wrS; have h1 := layL_eq hK V.lv [] h.h; rw [h1]; by_cases hh : fitL hK V.lv
  · rw [if_pos hh]; exact laySn_no _ _ h.s (fun q => hf ⟨hh, q⟩)
  · rw [if_neg hh, laySn_none]
theorem wrV_yes {V : Vw} (h : V.ok) (hf : fitV V) : wrV V = (encV V, 0) := by
  unfold wrV; have := fit_cnt hf.h; rw [if_neg (by omega), wrS_yes h hf]; rfl
theorem wrV_no {V : Vw} (h : V.ok) (hf : ¬ fitV V) : wrV V = ([], 51) := by
  unfold wrV; rw [wrS_no h hf]; split <;> rfl
theorem encS_len (S : List Sn) : (encS S).length = 26 * S.length := by
  unfold encS
  induction S with
  | nil => rfl
  | cons s r ih =>
    rw [List.flatMap_cons, List.length_append, ih, List.length_cons]
    have : (encL tK s.lv).length = 26 := by
      simp [tK, tMs, Mk.kd, Sn.lv, encL, encK, be_len]
    omega
theorem encV_len (V : Vw) : (encV V).length = 107 + V.n.size + 26 * V.S.length := by
  unfold encV; rw [List.length_append, encS_len]
  have : (encL hK V.lv).length = 107 + V.n.size := by
    simp [hK, hMs, Mk.kd, Vw.lv, encL, encK, be_len, sl_len]; omega
  omega
end Go.Proofs.YtldnpebnpbahjaaGreatDoor.Pk.Sn
