/- view: ViewKeeps -/
import Derived.Test.YtgedlabmndlooaaGreatM6
import Derived.Test.YtgedlabmndlooaaGreatP6
namespace Go.Proofs.YtgedlabmndlooaaGreat
open Go Go.RowKit Go.Maps Go.Shelf Go.Lib Go.Sort

/-- what Of answers, at one stroke, all of it told -/
def OfQ (tick : Int) (LC : List Cr) (LS : List Sh) (p radius sho tk : Int) (ow : Cr) (T : List Sn) (cd : Int) : Prop :=
  (LC.find? (fun c => c.pl == p) = none ∧ cd = 210 ∧ T = [] ∧ tk = 0 ∧ ow = zcar) ∨ (∃ own, LC.find? (fun c => c.pl == p) = some own ∧ cd = 0 ∧ ow = own ∧ tk = tick ∧ Tld LC LS radius sho own T)
theorem OfQ.uniq {tick : Int} {LC : List Cr} {LS : List Sh} {p r s tk tk' : Int} {ow ow' : Cr} {T T' : List Sn} {cd cd' : Int} (h : OfQ tick LC LS p r s tk ow T cd) (h' : OfQ tick LC LS p r s tk' ow' T' cd') : tk = tk' ∧ ow = ow' ∧ T = T' ∧ cd = cd' := by
  rcases h with ⟨a, rfl, rfl, rfl, rfl⟩ | ⟨o, a, rfl, rfl, rfl, t⟩ <;> rcases h' with ⟨a', rfl, rfl, rfl, rfl⟩ | ⟨o', a', rfl, rfl, rfl, t'⟩
  · exact ⟨rfl, rfl, rfl, rfl⟩
  · rw [a] at a'; cases a'
  · rw [a] at a'; cases a'
  · rw [a] at a'
    injection a' with a'
    subst a'
    exact ⟨rfl, rfl, t.uniq t', rfl⟩
structure OfV (W W' : World) (tick : Int) (LC : List Cr) (LS : List Sh) (p radius sho : Int) (e : Ending) : Prop where
  o : ∃ (tk : Int) (ow : Cr) (a : Option Addr) (n c : Nat) (T : List Sn) (cd : Int), e = .returned (.tuple #[.agg (vwv tk ow (.slice a n c)).toArray, iv cd]) ∧ T.length = n ∧ n ≤ 32 ∧ Sep W W' [rowV 33 5 (.slice a n c) n (fl snv T)] ∧ OfQ tick LC LS p radius sho tk ow T cd
theorem of_v (W : World) (tick nx p radius sho : Int) (vc vs : Value) (LC : List Cr) (LS : List Sh) (hS : StO W vc vs LC LS) :
    Calls Tryz.prog 12 #[.agg #[.int .u64 tick, vc, vs, iv nx], iv p, iv radius, iv sho] W fun e W' => OfV W W' tick LC LS p radius sho e := by
  refine (of_c W tick nx p radius sho vc vs LC LS hS).mono ?_
  intro e W' h
  cases hfd : LC.find? (fun c => c.pl == p) with
  | none =>
    obtain ⟨rfl, g⟩ := h.no hfd
    exact ⟨0, zcar, none, 0, 0, [], 210, rfl, rfl, by omega, (Sep.start g).nilV 33 5, .inl ⟨hfd, rfl, rfl, rfl, rfl⟩⟩
  | some own =>
    obtain ⟨v, T, rfl, hT, S⟩ := h.yes own hfd
    obtain ⟨a, c, rfl⟩ := own_slice (S.rowGet k0m)
    exact ⟨tick, own, a, T.length, c, T, 0, rfl, rfl, hT.le, S, .inr ⟨own, hfd, rfl, rfl, rfl, hT⟩⟩
/-- what All answers is one -/
structure AlQ (LC : List Cr) (LS : List Sh) (radius sho : Int) (Vs : List Vt) : Prop where
  o : ∃ (C : List Cr), Fst1 (fun c : Cr => c.pl) LC C ∧ C.length ≤ LC.length ∧ Vs.map (·.1) = C ∧ (∀ q ∈ Vs, Tld LC LS radius sho q.1 q.2.2 ∧ ∃ a n c, q.2.1 = .slice a n c)
theorem AlQ.len {LC : List Cr} {LS : List Sh} {r s : Int} {Vs : List Vt} (h : AlQ LC LS r s Vs) : Vs.length ≤ LC.length := by
  obtain ⟨C, _, h2, h3, _⟩ := h.o
  rw [← List.length_map (f := fun q : Vt => q.1), h3]
  exact h2
theorem AlQ.uniq {LC : List Cr} {LS : List Sh} {r s : Int} {Vs Vs' : List Vt} (h : AlQ LC LS r s Vs) (h' : AlQ LC LS r s Vs') : Vs.length = Vs'.length ∧ ∀ (i : Nat) (q q' : Vt), Vs[i]? = some q → Vs'[i]? = some q' → q.1 = q'.1 ∧ q.2.2 = q'.2.2 := by
  obtain ⟨C, c1, _, c3, c4⟩ := h.o
  obtain ⟨C', d1, _, d3, d4⟩ := h'.o
  obtain rfl := c1.uniq d1
  refine ⟨by rw [← List.length_map (f := fun q : Vt => q.1), c3, ← d3, List.length_map], fun i q q' hq hq' => ?_⟩
  have e : q.1 = q'.1 := by
    have e1 : (Vs.map (·.1))[i]? = some q.1 := by rw [List.getElem?_map, hq]; rfl
    have e2 : (Vs'.map (·.1))[i]? = some q'.1 := by rw [List.getElem?_map, hq']; rfl
    rw [c3, ← d3, e2] at e1
    injection e1 with e1
    exact e1.symm
  refine ⟨e, ?_⟩
  have t1 := (c4 q (List.mem_of_getElem? hq)).1
  have t2 := (d4 q' (List.mem_of_getElem? hq')).1
  rw [← e] at t2
  exact t1.uniq t2
theorem AlQ.le {LC : List Cr} {LS : List Sh} {r s : Int} {Vs : List Vt} (h : AlQ LC LS r s Vs) : ∀ q ∈ Vs, q.2.2.length ≤ 32 := by
  obtain ⟨C, _, _, _, h4⟩ := h.o
  exact fun q hq => (h4 q hq).1.le
/-- a part of a row, as it is read -/
theorem Ls.pre {α : Type} {enc : α → List Value} {k : Nat} (hk : ∀ x, (enc x).length = k) {w0 W : World} {l : List As} {e : TypeId} {g n c : Nat} {L R : List α} (hn : L.length = n) (h : Sep w0 W l) (hm : rowV e k (sl g (n + 1) c) (n + 1) (fl enc (L ++ R)) ∈ l) : Ls enc k W (sl g n c) L := by
  subst hn
  refine ⟨_, c, rfl, fun _ => ⟨g, 0, rfl, fun j x hx => ?_⟩⟩
  rw [Nat.zero_add]
  exact fl_range hk (h.rowGet hm) (Nat.succ_pos _) j x (by rw [List.getElem?_append_left (List.getElem?_eq_some_iff.1 hx).1]; exact hx)
theorem range_pre {W : World} {b : Nat} {xs ys : List Value} (h : W.rangeAt b 0 (xs ++ ys)) : W.rangeAt b 0 xs := fun j u hu =>
  h j u (by rw [List.getElem?_append_left (List.getElem?_eq_some_iff.1 hu).1]; exact hu)
theorem pkA {a b c d e f g h : As} {M Z : List As} {w0 W : World} (H : Sep w0 W (a :: (M ++ (b :: c :: d :: e :: f :: g :: h :: Z)))) : Sep w0 W (a :: b :: c :: d :: e :: f :: g :: h :: (M ++ Z)) :=
  H.perm ((List.perm_append_comm_assoc M [b, c, d, e, f, g, h] Z).cons _)
theorem pkB {k L r a b G V X : As} {M Z : List As} {w0 W : World} (H : Sep w0 W (k :: L :: r :: a :: b :: G :: V :: X :: (M ++ Z))) : Sep w0 W (k :: L :: V :: a :: (M ++ (r :: b :: G :: X :: Z))) := by
  refine H.perm ((?_ : List.Perm _ _).cons _ |>.cons _)
  have q1 : (r :: a :: b :: G :: V :: X :: (M ++ Z)).Perm (V :: r :: a :: b :: G :: X :: (M ++ Z)) := List.perm_middle (l₁ := [r, a, b, G])
  have q2 : (r :: a :: b :: G :: X :: (M ++ Z)).Perm (a :: r :: b :: G :: X :: (M ++ Z)) := List.Perm.swap _ _ _
  have q3 : (r :: b :: G :: X :: (M ++ Z)).Perm (M ++ (r :: b :: G :: X :: Z)) := List.perm_append_comm_assoc [r, b, G, X] M Z
  exact q1.trans ((q2.trans (q3.cons _)).cons _)
theorem pkS {k L V a r v G X : As} {M D1 D2 B : List As} {w0 W : World} (h : Sep w0 W (k :: L :: V :: a :: (M ++ (r :: v :: G :: X :: (D1 ++ (D2 ++ B)))))) : Sep w0 W (k :: L :: G :: V :: X :: ((r :: M) ++ (D1 ++ ([a] ++ (D2 ++ B))))) := by
  have h1 : Sep w0 W (v :: k :: L :: V :: a :: (M ++ (r :: G :: X :: (D1 ++ (D2 ++ B))))) := h.perm (by
    have e : k :: L :: V :: a :: (M ++ (r :: v :: G :: X :: (D1 ++ (D2 ++ B)))) = (k :: L :: V :: a :: (M ++ [r])) ++ v :: (G :: X :: (D1 ++ (D2 ++ B))) := by simp
    have e2 : k :: L :: V :: a :: (M ++ (r :: G :: X :: (D1 ++ (D2 ++ B)))) = (k :: L :: V :: a :: (M ++ [r])) ++ (G :: X :: (D1 ++ (D2 ++ B))) := by simp
    rw [e, e2]
    exact List.perm_middle)
  refine h1.tail.perm ((?_ : List.Perm _ _).cons _ |>.cons _)
  have q1 : (V :: a :: (M ++ (r :: G :: X :: (D1 ++ (D2 ++ B))))).Perm (G :: V :: a :: (M ++ (r :: X :: (D1 ++ (D2 ++ B))))) := by
    have e : V :: a :: (M ++ (r :: G :: X :: (D1 ++ (D2 ++ B)))) = (V :: a :: (M ++ [r])) ++ G :: (X :: (D1 ++ (D2 ++ B))) := by simp
    have e2 : V :: a :: (M ++ (r :: X :: (D1 ++ (D2 ++ B)))) = (V :: a :: (M ++ [r])) ++ (X :: (D1 ++ (D2 ++ B))) := by simp
    rw [e, e2]
    exact List.perm_middle
  have q2 : (a :: (M ++ (r :: X :: (D1 ++ (D2 ++ B))))).Perm (X :: a :: (M ++ (r :: (D1 ++ (D2 ++ B))))) := by
    have e : a :: (M ++ (r :: X :: (D1 ++ (D2 ++ B)))) = (a :: (M ++ [r])) ++ X :: (D1 ++ (D2 ++ B)) := by simp
    have e2 : a :: (M ++ (r :: (D1 ++ (D2 ++ B)))) = (a :: (M ++ [r])) ++ (D1 ++ (D2 ++ B)) := by simp
    rw [e, e2]
    exact List.perm_middle
  have q3 : (a :: (M ++ (r :: (D1 ++ (D2 ++ B))))).Perm (r :: a :: (M ++ (D1 ++ (D2 ++ B)))) := List.perm_middle (l₁ := a :: M)
  have q4 : (a :: (M ++ (D1 ++ (D2 ++ B)))).Perm (M ++ (D1 ++ (a :: (D2 ++ B)))) := by
    have e : M ++ (D1 ++ (a :: (D2 ++ B))) = (M ++ D1) ++ a :: (D2 ++ B) := by simp
    have e2 : M ++ (D1 ++ (D2 ++ B)) = (M ++ D1) ++ (D2 ++ B) := by simp
    rw [e, e2]
    exact List.perm_middle.symm
  exact q1.trans ((q2.trans ((q3.trans (q4.cons _)).cons _)).cons _ |>.cons _)
theorem pkC {a b c : As} {M Z : List As} {w0 W : World} (H : Sep w0 W (a :: (M ++ (b :: c :: Z)))) : Sep w0 W (b :: c :: a :: (M ++ Z)) :=
  H.perm (((List.perm_append_comm_assoc M [b, c] Z).cons _).trans (List.perm_middle (l₁ := [b, c])).symm)
theorem newX_mks : ∀ (Vs : List Vt) (t : Nat), newX 33 5 csL (Vs.map (fun q => (q.2.1, q.2.2.length))) t = mksA Vs t
  | [], _ => rfl
  | q :: r, t => by rw [List.map_cons, newX, mksA, newX_mks r (t + 1)]; rfl
theorem built62 : Tryz.prog.built 62 [] = some #[.slice none 0 0, .slice none 0 0, .slice none 0 0, .slice none 0 0] := by kernel_rfl
set_option maxRecDepth 100000 in
set_option maxHeartbeats 16000000 in
theorem keeps_c (W : World) (tick nx : Int) (vc vs : Value) (LC : List Cr) (LS : List Sh) (p rad sho : Int) (hS : StO W vc vs LC LS) (hn : LC.length + LS.length ≤ 1048576) :
    Calls Tryz.prog 7 #[.agg #[.int .u64 tick, vc, vs, iv nx], .agg #[iv p, iv rad, iv sho]] W fun e W' => e = .returned (.bool true) ∧ W.grownBy W' none := by
  have S1 := ((Sep.nil W).newBox #[.int .u64 tick, vc, vs, iv nx] 37).newBox #[iv p, iv rad, iv sho] 39
  simp only [World.size_alloc] at S1
  obtain ⟨b2, hb2⟩ : ∃ b, W.heap.size = b := ⟨_, rfl⟩
  obtain ⟨b3, hb3⟩ : ∃ b, b2 + 1 = b := ⟨_, rfl⟩
  obtain ⟨W1, hW1⟩ : ∃ w, (W.alloc (.cells #[.int .u64 tick, vc, vs, iv nx] 37)).alloc (.cells #[iv p, iv rad, iv sho] 39) = w := ⟨_, rfl⟩
  rw [hW1, hb2, hb3] at S1
  have HB : Keep (Sep W W1 (boxA b3 [iv p, iv rad, iv sho] 39 :: boxA b2 [.int .u64 tick, vc, vs, iv nx] 37 :: [])) := ⟨S1⟩
  have HS := Keep.mk hS
  obtain ⟨nc, hnc⟩ : ∃ n, LC.length = n := ⟨_, rfl⟩
  obtain ⟨ns, hns⟩ : ∃ n, LS.length = n := ⟨_, rfl⟩
  have HNN : Keep (LC.length = nc ∧ LS.length = ns ∧ nc + ns ≤ 1048576) := ⟨⟨hnc, hns, by omega⟩⟩
  obtain ⟨dv, hdv⟩ := under29
  obtain ⟨ds, hds⟩ := under37
  obtain ⟨dl, hdl⟩ := under56
  clear S1 hS hn hnc hns
  go_enter Tryz.func7, Tryz.ntmps7
  go_wp2_with fail
  clear hW1 hb2 hb3
  refine (alive_c W1).mono ?_
  rintro e W2 ⟨rfl, g2⟩
  replace HB := Keep.mk (HB.out.grown g2)
  clear g2
  have HR := Keep.mk ((HB.out.boxGet k1m).range)
  go_wp2_with (first
    | (with_reducible show wpList _ _ _ ({ dst := some 17, op := Op.load 37 _, type := _, pos := _, after := _, guard := _ } :: _) _ _
       refine wpList_load_mid rfl 37 _ rfl _ _ rfl ([.int .u64 tick, vc, vs, iv nx]) _ HR.out hds.1 hds.2 info37 ?_))
  clear HR
  refine (lent_c W2 tick nx vc vs LC LS (HS.out.c.kept HB.out.g) (HS.out.s.kept HB.out.g) (by have := HNN.out; omega) (by have := HNN.out; omega)).mono ?_
  rintro e W3 hLt
  obtain ⟨gC, kC, gH, kH, rfl, S3⟩ := hLt.o
  rw [HNN.out.1, HNN.out.2.1] at S3 ⊢
  replace HB := Keep.mk (HB.out.join S3)
  clear S3 hLt
  go_wp2_with (first
    | (with_reducible show wpList _ _ _ ({ dst := _, op := Op.store 56 _ _, type := _, pos := _, after := _, guard := _ } :: _) _ _
       refine store_new W3 [.int .u64 tick, sl gC nc kC, sl gH ns kH, iv nx, sl gC (nc + 1) kC, sl gH (ns + 1) kH] 56 rfl rfl rfl rfl rfl info56 (lnv_one _ _ _ _ _ _ _ _ _ _ _ _ _ _) ?_))
  intro W4 hS4 g4
  obtain ⟨xb, hxb⟩ : ∃ b, W3.heap.size = b := ⟨_, rfl⟩
  have S4 := hS4 _ _ HB.out
  rw [hxb] at S4 ⊢
  have S4 : Sep W W4 (boxA xb [.int .u64 tick, sl gC nc kC, sl gH ns kH, iv nx, sl gC (nc + 1) kC, sl gH (ns + 1) kH] 56 :: rowV 26 14 (sl gC (nc + 1) kC) (nc + 1) (fl crv (LC ++ [rmC])) :: rowV 46 7 (sl gH (ns + 1) kH) (ns + 1) (fl shv (LS ++ [rmS])) :: boxA b3 [iv p, iv rad, iv sho] 39 :: boxA b2 [.int .u64 tick, vc, vs, iv nx] 37 :: []) := S4
  replace HB := Keep.mk S4
  clear S4 hS4 g4 hxb
  have HR := Keep.mk ((HB.out.boxGet k4m).range)
  have y0 := (HB.out.boxGet k3m).cellv 0 _ rfl
  have y1 := (HB.out.boxGet k3m).cellv 1 _ rfl
  have y2 := (HB.out.boxGet k3m).cellv 2 _ rfl
  go_wp2_with (first
    | (with_reducible show wpList _ _ _ ({ dst := some 20, op := Op.load 37 _, type := _, pos := _, after := _, guard := _ } :: _) _ _
       refine wpList_load_mid rfl 37 _ rfl _ _ rfl ([.int .u64 tick, vc, vs, iv nx]) _ HR.out hds.1 hds.2 info37 ?_))
  refine (of_v W4 tick nx p rad sho vc vs LC LS (HS.out.kept HB.out.g)).mono ?_
  rintro e W5 hOf
  obtain ⟨tk1, ow1, a1, n1, c1, T1, cd1, rfl, hT1, hn1, S5, hQ1⟩ := hOf.o
  replace HB := Keep.mk (HB.out.join S5)
  have HT1 : Keep (T1.length = n1 ∧ n1 ≤ 32) := ⟨⟨hT1, hn1⟩⟩
  have HQ1 := Keep.mk hQ1
  have HON := Keep.mk (vwv_one tk1 ow1 (.slice a1 n1 c1) ⟨_, _, _, rfl⟩)
  clear S5 hOf hT1 hn1 hQ1 y0 y1 y2 HR
  go_wp2_with (first
    | (with_reducible show wpList _ _ _ ({ dst := _, op := Op.store 29 _ _, type := _, pos := _, after := _, guard := _ } :: _) _ _
       refine store_new W5 (vwv tk1 ow1 (.slice a1 n1 c1)) 29 rfl rfl rfl rfl rfl info29 HON.out ?_))
  intro W6 hS6 g6
  obtain ⟨fb, hfb⟩ : ∃ b, W5.heap.size = b := ⟨_, rfl⟩
  have S6 := hS6 _ _ HB.out
  rw [hfb] at S6 ⊢
  replace HB : Keep (Sep W W6 (boxA fb (vwv tk1 ow1 (.slice a1 n1 c1)) 29 :: rowV 33 5 (.slice a1 n1 c1) n1 (fl snv T1) :: boxA xb [.int .u64 tick, sl gC nc kC, sl gH ns kH, iv nx, sl gC (nc + 1) kC, sl gH (ns + 1) kH] 56 :: rowV 26 14 (sl gC (nc + 1) kC) (nc + 1) (fl crv (LC ++ [rmC])) :: rowV 46 7 (sl gH (ns + 1) kH) (ns + 1) (fl shv (LS ++ [rmS])) :: boxA b3 [iv p, iv rad, iv sho] 39 :: boxA b2 [.int .u64 tick, vc, vs, iv nx] 37 :: [])) := ⟨S6⟩
  clear S6 hS6 g6 hfb HON
  have HR := Keep.mk ((HB.out.boxGet (List.mem_cons_of_mem _ k5m)).range)
  have y1 := (HB.out.boxGet k5m).cellv 1 _ rfl
  have y2 := (HB.out.boxGet k5m).cellv 2 _ rfl
  go_wp2_with (first
    | (with_reducible show wpList _ _ _ ({ dst := some 30, op := Op.load 37 _, type := _, pos := _, after := _, guard := _ } :: _) _ _
       refine wpList_load_mid rfl 37 _ rfl _ _ rfl ([.int .u64 tick, vc, vs, iv nx]) _ HR.out hds.1 hds.2 info37 ?_))
  refine (all_c W6 tick nx rad sho vc vs LC LS (HS.out.kept HB.out.g) (by have := HNN.out; omega)).mono ?_
  rintro e W7 ⟨va7, rfl, hAl⟩
  obtain ⟨C7, Vs, q1, q2, q3, q4, S7⟩ := hAl.o
  obtain ⟨al, cl, rfl⟩ := own_slice (S7.rowGet k0m)
  obtain ⟨m, hm⟩ : ∃ m, Vs.length = m := ⟨_, rfl⟩
  have HVL : Keep (Vs.length = m ∧ AlQ LC LS rad sho Vs) := ⟨⟨hm, ⟨C7, q1, q2, q3, q4⟩⟩⟩
  have HMB : Keep (m ≤ 1048576) := ⟨by have := HVL.out.2.len; have := HNN.out; omega⟩
  rw [hm] at S7 ⊢
  have S8 := HB.out.join S7
  have S9 : Sep W W7 (boxA fb (vwv tk1 ow1 (.slice a1 n1 c1)) 29 :: rowV 33 5 (.slice a1 n1 c1) n1 (fl snv T1) :: rowV 29 16 (.slice al m cl) m (fl (vwE tick) Vs) :: (Vs.map rwE ++ (boxA xb [.int .u64 tick, sl gC nc kC, sl gH ns kH, iv nx, sl gC (nc + 1) kC, sl gH (ns + 1) kH] 56 :: rowV 26 14 (sl gC (nc + 1) kC) (nc + 1) (fl crv (LC ++ [rmC])) :: rowV 46 7 (sl gH (ns + 1) kH) (ns + 1) (fl shv (LS ++ [rmS])) :: boxA b3 [iv p, iv rad, iv sho] 39 :: boxA b2 [.int .u64 tick, vc, vs, iv nx] 37 :: []))) := pkC S8
  obtain ⟨B, hB⟩ : ∃ B, boxA fb (vwv tk1 ow1 (.slice a1 n1 c1)) 29 :: rowV 33 5 (.slice a1 n1 c1) n1 (fl snv T1) :: rowV 29 16 (.slice al m cl) m (fl (vwE tick) Vs) :: (Vs.map rwE ++ (boxA xb [.int .u64 tick, sl gC nc kC, sl gH ns kH, iv nx, sl gC (nc + 1) kC, sl gH (ns + 1) kH] 56 :: rowV 26 14 (sl gC (nc + 1) kC) (nc + 1) (fl crv (LC ++ [rmC])) :: rowV 46 7 (sl gH (ns + 1) kH) (ns + 1) (fl shv (LS ++ [rmS])) :: boxA b3 [iv p, iv rad, iv sho] 39 :: boxA b2 [.int .u64 tick, vc, vs, iv nx] 37 :: [])) = B := ⟨_, rfl⟩
  have HBM : Keep (boxA fb (vwv tk1 ow1 (.slice a1 n1 c1)) 29 ∈ B ∧ rowV 33 5 (.slice a1 n1 c1) n1 (fl snv T1) ∈ B ∧ rowV 29 16 (.slice al m cl) m (fl (vwE tick) Vs) ∈ B ∧ (∀ q ∈ Vs, rwE q ∈ B) ∧ boxA xb [.int .u64 tick, sl gC nc kC, sl gH ns kH, iv nx, sl gC (nc + 1) kC, sl gH (ns + 1) kH] 56 ∈ B ∧ rowV 26 14 (sl gC (nc + 1) kC) (nc + 1) (fl crv (LC ++ [rmC])) ∈ B ∧ rowV 46 7 (sl gH (ns + 1) kH) (ns + 1) (fl shv (LS ++ [rmS])) ∈ B ∧ boxA b3 [iv p, iv rad, iv sho] 39 ∈ B ∧ boxA b2 [.int .u64 tick, vc, vs, iv nx] 37 ∈ B) := ⟨by
    rw [← hB]
    exact ⟨k0m, k1m, k2m, fun q hq => List.mem_cons_of_mem _ (List.mem_cons_of_mem _ (List.mem_cons_of_mem _ (List.mem_append_left _ (List.mem_map.2 ⟨q, hq, rfl⟩)))), List.mem_cons_of_mem _ (List.mem_cons_of_mem _ (List.mem_cons_of_mem _ (List.mem_append_right _ k0m))), List.mem_cons_of_mem _ (List.mem_cons_of_mem _ (List.mem_cons_of_mem _ (List.mem_append_right _ k1m))), List.mem_cons_of_mem _ (List.mem_cons_of_mem _ (List.mem_cons_of_mem _ (List.mem_append_right _ k2m))), List.mem_cons_of_mem _ (List.mem_cons_of_mem _ (List.mem_cons_of_mem _ (List.mem_append_right _ k3m))), List.mem_cons_of_mem _ (List.mem_cons_of_mem _ (List.mem_cons_of_mem _ (List.mem_append_right _ k4m)))⟩⟩
  have HXF : Keep (∀ (w : World) (l : List As), Sep W w l → (∀ b ∈ B, b ∈ l) → w.rangeAt xb 0 [.int .u64 tick, sl gC nc kC, sl gH ns kH, iv nx] ∧ w.cell? ⟨b3, 0, none⟩ = some (iv p) ∧ w.cell? ⟨b3, 1, none⟩ = some (iv rad) ∧ w.cell? ⟨b3, 2, none⟩ = some (iv sho) ∧ StO w (sl gC nc kC) (sl gH ns kH) LC LS) := ⟨fun w l h hb =>
    ⟨range_pre (ys := [sl gC (nc + 1) kC, sl gH (ns + 1) kH]) (h.boxGet (hb _ HBM.out.2.2.2.2.1)).range, (h.boxGet (hb _ HBM.out.2.2.2.2.2.2.2.1)).cellv 0 _ rfl, (h.boxGet (hb _ HBM.out.2.2.2.2.2.2.2.1)).cellv 1 _ rfl, (h.boxGet (hb _ HBM.out.2.2.2.2.2.2.2.1)).cellv 2 _ rfl,
      ⟨Ls.pre crv_len HNN.out.1 h (hb _ HBM.out.2.2.2.2.2.1), Ls.pre shv_len HNN.out.2.1 h (hb _ HBM.out.2.2.2.2.2.2.1), HS.out.oc, HS.out.os, HS.out.bc, HS.out.bs, HS.out.bb⟩⟩⟩
  rw [hB] at S9
  have S10 := S9.newBox #[.slice none 0 0, .slice none 0 0, .slice none 0 0, .slice none 0 0] 62
  obtain ⟨kb, hkb⟩ : ∃ b, W7.heap.size = b := ⟨_, rfl⟩
  obtain ⟨W8, hW8⟩ : ∃ w, W7.alloc (.cells #[.slice none 0 0, .slice none 0 0, .slice none 0 0, .slice none 0 0] 62) = w := ⟨_, rfl⟩
  rw [hkb, hW8] at S10
  have HB0 : Keep (Sep W W8 (boxA kb [.slice none 0 0, .slice none 0 0, .slice none 0 0, .slice none 0 0] 62 :: rowV 27 1 (.slice none 0 0) 0 (([] : List Pk).map Pk.va) :: rowV 27 1 (.slice none 0 0) 0 (([] : List Pk).map Pk.vo) :: rowV 52 1 (.slice none 0 0) 0 (([] : List Pk).map Pk.va) :: rowV 52 1 (.slice none 0 0) 0 (([] : List Pk).map Pk.vo) :: (rdsX 40 csL [] 0 ++ (rdsX 2 csV [] 0 ++ B)))) := ⟨fr1 [_, _, _, _] ((((S10.nilV 52 1).nilV 52 1).nilV 27 1).nilV 27 1)⟩
  have HBU := Keep.mk built62
  clear S7 S8 S9 S10 hAl hB hm q1 q2 q3 q4 HB y1 y2 HR
  go_wp2_with (first
    | (with_reducible show wpList _ _ _ ({ dst := some 36, op := Op.build 62 _, type := _, pos := _, after := _, guard := _ } :: _) _ _
       refine wpList_build rfl 62 _ rfl #[.slice none 0 0, .slice none 0 0, .slice none 0 0, .slice none 0 0] ((congrArg (Tryz.prog.built 62) (by first | (simp only [List.map_toArray, List.map_nil]; done) | (simp only [List.map_toArray, List.map_nil]; with_reducible rfl) | (simp only [List.map_toArray, List.map_nil]; rfl))).trans HBU.out) ?_
       simp only [Act.put, List.setIfInBounds_toArray, List.set_cons_zero, List.set_cons_succ]))
  clear hW8 hkb HBU
  go_loopw [10] (fun u10 wr => ∃ (t A C : Nat) (P PV : List Pk) (vL vG vV vX : Value), t ≤ 3 ∧ u10 = iv t ∧ Keep (A ≤ t * (m + 1) ∧ C = t ∧ P.length = A ∧ PV.length = C ∧ (∀ p ∈ P, p.n ≤ 1048576) ∧ ∀ p ∈ PV, p.n ≤ 1048576) ∧ Keep (Sep W wr (boxA kb [vL, vG, vV, vX] 62 :: rowV 27 1 vL A (P.map Pk.va) :: rowV 27 1 vG A (P.map Pk.vo) :: rowV 52 1 vV C (PV.map Pk.va) :: rowV 52 1 vX C (PV.map Pk.vo) :: (rdsX 40 csL P 0 ++ (rdsX 2 csV PV 0 ++ B))))) (fun u10 _ => (3 - intOf u10).toNat)
  case atStart => exact ⟨0, 0, 0, [], [], _, _, _, _, Nat.zero_le _, rfl, ⟨⟨Nat.zero_le _, rfl, rfl, rfl, nofun, nofun⟩⟩, HB0⟩
  case round =>
    clear HB0
    obtain ⟨t, A, C, P, PV, vL, vG, vV, vX, ht, rfl, HK, HB⟩ := hrel
    by_cases hlt : t < 3
    · have ht1 : (t : Int) < 3 := by omega
      have htw : IntKind.i64.wrap ((t : Int) + 1) = ((t + 1 : Nat) : Int) := by rw [IntKind.wrap_i64]; omega
      have HTT : Keep (t < 3) := ⟨hlt⟩
      clear hlt ht
      have HXW := HXF.out wr _ HB.out (fun b hb => (List.mem_cons_of_mem _ (List.mem_cons_of_mem _ (List.mem_cons_of_mem _ (List.mem_cons_of_mem _ (List.mem_cons_of_mem _ (List.mem_append_right _ (List.mem_append_right _ hb))))))))
      have HRX := Keep.mk HXW.1
      have y0 := HXW.2.1
      have y1 := HXW.2.2.1
      have y2 := HXW.2.2.2.1
      go_wp2_with (first
        | (with_reducible show wpList _ _ _ ({ dst := some 44, op := Op.load 37 _, type := _, pos := _, after := _, guard := _ } :: _) _ _
           refine wpList_load_mid rfl 37 _ rfl _ _ rfl ([.int .u64 tick, sl gC nc kC, sl gH ns kH, iv nx]) _ HRX.out hds.1 hds.2 info37 ?_))
      refine (of_v wr tick nx p rad sho (sl gC nc kC) (sl gH ns kH) LC LS HXW.2.2.2.2).mono ?_
      rintro e w2 hOf
      obtain ⟨tk2, ow2, a2, n2, c2, T2, cd2, rfl, hT2, _, S2, hQ2⟩ := hOf.o
      obtain ⟨r1, r2, r3, r4⟩ := HQ1.out.uniq hQ2
      obtain rfl : n1 = n2 := by rw [← hT2, ← r3, HT1.out.1]
      subst r1 r2 r3 r4
      have HB2 := Keep.mk (HB.out.join S2)
      have HON := Keep.mk (vwv_one tk1 ow1 (.slice a2 n1 c2) ⟨_, _, _, rfl⟩)
      clear HB S2 hOf hQ2 hT2 y0 y1 y2 HRX HXW
      go_wp2_with (first
        | (with_reducible show wpList _ _ _ ({ dst := _, op := Op.store 29 _ _, type := _, pos := _, after := _, guard := _ } :: _) _ _
           refine store_new w2 (vwv tk1 ow1 (.slice a2 n1 c2)) 29 rfl rfl rfl rfl rfl info29 HON.out ?_))
      intro w3 hS3 g3
      obtain ⟨vb, hvb⟩ : ∃ b, w2.heap.size = b := ⟨_, rfl⟩
      have S3 := hS3 _ _ HB2.out
      rw [hvb] at S3 ⊢
      have HB : Keep (Sep W w3 (boxA vb (vwv tk1 ow1 (.slice a2 n1 c2)) 29 :: rowV 33 5 (.slice a2 n1 c2) n1 (fl snv T1) :: boxA kb [vL, vG, vV, vX] 62 :: rowV 27 1 vL A (P.map Pk.va) :: rowV 27 1 vG A (P.map Pk.vo) :: rowV 52 1 vV C (PV.map Pk.va) :: rowV 52 1 vX C (PV.map Pk.vo) :: (rdsX 40 csL P 0 ++ (rdsX 2 csV PV 0 ++ B)))) := ⟨S3⟩
      clear S3 hS3 g3 hvb HON HB2
      have HXW := HXF.out w3 _ HB.out (fun b hb => (List.mem_cons_of_mem _ (List.mem_cons_of_mem _ (List.mem_cons_of_mem _ (List.mem_cons_of_mem _ (List.mem_cons_of_mem _ (List.mem_cons_of_mem _ (List.mem_cons_of_mem _ (List.mem_append_right _ (List.mem_append_right _ hb))))))))))
      have HRX := Keep.mk HXW.1
      have y1 := HXW.2.2.1
      have y2 := HXW.2.2.2.1
      go_wp2_with (first
        | (with_reducible show wpList _ _ _ ({ dst := some 55, op := Op.load 37 _, type := _, pos := _, after := _, guard := _ } :: _) _ _
           refine wpList_load_mid rfl 37 _ rfl _ _ rfl ([.int .u64 tick, sl gC nc kC, sl gH ns kH, iv nx]) _ HRX.out hds.1 hds.2 info37 ?_))
      refine (all_c w3 tick nx rad sho (sl gC nc kC) (sl gH ns kH) LC LS HXW.2.2.2.2 (by have := HNN.out; omega)).mono ?_
      rintro e w4 ⟨va4, rfl, hAl⟩
      obtain ⟨C4, Vs2, q1, q2, q3, q4, S4⟩ := hAl.o
      obtain ⟨al2, cl2, rfl⟩ := own_slice (S4.rowGet k0m)
      have hAQ : AlQ LC LS rad sho Vs2 := ⟨C4, q1, q2, q3, q4⟩
      have hm2 : Vs2.length = m := by rw [(hAQ.uniq HVL.out.2).1, HVL.out.1]
      have HVL2 : Keep (Vs2.length = m ∧ AlQ LC LS rad sho Vs2) := ⟨⟨hm2, hAQ⟩⟩
      rw [hm2] at S4 ⊢
      replace HB : Keep (Sep W w4 (rowV 29 16 (.slice al2 m cl2) m (fl (vwE tick) Vs2) :: boxA vb (vwv tk1 ow1 (.slice a2 n1 c2)) 29 :: rowV 33 5 (.slice a2 n1 c2) n1 (fl snv T1) :: boxA kb [vL, vG, vV, vX] 62 :: rowV 27 1 vL A (P.map Pk.va) :: rowV 27 1 vG A (P.map Pk.vo) :: rowV 52 1 vV C (PV.map Pk.va) :: rowV 52 1 vX C (PV.map Pk.vo) :: (Vs2.map rwE ++ (rdsX 40 csL P 0 ++ (rdsX 2 csV PV 0 ++ B))))) := ⟨pkA (HB.out.join S4)⟩
      clear S4 hAl hAQ hm2 q1 q2 q3 q4 y1 y2 HRX HXW
      have HRN := Keep.mk ((HB.out.boxGet k1m).range)
      have HRF := Keep.mk ((HB.out.boxGet (List.mem_cons_of_mem _ (List.mem_cons_of_mem _ (List.mem_cons_of_mem _ (List.mem_cons_of_mem _ (List.mem_cons_of_mem _ (List.mem_cons_of_mem _ (List.mem_cons_of_mem _ (List.mem_cons_of_mem _ (List.mem_append_right _ (List.mem_append_right _ (List.mem_append_right _ HBM.out.1)))))))))))).range)
      go_wp2_with (first
        | (with_reducible show wpList _ _ _ ({ dst := some 65, op := Op.load 29 _, type := _, pos := _, after := _, guard := _ } :: _) _ _
           refine load_g rfl 29 _ rfl _ _ rfl (vwv tk1 ow1 (.slice a2 n1 c2)) _ HRN.out hdv.1 hdv.2 info29 ?_)
        | (with_reducible show wpList _ _ _ ({ dst := some 66, op := Op.load 29 _, type := _, pos := _, after := _, guard := _ } :: _) _ _
           refine load_g rfl 29 _ rfl _ _ rfl (vwv tk1 ow1 (.slice a1 n1 c1)) _ HRF.out hdv.1 hdv.2 info29 ?_))
      refine (eq_t w4 tk1 tk1 ow1 ow1 (.slice a2 n1 c2) (.slice a1 n1 c1) T1 T1 (Ls.own (e := 33) snv_len HB.out (by rw [HT1.out.1]; exact k2m)) (Ls.own (e := 33) snv_len HB.out (by rw [HT1.out.1]; exact (List.mem_cons_of_mem _ (List.mem_cons_of_mem _ (List.mem_cons_of_mem _ (List.mem_cons_of_mem _ (List.mem_cons_of_mem _ (List.mem_cons_of_mem _ (List.mem_cons_of_mem _ (List.mem_cons_of_mem _ (List.mem_append_right _ (List.mem_append_right _ (List.mem_append_right _ HBM.out.2.1))))))))))))) (by have := HT1.out; omega) ⟨rfl, rfl, rfl⟩).mono ?_
      rintro e w5 ⟨rfl, g5⟩
      replace HB := Keep.mk (HB.out.grown g5)
      clear g5 HRN HRF
      go_wp2_with fail
      go_loopw [14] (fun u14 wr => ∃ j : Nat, j ≤ m ∧ u14 = iv j ∧ Keep (Sep W wr (rowV 29 16 (.slice al2 m cl2) m (fl (vwE tick) Vs2) :: boxA vb (vwv tk1 ow1 (.slice a2 n1 c2)) 29 :: rowV 33 5 (.slice a2 n1 c2) n1 (fl snv T1) :: boxA kb [vL, vG, vV, vX] 62 :: rowV 27 1 vL A (P.map Pk.va) :: rowV 27 1 vG A (P.map Pk.vo) :: rowV 52 1 vV C (PV.map Pk.va) :: rowV 52 1 vX C (PV.map Pk.vo) :: (Vs2.map rwE ++ (rdsX 40 csL P 0 ++ (rdsX 2 csV PV 0 ++ B)))))) (fun u14 _ => (m - intOf u14).toNat)
      case atStart => exact ⟨0, Nat.zero_le _, rfl, HB⟩
      case round =>
        clear HB
        obtain ⟨j, hj, rfl, HB⟩ := hrel
        by_cases hjt : j < m
        · have hj1 : (j : Int) < (m : Int) := by omega
          have hj0 : (0 : Int) ≤ (j : Int) := by omega
          have hjn : ((j : Nat) : Int).toNat = j := by omega
          have hjw : IntKind.i64.wrap ((j : Int) + 1) = ((j + 1 : Nat) : Int) := by rw [IntKind.wrap_i64]; have := HMB.out; omega
          have HJN : Keep (j < m) := ⟨hjt⟩
          obtain ⟨q1, hq1⟩ : ∃ q, Vs[j]? = some q := ⟨_, List.getElem?_eq_getElem (by rw [HVL.out.1]; exact hjt)⟩
          obtain ⟨q2, hq2⟩ : ∃ q, Vs2[j]? = some q := ⟨_, List.getElem?_eq_getElem (by rw [HVL2.out.1]; exact hjt)⟩
          have HEQ : Keep (q2.1 = q1.1 ∧ q2.2.2 = q1.2.2) := ⟨(HVL2.out.2.uniq HVL.out.2).2 j q2 q1 hq2 hq1⟩
          have HCL : Keep (q2.2.2.length ≤ 281474976710656) := ⟨by have := HVL2.out.2.le q2 (List.mem_of_getElem? hq2); omega⟩
          have HQ2 := Keep.mk hq2
          obtain ⟨g2, hg2⟩ := row_block HB.out k0m (by omega)
          subst hg2
          obtain ⟨g1, hg1⟩ := row_block HB.out (List.mem_cons_of_mem _ (List.mem_cons_of_mem _ (List.mem_cons_of_mem _ (List.mem_cons_of_mem _ (List.mem_cons_of_mem _ (List.mem_cons_of_mem _ (List.mem_cons_of_mem _ (List.mem_cons_of_mem _ (List.mem_append_right _ (List.mem_append_right _ (List.mem_append_right _ HBM.out.2.2.1))))))))))) (by omega)
          subst hg1
          have HRQ : Keep (∀ w, Sep W w (rowV 29 16 (.slice (some ⟨g2, 0, none⟩) m cl2) m (fl (vwE tick) Vs2) :: boxA vb (vwv tk1 ow1 (.slice a2 n1 c2)) 29 :: rowV 33 5 (.slice a2 n1 c2) n1 (fl snv T1) :: boxA kb [vL, vG, vV, vX] 62 :: rowV 27 1 vL A (P.map Pk.va) :: rowV 27 1 vG A (P.map Pk.vo) :: rowV 52 1 vV C (PV.map Pk.va) :: rowV 52 1 vX C (PV.map Pk.vo) :: (Vs2.map rwE ++ (rdsX 40 csL P 0 ++ (rdsX 2 csV PV 0 ++ B)))) → w.rangeAt g1 (j * 16) (vwE tick q1)) := ⟨fun w hw => fl_range (vwE_len tick) (hw.rowGet (List.mem_cons_of_mem _ (List.mem_cons_of_mem _ (List.mem_cons_of_mem _ (List.mem_cons_of_mem _ (List.mem_cons_of_mem _ (List.mem_cons_of_mem _ (List.mem_cons_of_mem _ (List.mem_cons_of_mem _ (List.mem_append_right _ (List.mem_append_right _ (List.mem_append_right _ HBM.out.2.2.1)))))))))))) (by omega) j q1 hq1⟩
          have HLQ2 : Keep (∀ w, Sep W w (rowV 29 16 (.slice (some ⟨g2, 0, none⟩) m cl2) m (fl (vwE tick) Vs2) :: boxA vb (vwv tk1 ow1 (.slice a2 n1 c2)) 29 :: rowV 33 5 (.slice a2 n1 c2) n1 (fl snv T1) :: boxA kb [vL, vG, vV, vX] 62 :: rowV 27 1 vL A (P.map Pk.va) :: rowV 27 1 vG A (P.map Pk.vo) :: rowV 52 1 vV C (PV.map Pk.va) :: rowV 52 1 vX C (PV.map Pk.vo) :: (Vs2.map rwE ++ (rdsX 40 csL P 0 ++ (rdsX 2 csV PV 0 ++ B)))) → Ls snv 5 w q2.2.1 q2.2.2) := ⟨fun w hw => Ls.own (e := 33) snv_len hw ((List.mem_cons_of_mem _ (List.mem_cons_of_mem _ (List.mem_cons_of_mem _ (List.mem_cons_of_mem _ (List.mem_cons_of_mem _ (List.mem_cons_of_mem _ (List.mem_cons_of_mem _ (List.mem_cons_of_mem _ (List.mem_append_left _ (List.mem_map.2 ⟨q2, List.mem_of_getElem? hq2, rfl⟩)))))))))))⟩
          have HLQ1 : Keep (∀ w, Sep W w (rowV 29 16 (.slice (some ⟨g2, 0, none⟩) m cl2) m (fl (vwE tick) Vs2) :: boxA vb (vwv tk1 ow1 (.slice a2 n1 c2)) 29 :: rowV 33 5 (.slice a2 n1 c2) n1 (fl snv T1) :: boxA kb [vL, vG, vV, vX] 62 :: rowV 27 1 vL A (P.map Pk.va) :: rowV 27 1 vG A (P.map Pk.vo) :: rowV 52 1 vV C (PV.map Pk.va) :: rowV 52 1 vX C (PV.map Pk.vo) :: (Vs2.map rwE ++ (rdsX 40 csL P 0 ++ (rdsX 2 csV PV 0 ++ B)))) → Ls snv 5 w q1.2.1 q1.2.2) := ⟨fun w hw => Ls.own (e := 33) snv_len hw (List.mem_cons_of_mem _ (List.mem_cons_of_mem _ (List.mem_cons_of_mem _ (List.mem_cons_of_mem _ (List.mem_cons_of_mem _ (List.mem_cons_of_mem _ (List.mem_cons_of_mem _ (List.mem_cons_of_mem _ (List.mem_append_right _ (List.mem_append_right _ (List.mem_append_right _ (HBM.out.2.2.2.1 q1 (List.mem_of_getElem? hq1)))))))))))))⟩
          clear hjt hj hq1 hq2
          go_wp2_with fail
          refine region_Y (S := fun w' => Sep W w' (rowV 29 16 (.slice (some ⟨g2, 0, none⟩) m cl2) m (fl (vwE tick) Vs2) :: boxA vb (vwv tk1 ow1 (.slice a2 n1 c2)) 29 :: rowV 33 5 (.slice a2 n1 c2) n1 (fl snv T1) :: boxA kb [vL, vG, vV, vX] 62 :: rowV 27 1 vL A (P.map Pk.va) :: rowV 27 1 vG A (P.map Pk.vo) :: rowV 52 1 vV C (PV.map Pk.va) :: rowV 52 1 vX C (PV.map Pk.vo) :: (Vs2.map rwE ++ (rdsX 40 csL P 0 ++ (rdsX 2 csV PV 0 ++ B))))) [] (by kernel_rfl) ?_
          obtain ⟨W0, hW0⟩ : ∃ W_, wr.drew = W_ := ⟨_, rfl⟩
          replace HB := Keep.mk (HB.out.grown (gr_drew _ none))
          rw [hW0] at HB ⊢
          clear hW0
          have hHeld : (fun w' => Sep W w' (rowV 29 16 (.slice (some ⟨g2, 0, none⟩) m cl2) m (fl (vwE tick) Vs2) :: boxA vb (vwv tk1 ow1 (.slice a2 n1 c2)) 29 :: rowV 33 5 (.slice a2 n1 c2) n1 (fl snv T1) :: boxA kb [vL, vG, vV, vX] 62 :: rowV 27 1 vL A (P.map Pk.va) :: rowV 27 1 vG A (P.map Pk.vo) :: rowV 52 1 vV C (PV.map Pk.va) :: rowV 52 1 vX C (PV.map Pk.vo) :: (Vs2.map rwE ++ (rdsX 40 csL P 0 ++ (rdsX 2 csV PV 0 ++ B))))) W0 := HB.out
          refine wpAnyY_pure (i := 0) (oi := _) (v := ?_) rfl (by kernel_rfl) (by kernel_rfl) (by kernel_rfl) (by kernel_rfl) (fun _ _ _ h => h) (Or.inl ⟨by rfl, ?_⟩) ?_
          rotate_left
          · (intro w hSw; go_simp; first | done | (with_reducible rfl))
          simp only [Act.put, List.getElem_toArray, List.getElem_cons_zero, List.setIfInBounds_toArray, List.set_cons_zero, List.set_cons_succ]
          refine wpAnyY_pure (i := 1) (oi := _) (v := ?_) rfl (by kernel_rfl) (by kernel_rfl) (by kernel_rfl) (by kernel_rfl) (fun _ _ _ h => h) (Or.inl ⟨by rfl, ?_⟩) ?_
          rotate_left
          · (intro w hSw; go_simp; first | done | (with_reducible rfl))
          simp only [Act.put, List.getElem_toArray, List.getElem_cons_succ, List.getElem_cons_zero, List.setIfInBounds_toArray, List.set_cons_zero, List.set_cons_succ]
          refine wpAnyY_pure (i := 2) (oi := _) (v := ?_) rfl (by kernel_rfl) (by kernel_rfl) (by kernel_rfl) (by kernel_rfl) (fun _ _ _ h => h) (Or.inl ⟨by rfl, ?_⟩) ?_
          rotate_left
          · (intro w hSw; go_simp; first | done | (with_reducible rfl))
          simp only [Act.put, List.getElem_toArray, List.getElem_cons_succ, List.getElem_cons_zero, List.setIfInBounds_toArray, List.set_cons_zero, List.set_cons_succ]
          refine wpAnyY_take (i := 3) (oi := _) (v := .agg (vwE tick q2).toArray) rfl (by kernel_rfl) (by kernel_rfl) (by kernel_rfl) (by kernel_rfl) (by kernel_rfl) (fun _ _ _ h => h) (yieldsIf_load_mid (by rfl) 29 _ rfl _ _ rfl _ _ (fun w hSw => fl_range (vwE_len tick) (hSw.rowGet k0m) (by omega) j q2 HQ2.out) hdv.1 hdv.2 info29) (by assumption) ?_
          simp only [Act.put, List.getElem_toArray, List.getElem_cons_succ, List.getElem_cons_zero, List.setIfInBounds_toArray, List.set_cons_zero, List.set_cons_succ]
          refine wpAnyY_pure (i := 4) (oi := _) (v := ?_) rfl (by kernel_rfl) (by kernel_rfl) (by kernel_rfl) (by kernel_rfl) (fun _ _ _ h => h) (Or.inl ⟨by rfl, ?_⟩) ?_
          rotate_left
          · (intro w hSw; go_simp; first | done | (with_reducible rfl))
          simp only [Act.put, List.getElem_toArray, List.getElem_cons_succ, List.getElem_cons_zero, List.setIfInBounds_toArray, List.set_cons_zero, List.set_cons_succ]
          refine wpAnyY_pure (i := 5) (oi := _) (v := ?_) rfl (by kernel_rfl) (by kernel_rfl) (by kernel_rfl) (by kernel_rfl) (fun _ _ _ h => h) (Or.inl ⟨by rfl, ?_⟩) ?_
          rotate_left
          · (intro w hSw; go_simp; first | done | (with_reducible rfl))
          simp only [Act.put, List.getElem_toArray, List.getElem_cons_succ, List.getElem_cons_zero, List.setIfInBounds_toArray, List.set_cons_zero, List.set_cons_succ]
          refine wpAnyY_pure (i := 6) (oi := _) (v := ?_) rfl (by kernel_rfl) (by kernel_rfl) (by kernel_rfl) (by kernel_rfl) (fun _ _ _ h => h) (Or.inl ⟨by rfl, ?_⟩) ?_
          rotate_left
          · (intro w hSw; go_simp; first | done | (with_reducible rfl))
          simp only [Act.put, List.getElem_toArray, List.getElem_cons_succ, List.getElem_cons_zero, List.setIfInBounds_toArray, List.set_cons_zero, List.set_cons_succ]
          refine wpAnyY_take (i := 7) (oi := _) (v := .agg (vwE tick q1).toArray) rfl (by kernel_rfl) (by kernel_rfl) (by kernel_rfl) (by kernel_rfl) (by kernel_rfl) (fun _ _ _ h => h) (yieldsIf_load_mid (by rfl) 29 _ rfl _ _ rfl _ _ (fun w hSw => HRQ.out w hSw) hdv.1 hdv.2 info29) (by assumption) ?_
          simp only [Act.put, List.getElem_toArray, List.getElem_cons_succ, List.getElem_cons_zero, List.setIfInBounds_toArray, List.set_cons_zero, List.set_cons_succ]
          refine wpAnyY_one (i := 8) (by kernel_rfl) rfl (fun K hK => ?_)
          go_simp
          refine (eq_t _ tick tick q2.1 q1.1 q2.2.1 q1.2.1 q2.2.2 q1.2.2 (HLQ2.out _ HB.out) (HLQ1.out _ HB.out) HCL.out ⟨rfl, HEQ.out.1, HEQ.out.2⟩).mono ?_
          rintro e wq ⟨rfl, gq⟩
          replace HB := Keep.mk (HB.out.grown gq)
          refine hK.out _ _ (fun h => h.grown gq) ?_
          clear hK K gq hHeld
          refine wpAnyY_pure (i := 9) (oi := _) (v := .bool false) rfl (by kernel_rfl) (by kernel_rfl) (by kernel_rfl) (by kernel_rfl) (fun _ _ _ h => h) (Or.inl ⟨by rfl, ?_⟩) ?_
          · (intro w hSw; go_simp; first | done | rfl | (simp; done) | trace_state)
          simp only [Act.put, List.getElem_toArray, List.getElem_cons_succ, List.getElem_cons_zero, List.setIfInBounds_toArray, List.set_cons_zero, List.set_cons_succ]
          refine wpAnyY_done (by kernel_rfl) ?_ _
          go_wp2_with fail
          go_roundw
          case rel => exact ⟨j + 1, HJN.out, rfl, HB⟩
          case measure => simp [intOf]; have := HJN.out; omega
        · have hj1 : ¬ (j : Int) < (m : Int) := by omega
          clear hjt hj
          have HRN := Keep.mk ((HB.out.boxGet k1m).range)
          go_wp2_with (first
            | (with_reducible show wpList _ _ _ ({ dst := some 94, op := Op.load 29 _, type := _, pos := _, after := _, guard := _ } :: _) _ _
               refine wpList_load_mid rfl 29 _ rfl _ _ rfl (vwv tk1 ow1 (.slice a2 n1 c2)) _ HRN.out hdv.1 hdv.2 info29 ?_))
          clear HRN
          have S0 : Sep W wr (boxA kb [vL, vG, vV, vX] 62 :: rowV 27 1 vL A (P.map Pk.va) :: rowV 33 5 (.slice a2 n1 c2) n1 (fl snv T1) :: rowV 29 16 (.slice al2 m cl2) m (fl (vwE tick) Vs2) :: boxA vb (vwv tk1 ow1 (.slice a2 n1 c2)) 29 :: rowV 27 1 vG A (P.map Pk.vo) :: rowV 52 1 vV C (PV.map Pk.va) :: rowV 52 1 vX C (PV.map Pk.vo) :: (Vs2.map rwE ++ (rdsX 40 csL P 0 ++ (rdsX 2 csV PV 0 ++ B)))) := (fr1 [_, _, _, _] (fr1 [_, _, _, _] (fr1 [_, _] HB.out)))
          refine (kview_c W wr _ kb tk1 ow1 vL vG vV vX (.slice a2 n1 c2) A n1 _ T1 HT1.out.1 (by have := HT1.out.2; omega) (by have := HK.out.1; have := HMB.out; have := HTT.out; have : t * (m + 1) ≤ 3 * (m + 1) := Nat.mul_le_mul_right _ (Nat.le_of_lt this); omega) S0).mono ?_
          rintro e w5 ⟨rfl, vL5, S5⟩
          have HB5 := Keep.mk (pkB S5)
          clear S5 S0 HB
          go_wp2_with fail
          refine (kviews_c W w5 _ kb tick vL5 vG vV vX (.slice al2 m cl2) (A + 1) C m _ _ Vs2 HVL2.out.1 (by have := HMB.out; omega) (by have := HK.out.1; have := HMB.out; have := HTT.out; have : t * (m + 1) ≤ 3 * (m + 1) := Nat.mul_le_mul_right _ (Nat.le_of_lt this); omega) (by have := HK.out.2.1; have := HTT.out; omega) (fun q hq => by have := HVL2.out.2.le q hq; omega) HB5.out).mono ?_
          rintro e w6 ⟨rfl, vL6, vV6, S6⟩
          have S7 := pkS S6
          have HB7 := Keep.mk S7
          clear S6 S7 HB5
          go_wp2_with fail
          refine (stands_c W w6 B kb vL6 vG vV6 vX (A + 1 + m) A (C + 1) C ((P.map Pk.va ++ [.slice a2 n1 c2]) ++ Vs2.map (fun q => q.2.1)) (PV.map Pk.va ++ [.slice al2 m cl2]) P PV ((.slice a2 n1 c2, n1) :: Vs2.map (fun q => (q.2.1, q.2.2.length))) [(.slice al2 m cl2, m)] (by have := HK.out.1; have := HMB.out; have := HTT.out; have : t * (m + 1) ≤ 3 * (m + 1) := Nat.mul_le_mul_right _ (Nat.le_of_lt this); omega) (by have := HK.out.2.1; have := HTT.out; omega) (by omega) (by omega) ?_ ?_ ?_).mono ?_
          · refine ⟨HK.out.2.2.1, ?_, ?_, HK.out.2.2.2.2.1⟩
            · rw [List.map_cons, List.map_map, List.append_assoc]
              rfl
            · intro x hx
              rcases List.mem_cons.1 hx with rfl | hx
              · have := HT1.out.2; simp only; omega
              · obtain ⟨q, hq, rfl⟩ := List.mem_map.1 hx
                have := HVL2.out.2.le q hq
                simp only; omega
          · refine ⟨HK.out.2.2.2.1, rfl, ?_, HK.out.2.2.2.2.2⟩
            intro x hx
            rw [List.mem_singleton.1 hx]
            have := HMB.out
            simp only; omega
          · have q := HB7.out
            show Sep W w6 (_ :: _ :: _ :: _ :: _ :: (rowV 33 5 (.slice a2 n1 c2) n1 (csL A n1) :: newX 33 5 csL (Vs2.map (fun q => (q.2.1, q.2.2.length))) (A + 1) ++ _))
            rw [newX_mks]
            exact q
          rintro e w8 ⟨rfl, hSt⟩
          obtain ⟨vG8, vX8, P8, PV8, s1, s2, s3, s4, s5, s6, S8⟩ := hSt.o
          rw [← s2, ← s5] at S8
          have HK8 : Keep (A + 1 + m ≤ (t + 1) * (m + 1) ∧ C + 1 = t + 1 ∧ P8.length = A + 1 + m ∧ PV8.length = C + 1 ∧ (∀ p ∈ P8, p.n ≤ 1048576) ∧ ∀ p ∈ PV8, p.n ≤ 1048576) := ⟨⟨by have := HK.out.1; rw [Nat.succ_mul]; omega, by have := HK.out.2.1; omega, s1, s4, s3, s6⟩⟩
          have HB8 := Keep.mk S8
          clear S8 hSt s1 s2 s3 s4 s5 s6 HB7
          have HRX := Keep.mk ((HB8.out.boxGet (List.mem_cons_of_mem _ (List.mem_cons_of_mem _ (List.mem_cons_of_mem _ (List.mem_cons_of_mem _ (List.mem_cons_of_mem _ (List.mem_append_right _ (List.mem_append_right _ HBM.out.2.2.2.2.1)))))))).range)
          have HRS := Keep.mk ((HB8.out.boxGet (List.mem_cons_of_mem _ (List.mem_cons_of_mem _ (List.mem_cons_of_mem _ (List.mem_cons_of_mem _ (List.mem_cons_of_mem _ (List.mem_append_right _ (List.mem_append_right _ HBM.out.2.2.2.2.2.2.2.2)))))))).range)
          go_wp2_with (first
            | (with_reducible show wpList _ _ _ ({ dst := some 103, op := Op.load 56 _, type := _, pos := _, after := _, guard := _ } :: _) _ _
               refine load_g rfl 56 _ rfl _ _ rfl [.int .u64 tick, sl gC nc kC, sl gH ns kH, iv nx, sl gC (nc + 1) kC, sl gH (ns + 1) kH] _ HRX.out hdl.1 hdl.2 info56 ?_)
            | (with_reducible show wpList _ _ _ ({ dst := some 104, op := Op.load 37 _, type := _, pos := _, after := _, guard := _ } :: _) _ _
               refine load_g rfl 37 _ rfl _ _ rfl ([.int .u64 tick, vc, vs, iv nx]) _ HRS.out hds.1 hds.2 info37 ?_))
          clear HRX HRS
          refine (still_c w8 tick nx tick nx (sl gC nc kC) (sl gH ns kH) (sl gC (nc + 1) kC) (sl gH (ns + 1) kH) vc vs LC LS (Ls.own (e := 26) crv_len HB8.out (by rw [List.length_append, HNN.out.1]; exact (List.mem_cons_of_mem _ (List.mem_cons_of_mem _ (List.mem_cons_of_mem _ (List.mem_cons_of_mem _ (List.mem_cons_of_mem _ (List.mem_append_right _ (List.mem_append_right _ HBM.out.2.2.2.2.2.1))))))))) (Ls.own (e := 46) shv_len HB8.out (by rw [List.length_append, HNN.out.2.1]; exact (List.mem_cons_of_mem _ (List.mem_cons_of_mem _ (List.mem_cons_of_mem _ (List.mem_cons_of_mem _ (List.mem_cons_of_mem _ (List.mem_append_right _ (List.mem_append_right _ HBM.out.2.2.2.2.2.2.1))))))))) (HS.out.c.kept HB8.out.g) (HS.out.s.kept HB8.out.g) (by have := HNN.out; omega) (by have := HNN.out; omega)).mono ?_
          rintro e w9 ⟨rfl, g9⟩
          have HB9 := Keep.mk (HB8.out.grown g9)
          clear g9 HB8
          go_wp2_with fail
          go_roundw
          case rel => exact ⟨t + 1, A + 1 + m, C + 1, P8, PV8, vL6, vG8, vV6, vX8, HTT.out, rfl, HK8, HB9⟩
          case measure => simp [intOf]; have := HTT.out; omega
    · have ht1 : ¬ (t : Int) < 3 := by omega
      clear hlt ht
      have HG := Keep.mk HB.out.g
      clear HB
      go_wp2_with fail
      go_ret
      exact ⟨rfl, HG.out⟩
end Go.Proofs.YtgedlabmndlooaaGreat
