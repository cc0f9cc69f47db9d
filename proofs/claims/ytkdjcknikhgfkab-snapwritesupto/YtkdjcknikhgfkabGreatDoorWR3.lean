import Derived.Test.YtkdjcknikhgfkabGreatDoorWR2
import Derived.Test.YtkdjcknikhgfkabGreatDoorX28
import Derived.Test.YtkdjcknikhgfkabGreatDoorX37
/- the reference's Write -/
namespace Go.Proofs.YtkdjcknikhgfkabGreatDoor.Pk.Sn
open Go Go.RowKit

theorem Sep.addB {w0 W W' : World} {l : List As} {cs : List Value} {t : TypeId} (h : Sep w0 W l) (h6 : Has W' W.heap.size cs t) (g : W.grownBy W' none) : Sep w0 W' (boxA W.heap.size cs t :: l) :=
  h.new (l' := [_]) g (Loc.one (a := boxA _ _ _) _ ⟨h6, rfl⟩ (fun i hi => .inr (by have hi : i = W.heap.size := hi; omega)))
/-- the reference's Writer, as a thing -/
def vA (vb : Nat) (st : WS) : As :=
  ⟨fun W F => Vr.VAt W vb st ∧ F = fun i => i = vb,
   fun S W W' F h f hs => by obtain ⟨⟨s, h1, h2⟩, rfl⟩ := h; exact ⟨⟨s, h1.fr f (hs vb rfl), h2⟩, rfl⟩,
   fun W F h i hi => by obtain ⟨⟨s, h1, _⟩, rfl⟩ := h; rw [hi]; exact h1.lt⟩
theorem Sep.vGet {w0 W : World} {l : List As} {vb : Nat} {st : WS} (h : Sep w0 W l) (hm : vA vb st ∈ l) : Vr.VAt W vb st := by
  obtain ⟨F, q⟩ := h.get hm
  exact q.1
theorem Sep.vStep {w0 W W' : World} {B : List As} {vb : Nat} {st st' : WS} (h : Sep w0 W (vA vb st :: B)) (d : Vr.VDid W W' vb st') : Sep w0 W' (vA vb st' :: B) := by
  obtain ⟨F, ⟨q, rfl⟩, _, hu⟩ := h.use
  exact hu W' [_] d.f (Loc.one (a := vA _ _) _ ⟨d.a, rfl⟩ (fun i hi => .inl hi))
theorem Sep.vNew {w0 W : World} {l : List As} {vb : Nat} (h : Sep w0 W (boxA vb [.string { data := #[] }, .int .i64 0] 56 :: l)) : Sep w0 W (vA vb (some []) :: l) := by
  obtain ⟨F, ⟨q, rfl⟩, _, hu⟩ := h.use
  exact hu W [_] (Fr.refl _ W) (Loc.one (a := vA _ _) _ ⟨⟨{ data := #[] }, q, fun l e => by cases e; rfl⟩, rfl⟩ (fun i hi => .inl hi))
def sgW (l : List Int) (st : WS) : WS := l.foldl (fun st x => wSig st x 8) st
theorem sgW_take (l : List Int) (st : WS) (i : Nat) (x : Int) (h : l[i]? = some x) : sgW (l.take (i + 1)) st = wSig (sgW (l.take i) st) x 8 := by
  unfold sgW
  rw [List.take_add_one, h, List.foldl_append]
  rfl
theorem sgW_len : ∀ (l : List Int) (st : WS), ((sgW l st).getD []).length ≤ (st.getD []).length + 8 * l.length
  | [], st => by simp [sgW]
  | x :: l, st => by
    have h := sgW_len l (wSig st x 8)
    have h2 := wSig_len st x 8
    show ((sgW l (wSig st x 8)).getD []).length ≤ _
    simp only [List.length_cons]
    omega
set_option maxRecDepth 100000 in
theorem builtW : Tryz.prog.built 56 [] = some #[.string { data := #[] }, .int .i64 0] := by kernel_rfl
set_option maxRecDepth 100000 in
theorem infoCr : (Tryz.prog.info? 26).map (·.size) = some 14 := by kernel_rfl
theorem underCr : ∃ d, Tryz.prog.underlying 26 = some d ∧ d.isRow = true := ⟨_, Tryz.underlying26, rfl⟩
set_option maxRecDepth 100000 in
theorem infoS5 : (Tryz.prog.info? 38).map (·.size) = some 5 := by kernel_rfl
theorem underS5 : ∃ d, Tryz.prog.underlying 38 = some d ∧ d.isRow = true := ⟨_, Tryz.underlying38, rfl⟩
set_option maxHeartbeats 64000000 in
set_option maxRecDepth 100000 in
theorem rwrite_in (T1 : Nat) (P1 : Int) (NB : ByteArray) (a0 a1 a2 a3 a4 a5 a6 a7 a8 a9 a10 a11 : Int) (S : List Sn) (a : Option Addr) (c n : Nat) (s1 s2 s3 s4 s5 : WS) (w : World) (hT : T1 < 18446744073709551616) (hP : -9223372036854775808 ≤ P1 ∧ P1 < 9223372036854775808)
    (hN : (sl NB).length ≤ 140737488355328) (hA : ∀ (i : Nat) (x : Int), ([a0, a1, a2, a3, a4, a5, a6, a7, a8, a9, a10, a11] : List Int)[i]? = some x → -9223372036854775808 ≤ x ∧ x < 9223372036854775808) (hS : ∀ s ∈ S, s.ok) (hn : S.length = n) (hn2 : n < 9223372036854775808) (hr : SeenR w a S)
    (e1 : wNum (some []) T1 8 = s1) (e2 : wNum s1 (u64 P1) 1 = s2) (e3 : wText s2 (sl NB) = s3) (e4 : sgW [a0, a1, a2, a3, a4, a5, a6, a7, a8, a9, a10, a11] s3 = s4) (e5 : wNum s4 (u64 (n : Int)) 1 = s5) :
    Calls Tryz.prog 6 #[.agg ([uv (T1 : Nat), iv P1, .string NB, iv a0, iv a1, iv a2, iv a3, iv a4, iv a5, iv a6, iv a7, iv a8, iv a9, iv a10, iv a11, .slice a n c]).toArray] w fun e w' => e = .returned (.tuple #[.string ⟨((laySn S s5).getD []).toArray⟩, iv (werr (laySn S s5))]) ∧ w.grownBy w' none := by
  obtain ⟨dC, hdC, hrC⟩ := underCr
  obtain ⟨dS, hdS, hrS⟩ := underS5
  obtain ⟨w0, hw0⟩ : ∃ q, w.alloc (.cells ([uv (T1 : Nat), iv P1, .string NB, iv a0, iv a1, iv a2, iv a3, iv a4, iv a5, iv a6, iv a7, iv a8, iv a9, iv a10, iv a11, .slice a n c]).toArray 29) = q := ⟨_, rfl⟩
  obtain ⟨w1, hw1⟩ : ∃ q, w0.alloc (.cells #[.string { data := #[] }, .int .i64 0] 56) = q := ⟨_, rfl⟩
  have HS : Keep (Sep w w1 [vA w0.heap.size (some []), boxA w.heap.size [uv (T1 : Nat), iv P1, .string NB, iv a0, iv a1, iv a2, iv a3, iv a4, iv a5, iv a6, iv a7, iv a8, iv a9, iv a10, iv a11, .slice a n c] 29]) := by
    have h1 := (Sep.nil w).newBox ([uv (T1 : Nat), iv P1, .string NB, iv a0, iv a1, iv a2, iv a3, iv a4, iv a5, iv a6, iv a7, iv a8, iv a9, iv a10, iv a11, .slice a n c]).toArray 29
    rw [hw0] at h1
    have h2 := h1.newBox #[.string { data := #[] }, .int .i64 0] 56
    rw [hw1] at h2
    exact ⟨h2.vNew⟩
  have l1 : (s1.getD []).length ≤ 8 := by rw [← e1]; exact Nat.le_trans (wNum_len _ _ _) (by simp)
  have l2 : (s2.getD []).length ≤ 16 := by rw [← e2]; exact Nat.le_trans (wNum_len _ _ _) (by omega)
  have l3 : (s3.getD []).length ≤ 272 := by
    have h := layK_len .tx (.txt (sl NB)) s2 hN
    have e : layK .tx (.txt (sl NB)) s2 = s3 := e3
    rw [e] at h
    omega
  have l4 : (s4.getD []).length ≤ 368 := by
    have h := sgW_len [a0, a1, a2, a3, a4, a5, a6, a7, a8, a9, a10, a11] s3
    rw [e4] at h
    simp only [List.length_cons, List.length_nil] at h
    omega
  have l5 : (s5.getD []).length ≤ 376 := by rw [← e5]; exact Nat.le_trans (wNum_len _ _ _) (by omega)
  have l6 : ∀ j, j ≤ n → ((laySn (S.take j) s5).getD []).length ≤ 1000000 := by
    intro j hj
    by_cases q : n ≤ 255
    · have h := laySn_len (S.take j) s5 (fun s hs => hS s (List.mem_of_mem_take hs))
      rw [List.length_take] at h
      omega
    · have e : s5 = none := by rw [← e5]; exact wNum_big s4 (u64 (n : Int)) 1 1 rfl (by unfold u64; omega)
      rw [e, laySn_none]
      exact Nat.zero_le _
  have HL := Keep.mk (And.intro l1 (And.intro l2 (And.intro l3 (And.intro l4 (And.intro l5 l6)))))
  have HE := Keep.mk (And.intro e1 (And.intro e2 (And.intro e3 (And.intro e4 e5))))
  have HH := Keep.mk (And.intro hT (And.intro hP (And.intro hN (And.intro hA (And.intro hS (And.intro hn (And.intro hn2 hr)))))))
  have c1 : w1.cell? ⟨w.heap.size, 0, none⟩ = some (.int .u64 (T1 : Nat)) := (HS.out.boxGet k1m).cellv 0 _ rfl
  clear l1 l2 l3 l4 l5 l6 e1 e2 e3 e4 e5 hT hP hN hA hS hn hn2 hr
  go_enter Tryz.func6, Tryz.ntmps6
  go_wp2_with (first
    | (with_reducible show wpList _ _ _ ({ dst := some 9, op := Op.build 56 _, type := _, pos := _, after := _, guard := _ } :: _) _ _
       refine build_g rfl 56 _ rfl _ ((congrArg (Tryz.prog.built 56) (by first | (simp only [List.map_toArray, List.map_nil, Act.eval]; done) | (simp only [List.map_toArray, List.map_nil, Act.eval]; with_reducible rfl) | (simp only [List.map_toArray, List.map_nil, Act.eval]; rfl))).trans builtW) ?_
       simp only [Act.put, List.setIfInBounds_toArray, List.set_cons_zero, List.set_cons_succ]))
  clear hw0 hw1 c1
  refine (Vr.vNumber_c w0.heap.size (some []) T1 8 w1 (HS.out.vGet k0m) HH.out.1 (by simp)).mono ?_
  rintro e w2 ⟨rfl, D⟩
  have HS2 : Keep (Sep w w2 [vA w0.heap.size (wNum (some []) T1 8), boxA w.heap.size [uv (T1 : Nat), iv P1, .string NB, iv a0, iv a1, iv a2, iv a3, iv a4, iv a5, iv a6, iv a7, iv a8, iv a9, iv a10, iv a11, .slice a n c] 29]) := Keep.mk (HS.out.vStep D)
  clear D
  rw [HE.out.1] at HS2
  have c2 : w2.cell? ⟨w.heap.size, 1, none⟩ = some (.int .i64 P1) := (HS2.out.boxGet k1m).cellv 1 _ rfl
  go_wp2_with fail
  clear c2 HS
  refine (uns_c P1 w2 HH.out.2.1).mono ?_
  rintro e w2' ⟨rfl, rfl⟩
  go_wp2_with fail
  refine (Vr.vNumber_c w0.heap.size s1 (unsN P1) 1 w2' (HS2.out.vGet k0m) (unsN_lt _ HH.out.2.1.2) (by have := HL.out.1; omega)).mono ?_
  rintro e w3 ⟨rfl, D⟩
  have HS3 : Keep (Sep w w3 [vA w0.heap.size (wNum s1 (unsN P1) 1), boxA w.heap.size [uv (T1 : Nat), iv P1, .string NB, iv a0, iv a1, iv a2, iv a3, iv a4, iv a5, iv a6, iv a7, iv a8, iv a9, iv a10, iv a11, .slice a n c] 29]) := Keep.mk (HS2.out.vStep D)
  clear D
  rw [unsN_num _ _ HH.out.2.1, HE.out.2.1] at HS3
  have c3 : w3.cell? ⟨w.heap.size, 2, none⟩ = some (.string NB) := (HS3.out.boxGet k1m).cellv 2 _ rfl
  go_wp2_with fail
  clear c3 HS2
  refine (Vr.vText_c w0.heap.size s2 NB w3 (HS3.out.vGet k0m) (fun q => by have := HL.out.2.1; omega)).mono ?_
  rintro e w4 ⟨rfl, D⟩
  have HS4 : Keep (Sep w w4 [vA w0.heap.size (wText s2 (sl NB)), boxA w.heap.size [uv (T1 : Nat), iv P1, .string NB, iv a0, iv a1, iv a2, iv a3, iv a4, iv a5, iv a6, iv a7, iv a8, iv a9, iv a10, iv a11, .slice a n c] 29]) := Keep.mk (HS3.out.vStep D)
  clear D
  rw [HE.out.2.2.1] at HS4
  go_wp2_with (first
    | (with_reducible show wpList _ _ _ ({ dst := _, op := Op.load 26 (Operand.tmp 26), type := _, pos := _, after := _, guard := _ } :: _) _ _
       refine load_g rfl 26 _ rfl w.heap.size 1 rfl [iv P1, .string NB, iv a0, iv a1, iv a2, iv a3, iv a4, iv a5, iv a6, iv a7, iv a8, iv a9, iv a10, iv a11] dC ((HS4.out.boxGet k1m).rangeMid 1 [uv (T1 : Nat)] [iv P1, .string NB, iv a0, iv a1, iv a2, iv a3, iv a4, iv a5, iv a6, iv a7, iv a8, iv a9, iv a10, iv a11] [.slice a n c] rfl rfl) hdC hrC infoCr ?_))
  refine (own_c P1 NB a0 a1 a2 a3 a4 a5 a6 a7 a8 a9 a10 a11 w4).mono ?_
  rintro e wl ⟨rfl, gl⟩
  have HSl := Keep.mk (HS4.out.grown gl)
  clear gl
  go_wp2_with (first
    | (with_reducible show wpList _ _ _ ({ dst := none, op := Op.store 60 _ (Operand.tmp 28), type := _, pos := _, after := _, guard := _ } :: _) _ _
       refine st_new wl [iv a0, iv a1, iv a2, iv a3, iv a4, iv a5, iv a6, iv a7, iv a8, iv a9, iv a10, iv a11] 60 rfl rfl rfl rfl rfl infoL (by intro u hu; simp only [List.mem_cons, List.not_mem_nil, or_false] at hu; rcases hu with rfl | rfl | rfl | rfl | rfl | rfl | rfl | rfl | rfl | rfl | rfl | rfl <;> rfl) ?_
       intro w5 h6 g6
       have HS5 : Keep (Sep w w5 [vA w0.heap.size (sgW (([a0, a1, a2, a3, a4, a5, a6, a7, a8, a9, a10, a11] : List Int).take 0) s3), boxA w.heap.size [uv (T1 : Nat), iv P1, .string NB, iv a0, iv a1, iv a2, iv a3, iv a4, iv a5, iv a6, iv a7, iv a8, iv a9, iv a10, iv a11, .slice a n c] 29, boxA wl.heap.size [iv a0, iv a1, iv a2, iv a3, iv a4, iv a5, iv a6, iv a7, iv a8, iv a9, iv a10, iv a11] 60]) := ⟨(HSl.out.addB h6 g6).perm (List.perm_append_comm (l₁ := [_]))⟩
       clear h6 g6))
  clear HS3 HS4 HSl
  go_loopw [6] (fun u wr => ∃ i : Nat, i ≤ 12 ∧ u = .int .i64 i ∧ Keep (Sep w wr [vA w0.heap.size (sgW (([a0, a1, a2, a3, a4, a5, a6, a7, a8, a9, a10, a11] : List Int).take i) s3), boxA w.heap.size [uv (T1 : Nat), iv P1, .string NB, iv a0, iv a1, iv a2, iv a3, iv a4, iv a5, iv a6, iv a7, iv a8, iv a9, iv a10, iv a11, .slice a n c] 29, boxA wl.heap.size [iv a0, iv a1, iv a2, iv a3, iv a4, iv a5, iv a6, iv a7, iv a8, iv a9, iv a10, iv a11] 60])) (fun u _ => 12 - (intOf u).toNat)
  case atStart => exact ⟨0, by omega, rfl, HS5⟩
  case round =>
    clear HS5
    obtain ⟨i, hi, rfl, hrel⟩ := hrel
    by_cases hlt : i < 12
    · have hlt' : (i : Int) < 12 := by omega
      have hi0 : (0 : Int) ≤ (i : Int) := by omega
      have hti : ((i : Nat) : Int).toNat = i := by omega
      obtain ⟨x, hx⟩ : ∃ x, ([a0, a1, a2, a3, a4, a5, a6, a7, a8, a9, a10, a11] : List Int)[i]? = some x := ⟨_, List.getElem?_eq_getElem (by simpa using hlt)⟩
      have hxr := HH.out.2.2.2.1 i x hx
      have ci : wr.cell? ⟨wl.heap.size, i, none⟩ = some (.int .i64 x) := (hrel.out.boxGet k2m).cellv i _ (by rw [show ([iv a0, iv a1, iv a2, iv a3, iv a4, iv a5, iv a6, iv a7, iv a8, iv a9, iv a10, iv a11] : List Value) = ([a0, a1, a2, a3, a4, a5, a6, a7, a8, a9, a10, a11] : List Int).map iv from rfl, List.getElem?_map, hx]; rfl)
      have hll : ((sgW (([a0, a1, a2, a3, a4, a5, a6, a7, a8, a9, a10, a11] : List Int).take i) s3).getD []).length ≤ 400 := by
        have h := sgW_len (([a0, a1, a2, a3, a4, a5, a6, a7, a8, a9, a10, a11] : List Int).take i) s3
        have h3 := HL.out.2.2.1
        rw [List.length_take] at h
        omega
      have hst := sgW_take [a0, a1, a2, a3, a4, a5, a6, a7, a8, a9, a10, a11] s3 i x hx
      clear hx
      go_wp2_with fail
      clear ci
      refine (Vr.vSigned_c w0.heap.size (sgW (([a0, a1, a2, a3, a4, a5, a6, a7, a8, a9, a10, a11] : List Int).take i) s3) x 8 wr (hrel.out.vGet k0m) hxr (by omega)).mono ?_
      rintro e wk ⟨rfl, D⟩
      have HK : Keep (Sep w wk [vA w0.heap.size (wSig (sgW (([a0, a1, a2, a3, a4, a5, a6, a7, a8, a9, a10, a11] : List Int).take i) s3) x 8), boxA w.heap.size [uv (T1 : Nat), iv P1, .string NB, iv a0, iv a1, iv a2, iv a3, iv a4, iv a5, iv a6, iv a7, iv a8, iv a9, iv a10, iv a11, .slice a n c] 29, boxA wl.heap.size [iv a0, iv a1, iv a2, iv a3, iv a4, iv a5, iv a6, iv a7, iv a8, iv a9, iv a10, iv a11] 60]) := Keep.mk (hrel.out.vStep D)
      clear D
      rw [← hst] at HK
      clear hst hrel hxr hll
      go_wp2_with fail
      go_roundw
      case rel => exact ⟨i + 1, by omega, by go_num, HK⟩
      case measure => simp [intOf]; omega
    · have hlt' : ¬ (i : Int) < 12 := by omega
      obtain rfl : i = 12 := by omega
      have HM : Keep (Sep w wr [vA w0.heap.size s4, boxA w.heap.size [uv (T1 : Nat), iv P1, .string NB, iv a0, iv a1, iv a2, iv a3, iv a4, iv a5, iv a6, iv a7, iv a8, iv a9, iv a10, iv a11, .slice a n c] 29, boxA wl.heap.size [iv a0, iv a1, iv a2, iv a3, iv a4, iv a5, iv a6, iv a7, iv a8, iv a9, iv a10, iv a11] 60]) := by
        have h := hrel.out
        rw [show ([a0, a1, a2, a3, a4, a5, a6, a7, a8, a9, a10, a11] : List Int).take 12 = [a0, a1, a2, a3, a4, a5, a6, a7, a8, a9, a10, a11] from rfl, HE.out.2.2.2.1] at h
        exact ⟨h⟩
      clear hrel
      have c15 : wr.cell? ⟨w.heap.size, 15, none⟩ = some (.slice a n c) := (HM.out.boxGet k1m).cellv 15 _ rfl
      have hnw : IntKind.u64.wrap ((n : Nat) : Int) = ((n : Nat) : Int) := by
        show (n : Int) % 18446744073709551616 = n
        have := HH.out.2.2.2.2.2.2.1
        omega
      go_wp2_with fail
      clear c15
      refine (Vr.vNumber_c w0.heap.size s4 n 1 wr (HM.out.vGet k0m) (by have := HH.out.2.2.2.2.2.2.1; omega) (by have := HL.out.2.2.2.1; omega)).mono ?_
      rintro e wf ⟨rfl, D⟩
      have HF : Keep (Sep w wf [vA w0.heap.size (wNum s4 n 1), boxA w.heap.size [uv (T1 : Nat), iv P1, .string NB, iv a0, iv a1, iv a2, iv a3, iv a4, iv a5, iv a6, iv a7, iv a8, iv a9, iv a10, iv a11, .slice a n c] 29, boxA wl.heap.size [iv a0, iv a1, iv a2, iv a3, iv a4, iv a5, iv a6, iv a7, iv a8, iv a9, iv a10, iv a11] 60]) := Keep.mk (HM.out.vStep D)
      clear D
      have hu5 : wNum s4 n 1 = s5 := by rw [← HE.out.2.2.2.2]; congr 1; have := HH.out.2.2.2.2.2.2.1; unfold u64; omega
      have HG : Keep (Sep w wf [vA w0.heap.size (laySn (S.take 0) s5), boxA w.heap.size [uv (T1 : Nat), iv P1, .string NB, iv a0, iv a1, iv a2, iv a3, iv a4, iv a5, iv a6, iv a7, iv a8, iv a9, iv a10, iv a11, .slice a n c] 29]) := by
        have h := HF.out
        rw [hu5] at h
        exact ⟨(h.perm (List.perm_append_comm (l₁ := [_, _]) (l₂ := [_]))).tail⟩
      clear hu5 HF HM
      go_wp2_with fail
      go_loopw [7] (fun u wr => ∃ i : Nat, i ≤ n ∧ u = .int .i64 i ∧ Keep (Sep w wr [vA w0.heap.size (laySn (S.take i) s5), boxA w.heap.size [uv (T1 : Nat), iv P1, .string NB, iv a0, iv a1, iv a2, iv a3, iv a4, iv a5, iv a6, iv a7, iv a8, iv a9, iv a10, iv a11, .slice a n c] 29])) (fun u _ => n - (intOf u).toNat)
      case atStart => exact ⟨0, by omega, rfl, HG⟩
      case round =>
        clear HG
        obtain ⟨i, hi, rfl, hrel⟩ := hrel
        have c15 : wr.cell? ⟨w.heap.size, 15, none⟩ = some (.slice a n c) := (hrel.out.boxGet k1m).cellv 15 _ rfl
        by_cases hlt : i < n
        · have hlt' : (i : Int) < (n : Int) := by omega
          have hi0 : (0 : Int) ≤ (i : Int) := by omega
          have hti : ((i : Nat) : Int).toNat = i := by omega
          have hne : S ≠ [] := by
            intro e
            have := HH.out.2.2.2.2.2.1
            rw [e] at this
            simp at this
            omega
          obtain ⟨sb, so, rfl, hR⟩ := HH.out.2.2.2.2.2.2.2 hne
          obtain ⟨s, hs⟩ := some_at (l := S) (k := i) (by rw [HH.out.2.2.2.2.2.1]; exact hlt)
          have hok := HH.out.2.2.2.2.1 s (List.mem_of_getElem? hs)
          have hst := laySn_take S s5 i s hs
          have hRi := hR i s hs
          obtain ⟨k, id, x, y, h⟩ := s
          have hRn : wr.rangeAt sb (so + 5 * i) [iv k, iv id, iv x, iv y, iv h] := fun j v hv => hrel.out.g.cell (hRi j v hv) (by simp)
          obtain ⟨q1, hq1⟩ : ∃ q, wNum (laySn (S.take i) s5) (Pk.u64 k) 1 = q := ⟨_, rfl⟩
          obtain ⟨q2, hq2⟩ : ∃ q, wSig q1 id 8 = q := ⟨_, rfl⟩
          obtain ⟨q3, hq3⟩ : ∃ q, wSig q2 x 8 = q := ⟨_, rfl⟩
          obtain ⟨q4, hq4⟩ : ∃ q, wSig q3 y 8 = q := ⟨_, rfl⟩
          have hq5 : wNum q4 (Pk.u64 h) 1 = laySn (S.take (i + 1)) s5 := by rw [hst, ← hq4, ← hq3, ← hq2, ← hq1]; rfl
          have r0 := HL.out.2.2.2.2.2 i (by omega)
          have r1 : (q1.getD []).length ≤ 1000008 := by rw [← hq1]; exact Nat.le_trans (wNum_len _ _ _) (by omega)
          have r2 : (q2.getD []).length ≤ 1000016 := by rw [← hq2]; exact Nat.le_trans (wSig_len _ _ _) (by omega)
          have r3 : (q3.getD []).length ≤ 1000024 := by rw [← hq3]; exact Nat.le_trans (wSig_len _ _ _) (by omega)
          have r4 : (q4.getD []).length ≤ 1000032 := by rw [← hq4]; exact Nat.le_trans (wSig_len _ _ _) (by omega)
          have HQ := Keep.mk (And.intro hq1 (And.intro hq2 (And.intro hq3 (And.intro hq4 hq5))))
          have HRL := Keep.mk (And.intro r0 (And.intro r1 (And.intro r2 (And.intro r3 r4))))
          have HOK : Keep ((-9223372036854775808 ≤ k ∧ k < 9223372036854775808) ∧ (-9223372036854775808 ≤ id ∧ id < 9223372036854775808) ∧ (-9223372036854775808 ≤ x ∧ x < 9223372036854775808) ∧ (-9223372036854775808 ≤ y ∧ y < 9223372036854775808) ∧ (-9223372036854775808 ≤ h ∧ h < 9223372036854775808)) := ⟨hok.1, hok.2.1, hok.2.2.1, hok.2.2.2.1, hok.2.2.2.2.1⟩
          clear hne hR hs hok hst hRi hq1 hq2 hq3 hq4 hq5 r0 r1 r2 r3 r4
          go_wp2_with (first
            | (with_reducible show wpList _ _ _ ({ dst := _, op := Op.load 38 _, type := _, pos := _, after := _, guard := _ } :: _) _ _
               refine load_g rfl 38 _ rfl sb (so + 5 * i) (by first | rfl | (rw [show so + 5 * i = so + i * 5 by omega]; rfl) | (simp [Act.eval, Addr.add]; done) | (simp [Act.eval, Addr.add]; omega)) [iv k, iv id, iv x, iv y, iv h] dS hRn hdS hrS infoS5 ?_)
            | (with_reducible show wpList _ _ _ ({ dst := none, op := Op.store 38 _ _, type := _, pos := _, after := _, guard := _ } :: _) _ _
               refine st_new wr [iv k, iv id, iv x, iv y, iv h] 38 rfl rfl rfl rfl rfl infoS5 (by intro u hu; simp only [List.mem_cons, List.not_mem_nil, or_false] at hu; rcases hu with rfl | rfl | rfl | rfl | rfl <;> rfl) ?_
               intro wa h6 g6
               have HA : Keep (Sep w wa [vA w0.heap.size (laySn (S.take i) s5), boxA w.heap.size [uv (T1 : Nat), iv P1, .string NB, iv a0, iv a1, iv a2, iv a3, iv a4, iv a5, iv a6, iv a7, iv a8, iv a9, iv a10, iv a11, .slice (some ⟨sb, so, none⟩) n c] 29, boxA wr.heap.size [iv k, iv id, iv x, iv y, iv h] 38]) := ⟨(hrel.out.addB h6 g6).perm (List.perm_append_comm (l₁ := [_]))⟩
               have d0 : wa.cell? ⟨wr.heap.size, 0, none⟩ = some (.int .i64 k) := (HA.out.boxGet k2m).cellv 0 _ rfl
               clear h6 g6))
          clear c15 d0 hRn
          refine (uns_c k wa HOK.out.1).mono ?_
          rintro e wa' ⟨rfl, rfl⟩
          go_wp2_with fail
          refine (Vr.vNumber_c w0.heap.size (laySn (S.take i) s5) (unsN k) 1 wa' (HA.out.vGet k0m) (unsN_lt _ HOK.out.1.2) (by have := HRL.out.1; omega)).mono ?_
          rintro e wb ⟨rfl, D⟩
          have HB : Keep (Sep w wb [vA w0.heap.size (wNum (laySn (S.take i) s5) (unsN k) 1), boxA w.heap.size [uv (T1 : Nat), iv P1, .string NB, iv a0, iv a1, iv a2, iv a3, iv a4, iv a5, iv a6, iv a7, iv a8, iv a9, iv a10, iv a11, .slice (some ⟨sb, so, none⟩) n c] 29, boxA wr.heap.size [iv k, iv id, iv x, iv y, iv h] 38]) := Keep.mk (HA.out.vStep D)
          clear D
          rw [unsN_num _ _ HOK.out.1, HQ.out.1] at HB
          clear HA hrel
          have d1 : wb.cell? ⟨wr.heap.size, 1, none⟩ = some (.int .i64 id) := (HB.out.boxGet k2m).cellv 1 _ rfl
          go_wp2_with fail
          clear d1
          refine (Vr.vSigned_c w0.heap.size q1 id 8 wb (HB.out.vGet k0m) HOK.out.2.1 (by have := HRL.out.2.1; omega)).mono ?_
          rintro e wc ⟨rfl, D⟩
          have HCx : Keep (Sep w wc [vA w0.heap.size (wSig q1 id 8), boxA w.heap.size [uv (T1 : Nat), iv P1, .string NB, iv a0, iv a1, iv a2, iv a3, iv a4, iv a5, iv a6, iv a7, iv a8, iv a9, iv a10, iv a11, .slice (some ⟨sb, so, none⟩) n c] 29, boxA wr.heap.size [iv k, iv id, iv x, iv y, iv h] 38]) := Keep.mk (HB.out.vStep D)
          clear D
          rw [HQ.out.2.1] at HCx
          clear HB
          have d2 : wc.cell? ⟨wr.heap.size, 2, none⟩ = some (.int .i64 x) := (HCx.out.boxGet k2m).cellv 2 _ rfl
          go_wp2_with fail
          clear d2
          refine (Vr.vSigned_c w0.heap.size q2 x 8 wc (HCx.out.vGet k0m) HOK.out.2.2.1 (by have := HRL.out.2.2.1; omega)).mono ?_
          rintro e wd ⟨rfl, D⟩
          have HDx : Keep (Sep w wd [vA w0.heap.size (wSig q2 x 8), boxA w.heap.size [uv (T1 : Nat), iv P1, .string NB, iv a0, iv a1, iv a2, iv a3, iv a4, iv a5, iv a6, iv a7, iv a8, iv a9, iv a10, iv a11, .slice (some ⟨sb, so, none⟩) n c] 29, boxA wr.heap.size [iv k, iv id, iv x, iv y, iv h] 38]) := Keep.mk (HCx.out.vStep D)
          clear D
          rw [HQ.out.2.2.1] at HDx
          clear HCx
          have d3 : wd.cell? ⟨wr.heap.size, 3, none⟩ = some (.int .i64 y) := (HDx.out.boxGet k2m).cellv 3 _ rfl
          go_wp2_with fail
          clear d3
          refine (Vr.vSigned_c w0.heap.size q3 y 8 wd (HDx.out.vGet k0m) HOK.out.2.2.2.1 (by have := HRL.out.2.2.2.1; omega)).mono ?_
          rintro e we ⟨rfl, D⟩
          have HEx : Keep (Sep w we [vA w0.heap.size (wSig q3 y 8), boxA w.heap.size [uv (T1 : Nat), iv P1, .string NB, iv a0, iv a1, iv a2, iv a3, iv a4, iv a5, iv a6, iv a7, iv a8, iv a9, iv a10, iv a11, .slice (some ⟨sb, so, none⟩) n c] 29, boxA wr.heap.size [iv k, iv id, iv x, iv y, iv h] 38]) := Keep.mk (HDx.out.vStep D)
          clear D
          rw [HQ.out.2.2.2.1] at HEx
          clear HDx
          have d4 : we.cell? ⟨wr.heap.size, 4, none⟩ = some (.int .i64 h) := (HEx.out.boxGet k2m).cellv 4 _ rfl
          go_wp2_with fail
          clear d4
          refine (uns_c h we HOK.out.2.2.2.2).mono ?_
          rintro e we' ⟨rfl, rfl⟩
          go_wp2_with fail
          refine (Vr.vNumber_c w0.heap.size q4 (unsN h) 1 we' (HEx.out.vGet k0m) (unsN_lt _ HOK.out.2.2.2.2.2) (by have := HRL.out.2.2.2.2; omega)).mono ?_
          rintro e wg ⟨rfl, D⟩
          have HGx : Keep (Sep w wg [vA w0.heap.size (wNum q4 (unsN h) 1), boxA w.heap.size [uv (T1 : Nat), iv P1, .string NB, iv a0, iv a1, iv a2, iv a3, iv a4, iv a5, iv a6, iv a7, iv a8, iv a9, iv a10, iv a11, .slice (some ⟨sb, so, none⟩) n c] 29, boxA wr.heap.size [iv k, iv id, iv x, iv y, iv h] 38]) := Keep.mk (HEx.out.vStep D)
          clear D
          rw [unsN_num _ _ HOK.out.2.2.2.2, HQ.out.2.2.2.2] at HGx
          have HI : Keep (Sep w wg [vA w0.heap.size (laySn (S.take (i + 1)) s5), boxA w.heap.size [uv (T1 : Nat), iv P1, .string NB, iv a0, iv a1, iv a2, iv a3, iv a4, iv a5, iv a6, iv a7, iv a8, iv a9, iv a10, iv a11, .slice (some ⟨sb, so, none⟩) n c] 29]) := ⟨(HGx.out.perm (List.perm_append_comm (l₁ := [_, _]) (l₂ := [_]))).tail⟩
          clear HEx HGx
          have hwi : IntKind.i64.wrap ((i : Int) + 1) = (i : Int) + 1 := wi _ (by omega) (by have := HH.out.2.2.2.2.2.2.1; omega)
          have hwj : wrap64 ((i : Int) + 1) = (i : Int) + 1 := by have := HH.out.2.2.2.2.2.2.1; unfold wrap64; omega
          go_wp2_with fail
          go_roundw
          case rel => exact ⟨i + 1, by omega, by first | (go_num; done) | (rw [hwj]; rfl) | (rw [hwj]; push_cast; rfl), HI⟩
          case measure => simp [intOf]; omega
        · have hlt' : ¬ (i : Int) < (n : Int) := by omega
          obtain rfl : i = n := by omega
          go_wp2_with fail
          refine (Vr.vDone_c w0.heap.size (laySn (S.take i) s5) wr (hrel.out.vGet k0m)).mono ?_
          rintro e wz ⟨rfl, gz⟩
          have HZ := Keep.mk (hrel.out.g.trans gz)
          have hS : laySn (S.take i) s5 = laySn S s5 := by rw [← HH.out.2.2.2.2.2.1, List.take_length]
          clear gz hrel c15
          go_wp2_with fail
          go_ret2
          exact ⟨rfl, HZ.out⟩
end Go.Proofs.YtkdjcknikhgfkabGreatDoor.Pk.Sn
