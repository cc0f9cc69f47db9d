/- TableScript: each, walked. -/
import Derived.Test.YtkaakbldkicnaaaT5
namespace Go.Proofs.Ytkaakbldkicnaaa
open Go Go.RowKit Go.Maps

theorem each_order {w0 W : World} {b : Bool} {pb t t' d d' s s' : Nat} {L L' : KV} {tv wv : Value} {n : Nat} {vk : Value} {K : List ByteArray} {R : List As} {nb kb dx gb sb ob px eb : Nat} {op : List Value} {dp : Int}
    (h : Sep w0 W (boxA gb [.bool true] 4 :: boxA sb [iv 0] 3 :: boxA nb [iv 0] 3 :: boxA kb [vk] 22 :: rowA vk K :: refA d s L :: boxA dx [pt d] 54 :: boxA eb [iv dp] 3 :: boxA ob op 62 :: boxA px [pt pb] 52 :: boxA pb (pcb b t t' d d' tv wv) 58 :: tabA t s L :: tabA t' s' L' :: refA d' s' L' :: bookA tv wv n :: R)) :
    Sep w0 W (tabA t s L :: eaL b pb t t' d d' s s' L L' tv wv n vk K (bxs nb kb dx gb sb ob px eb 0 vk d 0 op pb dp) R) := by
  have g0 := fr1 [_, _, _, _, _, _, _] h
  have g1 := fr1 [_, _, _, _, _, _, _, _, _] g0
  have g2 := fr1 [_, _, _, _, _, _, _, _, _] g1
  have g3 := fr1 [_, _, _, _] g2
  have g4 := fr1 [_, _, _, _] g3
  have g5 := fr1 [_, _, _, _, _, _, _, _, _] g4
  have g6 := fr1 [_, _, _, _, _, _, _] g5
  have g7 := fr1 [_, _, _, _, _, _, _] g6
  have g8 := fr1 [_, _, _, _, _, _, _, _] g7
  have g9 := fr1 [_, _, _, _, _, _, _, _, _, _, _, _, _, _] g8
  have g10 := fr1 [_, _, _, _, _, _, _, _, _, _, _, _, _, _] g9
  have g11 := fr1 [_, _, _, _, _, _, _, _, _, _, _, _, _, _] g10
  have g12 := fr1 [_, _, _, _, _, _, _, _, _, _, _, _, _] g11
  have g13 := fr1 [_, _, _, _, _, _, _, _, _, _, _, _, _] g12
  have g14 := fr1 [_, _, _, _, _, _, _, _, _, _, _, _, _, _] g13
  exact g14
set_option maxRecDepth 100000 in
set_option maxHeartbeats 16000000 in
theorem each_yes (w0 W : World) (m : Nat) (b : Bool) (pb t t' d d' s s' a : Nat) (L L' : KV) (tv wv : Value) (n c : Nat) (R : List As) (ok oa : Int) (okey : ByteArray) (X : Int) (a0 : Option Addr) (ni ci : Nat) (dp : Int) (cs : List Nat)
    (h : Sep w0 W (stB b pb t t' d d' s s' L L' tv wv n R)) (hab : bn b = a) (ha2 : a < 2)
    (hstep : StepC w0 m (dp + 1)) (hdp : 0 ≤ dp ∧ dp ≤ 2) (hpos : 0 < L.length) (hcl : cs.length = ni) (hni : ni ≤ 1048576) (hcc : cs.sum + 1 ≤ c) (hn0 : n + c ≤ 4194304)
    (hop : 0 < ni → ∃ B o, a0 = some ⟨B, o, none⟩ ∧ ∀ j cj, cs[j]? = some cj → ∃ vj, w0.rangeAt B (o + j * 5) vj ∧ OpV w0 m vj cj) :
    Calls Try.prog 45 #[pt pb, iv (a : Nat), opv ok oa okey X a0 ni ci, iv dp] W (StP w0 b pb t t' d d' s s' n c R) := by
  have okL := h.tab k1m
  have S1 := h.newBox #[pt pb] 52
  obtain ⟨px, hpx⟩ : ∃ px, W.heap.size = px := ⟨_, rfl⟩
  obtain ⟨W1, hW1⟩ : ∃ W1, W.alloc (.cells #[pt pb] 52) = W1 := ⟨_, rfl⟩
  rw [hpx, hW1] at S1
  have S2 := S1.newBox #[iv ok, iv oa, .string okey, iv X, .slice a0 ni ci] 62
  obtain ⟨ob, hob⟩ : ∃ ob, W1.heap.size = ob := ⟨_, rfl⟩
  obtain ⟨W2, hW2⟩ : ∃ W2, W1.alloc (.cells #[iv ok, iv oa, .string okey, iv X, .slice a0 ni ci] 62) = W2 := ⟨_, rfl⟩
  rw [hob, hW2] at S2
  have S3 := S2.newBox #[iv dp] 3
  obtain ⟨eb, heb⟩ : ∃ eb, W2.heap.size = eb := ⟨_, rfl⟩
  obtain ⟨W3, hW3⟩ : ∃ W3, W2.alloc (.cells #[iv dp] 3) = W3 := ⟨_, rfl⟩
  rw [heb, hW3] at S3
  have S4 := S3.newBox #[pt d] 54
  obtain ⟨dx, hdx⟩ : ∃ dx, W3.heap.size = dx := ⟨_, rfl⟩
  obtain ⟨W4, hW4⟩ : ∃ W4, W3.alloc (.cells #[pt d] 54) = W4 := ⟨_, rfl⟩
  rw [hdx, hW4] at S4
  change Sep w0 W4 (boxA dx [pt d] 54 :: boxA eb [iv dp] 3 :: boxA ob (opL ok oa okey X a0 ni ci) 62 :: boxA px [pt pb] 52 :: stB b pb t t' d d' s s' L L' tv wv n R) at S4
  have p3 : W3.cell? ⟨px, 0, none⟩ = some (pt pb) := (S3.boxGet k2m).cellv 0 _ rfl
  have pl := S3.plc k3m
  rw [hab] at pl
  obtain ⟨pt0, pd0, _, _, _, _⟩ := pl
  have c4 : W4.cell? ⟨dx, 0, none⟩ = some (pt d) := (S4.boxGet k0m).cellv 0 _ rfl
  have hK := rkeys_s (fr1 [_, _, _, _, _, _] S4) okL.four
  have ha0 : (0 : Int) ≤ (a : Int) := by omega
  have ha1 : (a : Int) < 2 := by omega
  have hat : ((a : Nat) : Int).toNat = a := by omega
  obtain ⟨kn, hkn⟩ : ∃ kn, L.length = kn := ⟨_, rfl⟩
  have HP : Keep (StepC w0 m (dp + 1) ∧ (0 ≤ dp ∧ dp ≤ 2) ∧ L.length = kn ∧ 0 < kn ∧ cs.length = ni ∧ ni ≤ 1048576 ∧ cs.sum + 1 ≤ c ∧ n + c ≤ 4194304 ∧ kn ≤ 4096) := ⟨hstep, hdp, hkn, by omega, hcl, hni, hcc, hn0, by have := okL.four; omega⟩
  have HO := Keep.mk hop
  clear h S1 S2 S3 S4 okL hstep hdp hpos hkn hcl hni hcc hn0 hop hab ha2
  go_enter Try.func45, Try.ntmps45
  go_wp2_with fail
  refine hK.mono ?_
  rintro r w5 ⟨vk, rfl, S5⟩
  change Sep w0 w5 (rowA vk (Tb.keys L) :: refA d s L :: boxA dx [pt d] 54 :: boxA eb [iv dp] 3 :: boxA ob (opL ok oa okey X a0 ni ci) 62 :: boxA px [pt pb] 52 :: boxA pb (pcb b t t' d d' tv wv) 58 :: tabA t s L :: tabA t' s' L' :: refA d' s' L' :: bookA tv wv n :: R) at S5
  clear hK p3 pt0 pd0 c4 hW1 hW2 hW3 hW4 hpx hob heb hdx
  obtain ⟨ka, kc, e, _⟩ := (S5.row k0m).form (by rw [List.length_map, HP.out.2.2.1]; exact HP.out.2.2.2.1)
  rw [List.length_map, HP.out.2.2.1] at e
  subst e
  have S6 := S5.newBox #[.slice (some ka) kn kc] 22
  obtain ⟨kb, hkb⟩ : ∃ kb, w5.heap.size = kb := ⟨_, rfl⟩
  obtain ⟨W6, hW6⟩ : ∃ W6, w5.alloc (.cells #[.slice (some ka) kn kc] 22) = W6 := ⟨_, rfl⟩
  rw [hkb, hW6] at S6
  have S7a := S6.newBox #[iv 0] 3
  obtain ⟨nb, hnb⟩ : ∃ nb, W6.heap.size = nb := ⟨_, rfl⟩
  obtain ⟨W7a, hW7a⟩ : ∃ W7, W6.alloc (.cells #[iv 0] 3) = W7 := ⟨_, rfl⟩
  rw [hnb, hW7a] at S7a
  have d7 : W7a.cell? ⟨nb, 0, none⟩ = some (iv 0) := (S7a.boxGet k0m).cellv 0 _ rfl
  have f7 : W7a.frozen? ⟨nb, 0, none⟩ = false := (S7a.boxGet k0m).frozen 0
  have S7 := S7a.boxPut 0 (iv 0)
  obtain ⟨W7, hW7⟩ : ∃ W7, W7a.setCell ⟨nb, 0, none⟩ (iv 0) = W7 := ⟨_, rfl⟩
  rw [hW7] at S7
  have S8a := S7.newBox #[iv 0] 3
  obtain ⟨sb, hsb⟩ : ∃ sb, W7.heap.size = sb := ⟨_, rfl⟩
  obtain ⟨W8a, hW8a⟩ : ∃ W8, W7.alloc (.cells #[iv 0] 3) = W8 := ⟨_, rfl⟩
  rw [hsb, hW8a] at S8a
  have d8 : W8a.cell? ⟨sb, 0, none⟩ = some (iv 0) := (S8a.boxGet k0m).cellv 0 _ rfl
  have f8 : W8a.frozen? ⟨sb, 0, none⟩ = false := (S8a.boxGet k0m).frozen 0
  have S8 := S8a.boxPut 0 (iv 0)
  obtain ⟨W8, hW8⟩ : ∃ W8, W8a.setCell ⟨sb, 0, none⟩ (iv 0) = W8 := ⟨_, rfl⟩
  rw [hW8] at S8
  have S9 := S8.newBox #[.bool true] 4
  obtain ⟨gb, hgb⟩ : ∃ gb, W8.heap.size = gb := ⟨_, rfl⟩
  obtain ⟨W9, hW9⟩ : ∃ W9, W8.alloc (.cells #[.bool true] 4) = W9 := ⟨_, rfl⟩
  rw [hgb, hW9] at S9
  have HS := Keep.mk (each_order S9)
  clear S5 S6 S7 S8 S9 S7a S8a
  go_wp2_with fail
  refine (each_run w0 W9 m b pb t t' d d' s s' L L' tv wv n kn ka kc R nb kb dx gb sb ob px eb ok oa okey X a0 ni ci dp cs HS.out HP.out.1 HP.out.2.1 HP.out.2.2.1 HP.out.2.2.2.1 HP.out.2.2.2.2.1 HP.out.2.2.2.2.2.1 (by have := HP.out; omega) HO.out).mono ?_
  rintro r w10 ⟨rfl, M, nx, st, n', tv', wv', M', h1, h2, h3, S10⟩
  have HG : Keep (∀ j, nx ≤ j → j < kn → ∃ kj, (Tb.keys L)[j]? = some kj ∧ Tb.look M kj = none) := ⟨h2⟩
  have HN : Keep (nx ≤ kn ∧ n' ≤ n + c) := ⟨h1, by have := HP.out; omega⟩
  have H10 := Keep.mk S10
  have hkn4 : (kn : Int) ≤ 4096 := by have := HP.out; omega
  clear HS HO S10 h1 h2 h3 hW6 hW7 hW8 hW9 hkb hnb hsb hgb hW7a hW8a d7 d8 f7 f8
  go_wp2_with fail
  go_loopw [] (fun wr => ∃ q : Nat, nx ≤ q ∧ q ≤ kn ∧ Keep (Sep w0 wr (tabA t s M :: eaL b pb t t' d d' s s' M M' tv' wv' n' (.slice (some ka) kn kc) (Tb.keys L) (bxs nb kb dx gb sb ob px eb q (.slice (some ka) kn kc) d st (opL ok oa okey X a0 ni ci) pb dp) R)) ∧ Keep (nxOf wr nb = q)) (fun wr => kn - nxOf wr nb)
  case atStart => exact ⟨nx, Nat.le_refl _, HN.out.1, H10, ⟨nxOf_of (H10.out.bxc ea_bx).nx⟩⟩
  case round =>
    clear H10
    obtain ⟨q, hq0, hq1, hR, hM⟩ := hrel
    obtain ⟨b1, b2, b3, b4, b5, b6, b7, b8, b9⟩ := hR.out.bxc ea_bx
    by_cases hlt : q < kn
    · obtain ⟨kq, hkq, hlq⟩ := HG.out q hq0 hlt
      have okM := hR.out.tab k0m
      obtain ⟨a', c', e, hcs⟩ := (hR.out.row (show rowA (.slice (some ka) kn kc) (Tb.keys L) ∈ _ by unfold eaL; simp)).form (by rw [List.length_map, HP.out.2.2.1]; exact HP.out.2.2.2.1)
      injection e with e1 e2 e3
      injection e1 with e1
      subst e1
      have cq := hcs q kq hkq
      have hp : ∀ (z : Nat), Calls Try.prog 42 #[pt d, .string kq] (wr.drewN z) fun r W' => r = .returned (.tuple #[iv 0, .bool false]) ∧ ∃ z2, W' = (wr.drewN z).drewN z2 := fun z => by
        have := rpeek_s kq (hR.out.grown (gr_drewN wr z none)).swap okM.four okM.nk
        rw [hlq] at this
        exact this.mono fun _ _ ⟨h1, h2⟩ => ⟨h1, 0, h2⟩
      have hq2 : (0 : Int) ≤ (q : Int) := by omega
      have hq3 : (q : Int) < (kn : Nat) := by omega
      have htq : ((q : Nat) : Int).toNat = q := by omega
      have hwq : IntKind.i64.wrap ((q : Int) + 1) = ((q + 1 : Nat) : Int) := by rw [wi _ (by omega) (by omega)]; omega
      have HQ : Keep (nx ≤ q ∧ q < kn) := ⟨hq0, hlt⟩
      clear hcs hkq hlq okM e2 e3 hq0 hq1 hlt
      go_wp2_with fail
      go_quiet (((go_at_call 42; with_reducible exact Calls.quiet_of (hp _))))
      generalize hw4 : World.drewN wr _ = w4
      have S4 := hR.out.grown (show wr.grownBy w4 none by rw [← hw4]; exact gr_drewN _ _ _)
      have d1 := (S4.bxc ea_bx).nx
      have f1 := (S4.bxc ea_bx).fn
      have S5 := ea_next S4 (q + 1)
      have HS5 := Keep.mk S5
      have HM := Keep.mk (nxOf_of (S5.bxc ea_bx).nx)
      clear hw4 S4 S5 b1 b2 b3 b4 b5 b6 b7 b8 b9 cq hp hR
      go_wp2_with fail
      have e : ((q : Int) + 1) = ((q + 1 : Nat) : Int) := by simp
      rw [e]
      exact ⟨⟨q + 1, by have := HQ.out; omega, by have := HQ.out; omega, HS5, HM⟩, by rw [HM.out, hM.out]; have := HQ.out; omega⟩
    · obtain rfl : q = kn := by omega
      have HF := Keep.mk (ea_st hR.out)
      clear hR hlt hq0 hq1 hM
      go_wp2_with fail
      go_ret
      exact ⟨rfl, _, _, _, _, n', HN.out.2, HF.out⟩
end Go.Proofs.Ytkaakbldkicnaaa
