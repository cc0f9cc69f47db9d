/- WindowOnce's walk. -/
import Derived.Test.YtollbodeafdhkaaB1
namespace Go.Proofs.Ytollbodeafdhkaa
open Go Go.RowKit Go.Maps
theorem ON.mark {w0 w : World} {b mb h B : Nat} {M : List Nat} {n : Nat} (q : ON w0 w b mb h B M n) (s : Nat) (hs : s < 18446744073709551616) (hc : chk h B s ≠ 0) :
    Calls Try.prog 9 #[.pointer (some ⟨b, 0, none⟩), uv s] w fun e w' => e = .returned (.int .i64 (chk h B s : Nat)) ∧ ON w0 w' b mb h B M n := by
  refine (mark_no b h B s w q.m.k hs hc).mono ?_
  rintro e w' ⟨rfl, g⟩
  exact ⟨rfl, q.kept g⟩
/-- between the Mark and the map's turn -/
theorem ON.fresh {w0 w : World} {b mb h B : Nat} {M : List Nat} {n : Nat} (q : ON w0 w b mb h B M n) (s : Nat) (hs : s < 18446744073709551616) (hn : n < maxLen) (hc : chk h B s = 0) :
    Calls Try.prog 9 #[.pointer (some ⟨b, 0, none⟩), uv s] w fun e w' => e = .returned (.int .i64 0) ∧ (Instr.lookup 27 (.map (some mb)) (uv s) false).run Try.prog w' = .ok (.int .i64 0) w' ∧ ∃ w2 B2, (Instr.mapUpdate 27 (.map (some mb)) (uv s) (.int .i64 1)).run Try.prog w' = .ok () w2 ∧ ON w0 w2 b mb (max h s) B2 (s :: M) (n + 1) := by
  refine (my_mark q.m s hs).mono ?_
  rintro e w' ⟨rfl, m, g⟩
  have hM : s ∉ M := ((q.m.v.chk_zero s).1 hc).2
  have e1 : mkH h B s = max h s := if_pos hc
  have e2 : mkM h B s M = s :: M := if_pos hc
  rw [e1, e2] at m
  obtain ⟨D, o, t⟩ := q.o
  have o' := o.kept g (by simpa using Ne.symm q.ne)
  obtain ⟨c', h1, h2, h3⟩ := o'.lookup_int law24 Try.underlying27 Try.underlying3 (zero3 w') (key24 s hs)
  rw [t.at_, if_neg hM] at h2
  have e : 0 = c' := by simpa using h2
  subst e
  obtain ⟨w2, h4, h5, h6⟩ := o'.update (t := 27) (e := 3) law24 Try.underlying27 hn (key24 s hs) (plainElem_int (a := 1) Try.underlying3 (by decide))
  refine ⟨by rw [hc]; rfl, h1, w2, _, h4, ⟨⟨m.k.kept h6 (by simpa using q.ne), m.v, m.lo, gr_new m.g h6 q.lo⟩, q.lo, q.ne, _, h5, t.put s⟩⟩
theorem ON.more {w0 w : World} {b mb h B : Nat} {M : List Nat} {n : Nat} (q : ON w0 w b mb h B M n) : ON w0 w b mb h B M (n + 1) := by
  obtain ⟨D, o, t⟩ := q.o
  exact ⟨q.m, q.lo, q.ne, D, o.mono (by omega), t⟩
theorem Inv.known {h B : Nat} {M : List Nat} (v : Inv h B M) {s : Nat} (hs : s ∈ M) : chk h B s = 90 ∨ chk h B s = 91 := by
  have := v.le s hs
  rw [v.chk_is, if_neg (by omega), if_pos hs]
  split
  · exact .inl rfl
  · exact .inr rfl
set_option maxRecDepth 100000 in
set_option maxHeartbeats 16000000 in
theorem once_law (a : Option Addr) (n c : Nat) (xs : List Nat) (w : World) (hs : Ns .u64 w a n xs) (hn : n ≤ 9223372036854775807) :
    Calls Try.prog 3 #[.slice a n c] w fun e w' => e = .returned (.bool true) ∧ w.grownBy w' none := by
  have HX := Keep.mk hs
  clear hs
  go_enter Try.func3, Try.ntmps3
  go_wp2_with fail
  refine (alive_c _).mono ?_
  rintro e w1 ⟨rfl, g⟩
  have HO : Keep (ON w ((w1.alloc (.cells #[.int .u64 0, .int .u64 0] 26)).alloc (.map #[] 0)) w1.heap.size (w1.heap.size + 1) 0 0 [] 0) := ⟨by
    have m := MW.new (w0 := w) g
    have hsz := g.size
    refine ⟨m.kept (World.grownBy_alloc _ _ _), by omega, by omega, _, ?_, TM.nil⟩
    have := World.ownsMap_made (H := Unit) (w1.alloc (.cells #[.int .u64 0, .int .u64 0] 26)) Try.prog 24 (plainElem Try.prog 3)
    rwa [World.size_alloc] at this⟩
  clear g
  have hmm := @run_makeMap Try.prog
  go_wp2_with fail
  clear hmm
  generalize (w1.alloc (.cells #[.int .u64 0, .int .u64 0] 26)).alloc (.map #[] 0) = w2 at *
  generalize hmb : w1.heap.size + 1 = mb at *
  generalize w1.heap.size = b at *
  clear hmb
  go_loopw [5, 6] (fun s s2 w' => ∃ (i h B : Nat) (M : List Nat), i ≤ n ∧ s = .int .u64 (h : Nat) ∧ s2 = .int .i64 (i : Nat) ∧ Keep (ON w w' b mb h B M i)) (fun _ s2 _ => n - (intOf s2).toNat)
  case atStart => exact ⟨0, 0, 0, [], by omega, rfl, rfl, HO⟩
  case round =>
    clear HO
    obtain ⟨i, h, B, M, i1, rfl, rfl, HO⟩ := hrel
    by_cases hi : i < n
    · have hia : (i : Int) < (n : Int) := by omega
      obtain ⟨sb, so, x, rfl, hxi, hx, hcc⟩ := HX.out.step hi
      have hx64 : x < 18446744073709551616 := by
        have : (x : Int) < 18446744073709551616 := by simpa [IntKind.bits] using hx
        omega
      have c1 := hcc wr HO.out.m.g
      clear hcc hxi hx
      have hwi : IntKind.i64.wrap ((i : Int) + 1) = ((i + 1 : Nat) : Int) := wi _ (by omega) (by omega)
      have hmx : i < maxLen := by unfold maxLen; omega
      have hh := HO.out.m.k.h1
      by_cases hu : h < x
      · have hui : (h : Int) < (x : Int) := by omega
        have hw : IntKind.u64.wrap ((x : Int) - (h : Int)) = ((x - h : Nat) : Int) := by rw [wu _ (by omega) (by omega)]; omega
        have HD : Keep (chk h B x = if 64 < x - h then 92 else 0) := ⟨by unfold chk; rw [if_pos hu]⟩
        generalize x - h = d at *
        by_cases hd : 64 < d
        · have hdi : (64 : Int) < (d : Int) := by omega
          have HC : Keep (chk h B x = 92) := ⟨by rw [HD.out, if_pos hd]⟩
          clear HD
          go_wp2_with fail
          have cm := HO.out.mark x hx64 (by rw [HC.out]; omega)
          rw [HC.out] at cm
          refine cm.mono ?_
          rintro e w5 ⟨rfl, hO⟩
          replace HO := Keep.mk hO
          clear cm hO c1
          go_wp2_with fail
          refine (num_c _ _).mono ?_
          rintro e w6 ⟨rfl, rfl⟩
          have z0 := HO.out.m.k.has.cellv 0 _ rfl
          have z1 := HO.out.m.k.has.cellv 1 _ rfl
          go_wp2_with fail
          refine (high_c h B _).mono ?_
          rintro e w7 ⟨rfl, g⟩
          replace HO := Keep.mk (HO.out.kept g)
          clear g z0 z1
          go_wp2_with fail
          refine ⟨⟨i + 1, h, B, M, by omega, rfl, rfl, ⟨HO.out.more⟩⟩, ?_⟩
          simp only [intOf]; omega
        · have hdi : ¬ (64 : Int) < (d : Int) := by omega
          have HC : Keep (chk h B x = 0) := ⟨by rw [HD.out, if_neg hd]⟩
          clear HD
          go_wp2_with fail
          have cm := HO.out.fresh x hx64 hmx HC.out
          rw [show max h x = x by omega] at cm
          refine cm.mono ?_
          rintro e w5 ⟨rfl, hlk, w6, B2, hup, hO⟩
          replace HO := Keep.mk hO
          clear cm hO c1
          go_wp2_with fail
          refine (num_c _ _).mono ?_
          rintro e w7 ⟨rfl, rfl⟩
          have z0 := HO.out.m.k.has.cellv 0 _ rfl
          have z1 := HO.out.m.k.has.cellv 1 _ rfl
          go_wp2_with fail
          refine (high_c x B2 _).mono ?_
          rintro e w8 ⟨rfl, g⟩
          replace HO := Keep.mk (HO.out.kept g)
          clear g z0 z1
          go_wp2_with fail
          refine ⟨⟨i + 1, x, B2, _, by omega, rfl, rfl, HO⟩, ?_⟩
          simp only [intOf]; omega
      · have hui : ¬ (h : Int) < (x : Int) := by omega
        have hw : IntKind.u64.wrap ((h : Int) - (x : Int)) = ((h - x : Nat) : Int) := by rw [wu _ (by omega) (by omega)]; omega
        have HD : Keep (chk h B x = if x = 0 ∨ 64 ≤ h - x then 90 else if x ∈ M then 91 else 0) := ⟨by rw [HO.out.m.v.chk_is, if_neg hu]⟩
        generalize h - x = d at *
        by_cases hx0 : x = 0
        · have hzi : ¬ (0 : Int) < (x : Int) := by omega
          have HX0 := Keep.mk hx0
          clear hx0
          have HC : Keep (chk h B x = 90) := ⟨by rw [HD.out, if_pos (.inl HX0.out)]⟩
          clear HD
          go_wp2_with fail
          have cm := HO.out.mark x hx64 (by rw [HC.out]; omega)
          rw [HC.out] at cm
          refine cm.mono ?_
          rintro e w5 ⟨rfl, hO⟩
          replace HO := Keep.mk hO
          clear cm hO c1
          go_wp2_with fail
          refine (num_c _ _).mono ?_
          rintro e w6 ⟨rfl, rfl⟩
          have z0 := HO.out.m.k.has.cellv 0 _ rfl
          have z1 := HO.out.m.k.has.cellv 1 _ rfl
          go_wp2_with fail
          refine (high_c h B _).mono ?_
          rintro e w7 ⟨rfl, g⟩
          replace HO := Keep.mk (HO.out.kept g)
          clear g z0 z1
          go_wp2_with fail
          refine ⟨⟨i + 1, h, B, M, by omega, rfl, rfl, ⟨HO.out.more⟩⟩, ?_⟩
          simp only [intOf]; omega
        have hzi : (0 : Int) < (x : Int) := by omega
        by_cases hd : 64 ≤ d
        · have hdi : ¬ (d : Int) < 64 := by omega
          have HC : Keep (chk h B x = 90) := ⟨by rw [HD.out, if_pos (.inr hd)]⟩
          clear HD
          go_wp2_with fail
          have cm := HO.out.mark x hx64 (by rw [HC.out]; omega)
          rw [HC.out] at cm
          refine cm.mono ?_
          rintro e w5 ⟨rfl, hO⟩
          replace HO := Keep.mk hO
          clear cm hO c1
          go_wp2_with fail
          refine (num_c _ _).mono ?_
          rintro e w6 ⟨rfl, rfl⟩
          have z0 := HO.out.m.k.has.cellv 0 _ rfl
          have z1 := HO.out.m.k.has.cellv 1 _ rfl
          go_wp2_with fail
          refine (high_c h B _).mono ?_
          rintro e w7 ⟨rfl, g⟩
          replace HO := Keep.mk (HO.out.kept g)
          clear g z0 z1
          go_wp2_with fail
          refine ⟨⟨i + 1, h, B, M, by omega, rfl, rfl, ⟨HO.out.more⟩⟩, ?_⟩
          simp only [intOf]; omega
        have hdi : (d : Int) < 64 := by omega
        by_cases hM : x ∈ M
        · have HC : Keep (chk h B x = 91) := ⟨by rw [HD.out, if_neg (by omega), if_pos hM]⟩
          clear HD
          go_wp2_with fail
          have cm := HO.out.mark x hx64 (by rw [HC.out]; omega)
          rw [HC.out] at cm
          refine cm.mono ?_
          rintro e w5 ⟨rfl, hO⟩
          replace HO := Keep.mk hO
          clear cm hO c1
          go_wp2_with fail
          refine (num_c _ _).mono ?_
          rintro e w6 ⟨rfl, rfl⟩
          have hlk := HO.out.look x hx64 1 (if_pos hM)
          have z0 := HO.out.m.k.has.cellv 0 _ rfl
          have z1 := HO.out.m.k.has.cellv 1 _ rfl
          go_wp2_with fail
          refine (high_c h B _).mono ?_
          rintro e w7 ⟨rfl, g⟩
          replace HO := Keep.mk (HO.out.kept g)
          clear g z0 z1
          go_wp2_with fail
          refine ⟨⟨i + 1, h, B, M, by omega, rfl, rfl, ⟨HO.out.more⟩⟩, ?_⟩
          simp only [intOf]; omega
        · have HC : Keep (chk h B x = 0) := ⟨by rw [HD.out, if_neg (by omega), if_neg hM]⟩
          clear HD
          go_wp2_with fail
          have cm := HO.out.fresh x hx64 hmx HC.out
          rw [show max h x = h by omega] at cm
          refine cm.mono ?_
          rintro e w5 ⟨rfl, hlk, w6, B2, hup, hO⟩
          replace HO := Keep.mk hO
          clear cm hO c1
          go_wp2_with fail
          refine (num_c _ _).mono ?_
          rintro e w7 ⟨rfl, rfl⟩
          have z0 := HO.out.m.k.has.cellv 0 _ rfl
          have z1 := HO.out.m.k.has.cellv 1 _ rfl
          go_wp2_with fail
          refine (high_c h B2 _).mono ?_
          rintro e w8 ⟨rfl, g⟩
          replace HO := Keep.mk (HO.out.kept g)
          clear g z0 z1
          go_wp2_with fail
          refine ⟨⟨i + 1, h, B2, _, by omega, rfl, rfl, HO⟩, ?_⟩
          simp only [intOf]; omega
    · have hia : ¬ (i : Int) < (n : Int) := by omega
      obtain ⟨D, o, t⟩ := HO.out.o
      have HT : Keep (TM D M ∧ b ≠ mb ∧ w.heap.size ≤ mb) := ⟨t, HO.out.ne, HO.out.lo⟩
      have HM := Keep.mk HO.out.m
      clear HO t
      have HS : Keep (b < wr.heap.size ∧ mb < wr.heap.size ∧ w.heap.size ≤ wr.heap.size) := ⟨HM.out.k.has.lt, o.lt, HM.out.g.size⟩
      go_wp2_with (first
        | (at_range; refine wpList_range_own _ rfl _ 27 rfl 24 3 law24 Try.underlying27 _ mb i D rfl o ?_; intro w9 hrg0 hg0 hs0)
        | fail)
      replace HM := Keep.mk (HM.out.kept hg0)
      generalize hr : wr.heap.size = r at *
      go_loopw [10] (fun _ w' => ∃ (left : Lit → Bool) (cnt : Nat), w'.ranges Try.prog 24 (plainElem Try.prog 3) mb r i D left cnt ∧ (∀ kl, left kl = true → Maps.has D kl = true) ∧ Keep (MW w w' b h B M)) (fun _ w' => w'.rangeLeft mb r)
      case atStart => exact ⟨_, _, hrg0, fun _ q => q, HM⟩
      case round =>
        clear HM hrg0 hg0 hs0
        obtain ⟨left, cnt, hrg, hlf, HM⟩ := hrel
        go_wp2_with (first
          | (at_next; refine wpList_next_ranges_ii _ rfl _ rfl 24 3 .u64 .i64 law24 Try.underlying24 Try.underlying3 mb r i _ _ _ rfl hrg ?_ ?_)
          | fail)
        · intro _ hl0
          go_wp2_with fail
          go_ret
          exact ⟨rfl, HM.out.g⟩
        · intro x cc w10 cnt1 hwx hwc hlx hat hrg1 hlt hg1 hs1 hen
          obtain ⟨m, hm, rfl⟩ := HT.out.1.has x (hlf _ hlx)
          have hml : m < 18446744073709551616 := by have := HM.out.v.le m hm; have := HM.out.k.h1; omega
          have HK := Keep.mk (HM.out.v.known hm)
          have HRG := Keep.mk hrg1
          have HLF : Keep (∀ kl, (left kl && !kl.sameKey (.int .u64 (m : Int))) = true → Maps.has D kl = true) := ⟨fun kl q => hlf kl (by simp at q; exact q.1)⟩
          have HME : Keep (cnt1 < cnt ∧ wr.rangeLeft mb r = cnt) := ⟨hlt, hrg.left_eq⟩
          replace HM := Keep.mk (HM.out.other hg1 (by have := HS.out; omega) (by have := HS.out; omega))
          clear hlf hrg hat hwx hwc hlx hrg1 hlt hg1 hs1 hm
          have z0 := HM.out.k.has.cellv 0 _ rfl
          have z1 := HM.out.k.has.cellv 1 _ rfl
          go_wp2_with fail
          refine (check_c h B m _ HM.out.k.h1 HM.out.k.b1 hml).mono ?_
          rintro e w11 ⟨rfl, g⟩
          replace HM := Keep.mk (HM.out.kept g)
          replace HRG := Keep.mk (HRG.out.kept g (by simp) (by simp))
          clear g z0 z1 hen
          generalize chk h B m = k at *
          go_wp2_with fail
          refine (num_c _ _).mono ?_
          rintro e w12 ⟨rfl, rfl⟩
          rcases HK.out with rfl | rfl
          all_goals
            clear HK
            go_wp2_with fail
            refine ⟨⟨_, _, HRG.out, HLF.out, HM⟩, ?_⟩
            rw [HRG.out.left_eq, HME.out.2]; exact HME.out.1
end Go.Proofs.Ytollbodeafdhkaa
