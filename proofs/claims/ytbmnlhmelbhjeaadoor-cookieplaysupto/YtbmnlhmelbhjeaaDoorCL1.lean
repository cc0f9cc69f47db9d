/- CookieEchoed's walk -/
import Derived.Test.YtbmnlhmelbhjeaaDoorCL0
namespace Go.Proofs.YtbmnlhmelbhjeaaDoor
open Go Go.RowKit

/-- a jar of the call's own, behind i turns -/
structure JW (w w' : World) (b : Nat) (seed : ByteArray) (cs : List ByteArray) (i : Nat) : Prop where
  j : JR w' b (secAt seed cs i) (aheadAt seed cs i)
  g : w.grownBy w' none
  k : Kc w'
  hb : w.heap.size ≤ b
  b0 : 0 ≠ b
theorem JW.grow {w w' w2 : World} {b : Nat} {seed : ByteArray} {cs : List ByteArray} {i : Nat} (h : JW w w' b seed cs i) (g : w'.grownBy w2 none) : JW w w2 b seed cs i :=
  ⟨h.j.kept g (by simp), h.g.trans g, h.k.kept g (by simp), h.hb, h.b0⟩
theorem JW.other {w w' w2 : World} {b c : Nat} {seed : ByteArray} {cs : List ByteArray} {i : Nat} (h : JW w w' b seed cs i) (g : w'.grownBy w2 (some c)) (hc : w.heap.size ≤ c) (hbc : b ≠ c) (h0 : 0 < w.heap.size) : JW w w2 b seed cs i :=
  ⟨h.j.kept g (by simpa using hbc), gr_new h.g g hc, h.k.kept g (by simp; omega), h.hb, h.b0⟩
theorem JW.turned {w w' w2 : World} {b : Nat} {seed : ByteArray} {cs : List ByteArray} {i : Nat} {c : ByteArray} (h : JW w w' b seed cs i) (hc : cs[i]? = some c) (h2 : JR w2 b (turnS (secAt seed cs i) c) (secAt seed cs i)) (g : w'.grownBy w2 (some b)) : JW w w2 b seed cs (i + 1) :=
  ⟨by
    have e : secAt seed cs (i + 1) = turnS (secAt seed cs i) c := by rw [secAt, List.getD_eq_getElem?_getD, hc]; rfl
    rw [e]; exact h2, gr_new h.g g h.hb, h.k.kept g (by simpa using h.b0), h.hb, h.b0⟩
/-- the jar, and a row of what was baked -/
structure EC (w w' : World) (b base : Nat) (seed f : ByteArray) (cs : List ByteArray) (v : Value) (i nb : Nat) : Prop where
  j : JW w w' b seed cs i
  o : w'.ownsRow base 9 1 v nb ((bakedL seed cs f nB nb).map .string)
  lb : b < base
  l2 : base ≤ w'.heap.size
theorem EC.grow {w w' w2 : World} {b base : Nat} {seed f : ByteArray} {cs : List ByteArray} {v : Value} {i nb : Nat} (h : EC w w' b base seed f cs v i nb) (g : w'.grownBy w2 none) : EC w w2 b base seed f cs v i nb :=
  ⟨h.j.grow g, h.o.kept g (by cases v.ownBlock <;> simp), h.lb, Nat.le_trans h.l2 g.size⟩
theorem EC.app {w w' : World} {b base : Nat} {seed f : ByteArray} {cs : List ByteArray} {v : Value} {i : Nat} (h : EC w w' b base seed f cs v i i) (hi : i ≤ 1000) (h0 : 0 < w.heap.size) :
    ∃ a' c' w2, (Builtin.append_ #[22, 22] 22 #[v, .slice (some ⟨w'.heap.size, 0, none⟩) 1 1]).run Tryd.prog (w'.alloc (.cells #[.string (bakeS (secAt seed cs i) f nB)] 9)) = .ok (.slice a' (i + 1) c') w2 ∧ EC w w2 b base seed f cs (.slice a' (i + 1) c') i (i + 1) := by
  obtain ⟨a', c', w2, r1, r2, r3⟩ := apps1 w' base v i _ (bakeS (secAt seed cs i) f nB) h.o hi h.l2
  rw [bakedL_snoc] at r2
  refine ⟨a', c', w2, r1, ?_, r2, h.lb, Nat.le_trans h.l2 r3.size⟩
  generalize hob : v.ownBlock = ob at r3
  cases ob with
  | none => exact h.j.grow r3
  | some k =>
    have hk := (h.o.lt k hob).1
    have := h.lb; have := h.j.hb
    exact h.j.other r3 (by omega) (by omega) h0
theorem EC.turned {w w' w2 : World} {b base : Nat} {seed f : ByteArray} {cs : List ByteArray} {v : Value} {i nb : Nat} {c : ByteArray} (h : EC w w' b base seed f cs v i nb) (hc : cs[i]? = some c) (h2 : JR w2 b (turnS (secAt seed cs i) c) (secAt seed cs i)) (g : w'.grownBy w2 (some b)) : EC w w2 b base seed f cs v (i + 1) nb :=
  ⟨h.j.turned hc h2 g, h.o.kept g (by
    cases hob : v.ownBlock with
    | none => simp
    | some k => have := (h.o.lt k hob).1; have := h.lb; simp; omega), h.lb, Nat.le_trans h.l2 g.size⟩

set_option maxRecDepth 100000 in
set_option maxHeartbeats 8000000 in
theorem echoed_c (seed f : ByteArray) (a : Option Addr) (n c : Nat) (cs : List ByteArray) (w : World) (hk : Kc w) (hp : Strs w a n cs) (hnc : n ≤ c) (hac : a = none → c = 0) (hs : seed.size ≤ 2305843009213693952) (hf : f.size ≤ 9223372036854775807) (hps : ∀ (j : Nat) (p : ByteArray), cs[j]? = some p → p.size ≤ 9223372036854775807) :
    Calls Tryd.prog 3 #[.string seed, .slice a n c, .string f] w fun e w' => e = .returned (.bool true) ∧ w.grownBy w' none := by
  have HK : Keep (Kc w) := ⟨hk⟩
  have h0 := hk.lt
  have HP : Keep (Strs w a n cs) := ⟨hp⟩
  have HPS : Keep (∀ (j : Nat) (p : ByteArray), cs[j]? = some p → p.size ≤ 9223372036854775807) := ⟨hps⟩
  clear hk hp hps
  go_enter Tryd.func3, Tryd.ntmps3
  go_wp2_with fail
  refine (alive_c _ HK.out).mono ?_
  rintro e w1 ⟨rfl, g1⟩
  have H1 : Keep (w.grownBy w1 none ∧ Kc w1) := ⟨g1, HK.out.kept g1 (by simp)⟩
  clear g1
  go_wp2_with fail
  refine (few_c a n c 60 _ hnc (by decide) hac).mono ?_
  rintro e w2 ⟨rfl, g2⟩
  have H2 : Keep (w.grownBy w2 none ∧ Kc w2) := ⟨H1.out.1.trans g2, H1.out.2.kept g2 (by simp)⟩
  obtain ⟨m, hm⟩ : ∃ m, m = min n 60 := ⟨_, rfl⟩
  rw [← hm]
  have hm60 : m ≤ 60 := by omega
  have hmn : m ≤ n := by omega
  clear g2 H1 hm
  go_wp2_with fail
  refine (new_c seed _ H2.out.2 hs).mono ?_
  rintro e w3 ⟨b, rfl, h3, g3, hb⟩
  have HE : Keep (EC w w3 b w3.heap.size seed f cs (.slice none 0 0) 0 0) := ⟨⟨h3, H2.out.1.trans g3, H2.out.2.kept g3 (by simp), Nat.le_trans H2.out.1.size hb, by have := H2.out.1.size; omega⟩, ⟨rfl, .inl ⟨rfl, rfl⟩⟩, h3.lt, Nat.le_refl _⟩
  generalize w3.heap.size = base at HE
  clear h3 g3 hb H2
  go_wp2_with fail
  go_loopw [8, 9] (fun v t w' => ∃ i : Nat, i ≤ m + 1 ∧ t = .int .i64 i ∧ Keep (EC w w' b base seed f cs v (min i m) i)) (fun _ t _ => m + 1 - (intOf t).toNat)
  case atStart => exact ⟨0, by omega, rfl, by rw [Nat.zero_min]; exact HE⟩
  case round =>
    obtain ⟨i, hi, rfl, hrel⟩ := hrel
    by_cases hli : i ≤ m
    · rw [Nat.min_eq_left hli] at hrel
      have HR := hrel
      clear hrel
      go_wp2_with fail
      refine (jbake_i b _ _ f nB _ _ rfl HR.out.j.j HR.out.j.k hf (by decide)).mono ?_
      rintro e w4 ⟨rfl, g4⟩
      obtain ⟨a', c', w5, r1, h5⟩ := (HR.out.grow g4).app (by omega) h0
      have HAP := Keep.mk r1
      have H5 := Keep.mk h5
      generalize bakeS (secAt seed cs i) f nB = bk at HAP ⊢
      clear g4 r1 h5 HR
      go_wp2_with (at_builtin; refine wpList_append_run _ rfl _ _ 22 rfl _ _ rfl rfl HAP.out ?_)
      clear HAP
      go_loopw [10] (fun t w' => ∃ k : Nat, k ≤ i + 1 ∧ t = .int .i64 k ∧ Keep (EC w w' b base seed f cs (.slice a' (i + 1) c') i (i + 1))) (fun t _ => i + 1 - (intOf t).toNat)
      case atStart => exact ⟨0, by omega, rfl, H5⟩
      case round =>
        obtain ⟨k, hk, rfl, hin⟩ := hrel
        by_cases hlk : k ≤ i
        · obtain ⟨g, cap, e1, hg1, hg2, hg3⟩ := own_str hin.out.o (by omega)
          injection e1 with x1 x2 x3
          subst x1 x3
          have hc := hg3 k _ (bakedL_at seed cs f nB (i + 1) k (by omega))
          have HX := Keep.mk (echo_at seed cs f nB i k (by omega) hlk)
          generalize bakeS (secAt seed cs k) f nB = bk at hc HX
          clear hg3
          by_cases hd : i ≤ k + 1
          · have HX2 : Keep (chkS (secAt seed cs i) (aheadAt seed cs i) f nB (k + 1) bk = 0) := ⟨by rw [HX.out, if_pos hd]⟩
            go_wp2_with fail
            refine (check_i b (k + 1) _ _ _ f nB bk _ _ (by omega) HX2.out hin.out.j.j hin.out.j.k hf (by decide)).mono ?_
            rintro e w6 ⟨rfl, g6⟩
            have H6 := Keep.mk (hin.out.grow g6)
            clear hin g6 HX HX2
            go_wp2_with fail
            refine ⟨⟨k + 1, by omega, by go_num, H6⟩, ?_⟩
            simp [intOf]; omega
          · have HX2 : Keep (chkS (secAt seed cs i) (aheadAt seed cs i) f nB (k + 1) bk = 100) := ⟨by rw [HX.out, if_neg hd]⟩
            go_wp2_with fail
            refine (check_i b (k + 1) _ _ _ f nB bk _ _ (by omega) HX2.out hin.out.j.j hin.out.j.k hf (by decide)).mono ?_
            rintro e w6 ⟨rfl, g6⟩
            have H6 := Keep.mk (hin.out.grow g6)
            clear hin g6 HX HX2
            go_wp2_with fail
            refine ⟨⟨k + 1, by omega, by go_num, H6⟩, ?_⟩
            simp [intOf]; omega
        · by_cases hlm : i < m
          · obtain ⟨B, o, rfl, hat⟩ := HP.out.at_ (by omega)
            have hpl := HP.out.len
            obtain ⟨p, hp⟩ : ∃ p, cs[i]? = some p := ⟨_, List.getElem?_eq_getElem (by omega)⟩
            have hc : wr.cell? ⟨B, o + i, none⟩ = some (.string p) := hin.out.j.g.cell (hat i p hp) (by simp)
            have NL : Keep (beN ((secAt seed cs i).take 8) < 18446744073709551615) := ⟨by rw [(ep_at seed cs i (by omega)).now]; omega⟩
            have HC := Keep.mk hp
            clear hat hp
            go_wp2_with fail
            refine (turn_c b _ _ p _ hin.out.j.j hin.out.j.k NL.out (HPS.out i p HC.out)).mono ?_
            rintro e w6 ⟨rfl, h6, g6⟩
            have H6 := Keep.mk (hin.out.turned HC.out h6 g6)
            clear hin h6 g6
            go_wp2_with fail
            refine ⟨⟨i + 1, by omega, by go_num, by rw [Nat.min_eq_left (by omega)]; exact H6⟩, ?_⟩
            simp [intOf]; omega
          · have H6 := hin
            clear hin
            go_wp2_with fail
            refine ⟨⟨i + 1, by omega, by go_num, by rw [show min (i + 1) m = i by omega]; exact H6⟩, ?_⟩
            simp [intOf]; omega
    · have HG := Keep.mk hrel.out.j.g
      clear hrel
      go_wp2_with fail
      go_ret
      exact ⟨rfl, HG.out⟩
end Go.Proofs.YtbmnlhmelbhjeaaDoor
