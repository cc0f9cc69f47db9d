/- scripts; CookieOne's walk -/
import Derived.Test.YtbmnlhmelbhjeaaDoorCL1
namespace Go.Proofs.YtbmnlhmelbhjeaaDoor
open Go Go.RowKit

structure OpR where
  kind : Int
  which : Int
  A : ByteArray
  B : ByteArray
  C : ByteArray
  ep : Nat
  own : Bool
  turned : Int
def OpR.vals (o : OpR) : List Value := [.int .i64 o.kind, .int .i64 o.which, .string o.A, .string o.B, .string o.C, .int .u64 o.ep, .bool o.own, .int .i64 o.turned]
structure OpR.Ok (o : OpR) : Prop where
  a : o.A.size ≤ 9223372036854775807
  b : o.B.size ≤ 9223372036854775807
  e : o.ep < 18446744073709551616
  w : -9223372036854775808 ≤ o.which ∧ o.which < 9223372036854775808
  t : -9223372036854775808 ≤ o.turned ∧ o.turned < 9223372036854775808
/-- a script as it is handed in -/
structure Scr (w : World) (a : Option Addr) (n : Nat) (xs : List OpR) : Prop where
  len : xs.length = n
  ok : ∀ o ∈ xs, o.Ok
  at_ : 0 < n → ∃ B k, a = some ⟨B, k, none⟩ ∧ ∀ j o, xs[j]? = some o → w.rangeAt B (k + j * 8) o.vals
theorem range_kept {w w' : World} {b o : Nat} {cs : List Value} (h : w.rangeAt b o cs) (g : w.grownBy w' none) : w'.rangeAt b o cs := fun j v hv => g.cell (h j v hv) (by simp)
theorem Scr.get {w : World} {a : Option Addr} {n : Nat} {xs : List OpR} (h : Scr w a n xs) {i : Nat} (hi : i < n) : ∃ B k o, a = some ⟨B, k, none⟩ ∧ xs[i]? = some o ∧ o.Ok ∧ w.rangeAt B (k + i * 8) o.vals := by
  obtain ⟨B, k, e, hc⟩ := h.at_ (by omega)
  have ho : xs[i]? = some (xs[i]'(by rw [h.len]; exact hi)) := List.getElem?_eq_getElem _
  exact ⟨B, k, _, e, ho, h.ok _ (List.mem_of_getElem? ho), hc i _ ho⟩
def zop : Array Value := #[.int .i64 0, .int .i64 0, .string ⟨#[]⟩, .string ⟨#[]⟩, .string ⟨#[]⟩, .int .u64 0, .bool false, .int .i64 0]
set_option maxRecDepth 100000 in
theorem zero40t : ∀ W : World, (zeroValue 40).run Tryd.prog W = .ok (.agg zop) W :=
  (zero_of_info (P := Tryd.prog) (t := 40) (v := .agg zop) (n := 8) (by kernel_rfl)).1
set_option maxRecDepth 100000 in
theorem underOp : ∃ d, Tryd.prog.underlying 40 = some d ∧ d.isRow = true := by
  have h : (Tryd.prog.underlying 40).map TypeDesc.isRow = some true := by kernel_rfl
  cases hq : Tryd.prog.underlying 40 with
  | none => simp [hq] at h
  | some d => exact ⟨d, rfl, by simpa [hq] using h⟩
set_option maxRecDepth 100000 in
theorem sizeOp : (Tryd.prog.info? 40).map (·.size) = some 8 := by kernel_rfl
theorem vals_one (o : OpR) : o.vals.toArray.all (·.oneCell') = true := by
  refine all_oneCell_toArray fun v hv => ?_
  simp only [OpR.vals, List.mem_cons, List.not_mem_nil, or_false] at hv
  rcases hv with rfl | rfl | rfl | rfl | rfl | rfl | rfl | rfl <;> rfl
theorem opVar (w1 : World) (o : OpR) (w2 : World) (h : (w1.alloc (.cells zop 40)).setCells w1.heap.size 0 o.vals = w2) : Has w2 w1.heap.size o.vals 40 ∧ w1.grownBy w2 none := by
  subst h
  exact ⟨(Has.newA w1 zop 40).setAll _ rfl, gr_new (World.grownBy_alloc _ _ _) (gr_sets _ _ _ _) (Nat.le_refl _)⟩

/-- a third jar: any secret -/
structure JX (w w' : World) (b : Nat) (m : Nat) : Prop where
  x : ∃ s a e, JR w' b s a ∧ Ep s a e ∧ e ≤ m
  hb : w.heap.size ≤ b
theorem JX.grow {w w' w2 : World} {b m : Nat} (h : JX w w' b m) (g : w'.grownBy w2 none) : JX w w2 b m := by
  obtain ⟨⟨s, a, e, h1, h2, h3⟩, hb⟩ := h
  exact ⟨⟨s, a, e, h1.kept g (by simp), h2, h3⟩, hb⟩
theorem JX.other {w w' w2 : World} {b c m : Nat} (h : JX w w' b m) (g : w'.grownBy w2 (some c)) (hbc : b ≠ c) : JX w w2 b m := by
  obtain ⟨⟨s, a, e, h1, h2, h3⟩, hb⟩ := h
  exact ⟨⟨s, a, e, h1.kept g (by simpa using hbc), h2, h3⟩, hb⟩
/-- where CookieOne stands -/
structure OW (w w' : World) (x y z : Nat) (seed : ByteArray) (cs : List ByteArray) (i m : Nat) : Prop where
  a : JW w w' x seed cs i
  b : JW w w' y seed cs i
  c : JX w w' z m
  n1 : x ≠ y
  n2 : x ≠ z
  n3 : y ≠ z
theorem OW.grow {w w' w2 : World} {x y z : Nat} {seed : ByteArray} {cs : List ByteArray} {i m : Nat} (h : OW w w' x y z seed cs i m) (g : w'.grownBy w2 none) : OW w w2 x y z seed cs i m :=
  ⟨h.a.grow g, h.b.grow g, h.c.grow g, h.n1, h.n2, h.n3⟩
theorem OW.third {w w' w2 : World} {x y z : Nat} {seed : ByteArray} {cs : List ByteArray} {i m m' : Nat} (h : OW w w' x y z seed cs i m) (g : w'.grownBy w2 (some z)) (h0 : 0 < w.heap.size) (h2 : ∃ s a e, JR w2 z s a ∧ Ep s a e ∧ e ≤ m') : OW w w2 x y z seed cs i m' :=
  ⟨h.a.other g h.c.hb h.n2 h0, h.b.other g h.c.hb h.n3 h0, ⟨h2, h.c.hb⟩, h.n1, h.n2, h.n3⟩
theorem OW.weak {w w' : World} {x y z : Nat} {seed : ByteArray} {cs : List ByteArray} {i m m' : Nat} (h : OW w w' x y z seed cs i m) (hm : m ≤ m') : OW w w' x y z seed cs i m' := by
  obtain ⟨s, a, e, h1, h2, h3⟩ := h.c.x
  exact ⟨h.a, h.b, ⟨⟨s, a, e, h1, h2, by omega⟩, h.c.hb⟩, h.n1, h.n2, h.n3⟩

def bangB : ByteArray := { data := #[33] }
set_option maxRecDepth 100000 in
set_option maxHeartbeats 8000000 in
theorem one_c (seed : ByteArray) (a : Option Addr) (n c : Nat) (cs : List ByteArray) (ao : Option Addr) (no co : Nat) (xs : List OpR) (w : World) (hk : Kc w) (hp : Strs w a n cs) (hx : Scr w ao no xs) (hno : no ≤ 9223372036854775807) (hnc : n ≤ c) (hac : a = none → c = 0) (hs : seed.size ≤ 1152921504606846976) (hps : ∀ (j : Nat) (p : ByteArray), cs[j]? = some p → p.size ≤ 9223372036854775807) :
    Calls Tryd.prog 5 #[.string seed, .slice a n c, .slice ao no co] w fun e w' => e = .returned (.bool true) ∧ w.grownBy w' none := by
  have HK : Keep (Kc w) := ⟨hk⟩
  have h0 := hk.lt
  have HP : Keep (Strs w a n cs) := ⟨hp⟩
  have HO : Keep (Scr w ao no xs) := ⟨hx⟩
  have HPS : Keep (∀ (j : Nat) (p : ByteArray), cs[j]? = some p → p.size ≤ 9223372036854775807) := ⟨hps⟩
  have hadd := addS seed bangB (by have : bangB.size = 1 := rfl
                                   omega)
  have HBS : Keep ((seed ++ bangB).size ≤ 2305843009213693952) := ⟨by rw [ByteArray.size_append]; have : bangB.size = 1 := rfl
                                                                      omega⟩
  have hz := zero40t
  obtain ⟨d40, U1, U2⟩ := underOp
  have HU := Keep.mk (And.intro U1 U2)
  clear hk hp hps hx U1 U2
  go_enter Tryd.func5, Tryd.ntmps5
  go_wp2_with fail
  refine (alive_c _ HK.out).mono ?_
  rintro e w1 ⟨rfl, g1⟩
  have H1 : Keep (w.grownBy w1 none ∧ Kc w1) := ⟨g1, HK.out.kept g1 (by simp)⟩
  clear g1
  go_wp2_with fail
  refine (few_c a n c 30 _ hnc (by decide) hac).mono ?_
  rintro e w2 ⟨rfl, g2⟩
  have H2 : Keep (w.grownBy w2 none ∧ Kc w2) := ⟨H1.out.1.trans g2, H1.out.2.kept g2 (by simp)⟩
  obtain ⟨m, hm⟩ : ∃ m, m = min n 30 := ⟨_, rfl⟩
  rw [← hm]
  have hm60 : m ≤ 30 := by omega
  have hmn : m ≤ n := by omega
  clear g2 H1 hm
  go_wp2_with fail
  refine (new_c seed _ H2.out.2 (by omega)).mono ?_
  rintro e w3 ⟨x, rfl, h3, g3, hb⟩
  have HA : Keep (JW w w3 x seed cs 0) := ⟨h3, H2.out.1.trans g3, H2.out.2.kept g3 (by simp), Nat.le_trans H2.out.1.size hb, by have := H2.out.1.size; omega⟩
  clear h3 g3 hb H2
  go_wp2_with fail
  refine (new_c seed _ HA.out.k (by omega)).mono ?_
  rintro e w4 ⟨y, rfl, h4, g4, hb⟩
  have HB : Keep (JW w w4 x seed cs 0 ∧ JW w w4 y seed cs 0 ∧ x ≠ y ∧ x < w4.heap.size ∧ y < w4.heap.size) := ⟨HA.out.grow g4, ⟨h4, HA.out.g.trans g4, HA.out.k.kept g4 (by simp), Nat.le_trans HA.out.g.size hb, by have := HA.out.g.size; omega⟩, by have := HA.out.j.lt; omega, by have := HA.out.j.lt; have := g4.size; omega, h4.lt⟩
  clear h4 g4 hb HA
  go_wp2_with fail
  refine (new_c (seed ++ bangB) _ HB.out.1.k HBS.out).mono ?_
  rintro e w5 ⟨z, rfl, h5, g5, hb⟩
  have HW : Keep (OW w w5 x y z seed cs 0 1) := ⟨HB.out.1.grow g5, HB.out.2.1.grow g5, ⟨⟨_, _, 1, h5, Ep.start _, Nat.le_refl _⟩, by have := HB.out.1.g.size; omega⟩, HB.out.2.2.1, by have := HB.out.2.2.2; omega, by have := HB.out.2.2.2; omega⟩
  clear h5 g5 hb HB
  go_wp2_with fail
  go_loopw [10] (fun t w' => ∃ i : Nat, i ≤ m + 1 ∧ t = .int .i64 i ∧ Keep (OW w w' x y z seed cs (min i m) (12 * i + 1))) (fun t _ => m + 1 - (intOf t).toNat)
  case atStart => exact ⟨0, by omega, rfl, by rw [Nat.zero_min]; exact HW⟩
  case round =>
    obtain ⟨i, hi, rfl, hrel⟩ := hrel
    by_cases hli : i ≤ m
    · rw [Nat.min_eq_left hli] at hrel
      have HR := hrel
      clear hrel
      go_wp2_with fail
      go_loopw [11] (fun t w' => ∃ k : Nat, k ≤ 12 ∧ k ≤ no ∧ t = .int .i64 k ∧ Keep (OW w w' x y z seed cs i (12 * i + k + 1))) (fun t _ => 12 - (intOf t).toNat)
      case atStart => exact ⟨0, by omega, by omega, rfl, HR⟩
      case round =>
        obtain ⟨k, hk, hkn, rfl, hin⟩ := hrel
        by_cases hlk : k < no ∧ k < 12
        · obtain ⟨hk1, hk2⟩ := hlk
          obtain ⟨B, q, o, rfl, _, hok, hrg⟩ := HO.out.get hk1
          have HRG := Keep.mk (range_kept hrg hin.out.a.g)
          have HOK := Keep.mk hok
          have HI : Keep ((Tryd.prog.info? 40).map (·.size) = some o.vals.length) := ⟨sizeOp⟩
          clear hrg hok
          go_wp2_with (first
            | (show wpList _ _ _ ({ dst := _, op := Op.load 40 _, type := _, pos := _, after := _, guard := _ } :: _) _ _; refine wpList_load_mid rfl 40 _ rfl B (q + k * 8) rfl o.vals d40 HRG.out HU.out.1 HU.out.2 HI.out ?_)
            | (show wpList _ _ _ ({ dst := _, op := Op.store 40 _ _, type := _, pos := _, after := _, guard := _ } :: _) _ _; refine wpList_store_mid rfl 40 _ _ rfl _ _ _ rfl rfl ((Has.newA wr zop 40).there 0 _ (Nat.le_refl 8)) HI.out (vals_one o) ?_
               generalize hw6 : World.setCells _ _ _ _ = w6
               obtain ⟨h6, g6⟩ := opVar wr o w6 hw6
               have H6 := Keep.mk (And.intro h6 (hin.out.grow g6))
               have c2 : w6.cell? ⟨wr.heap.size, 2, none⟩ = some (.string o.A) := h6.cellv 2 _ rfl
               have c3 : w6.cell? ⟨wr.heap.size, 3, none⟩ = some (.string o.B) := h6.cellv 3 _ rfl
               have c4 : w6.cell? ⟨wr.heap.size, 4, none⟩ = some (.string o.C) := h6.cellv 4 _ rfl
               have c5 : w6.cell? ⟨wr.heap.size, 5, none⟩ = some (.int .u64 o.ep) := h6.cellv 5 _ rfl
               clear hw6 h6 g6 hin))
          refine (check_c x o.ep _ _ o.A o.B o.C _ H6.out.2.a.j H6.out.2.a.k HOK.out.a HOK.out.b).mono ?_
          rintro e w7 ⟨rfl, g7⟩
          have H7 := Keep.mk (And.intro (H6.out.1.kept g7 (by simp)) (H6.out.2.grow g7))
          have b2 : w7.cell? ⟨wr.heap.size, 2, none⟩ = some (.string o.A) := H7.out.1.cellv 2 _ rfl
          have b3 : w7.cell? ⟨wr.heap.size, 3, none⟩ = some (.string o.B) := H7.out.1.cellv 3 _ rfl
          clear H6 g7 c2 c3 c4 c5
          generalize chkS _ _ _ _ _ _ = ck
          go_wp2_with fail
          refine (jbake_c x _ _ o.B o.A _ H7.out.2.a.j H7.out.2.a.k HOK.out.b HOK.out.a).mono ?_
          rintro e w8 ⟨rfl, g8⟩
          have H8 := Keep.mk (And.intro (H7.out.1.kept g8 (by simp)) (H7.out.2.grow g8))
          have d2 : w8.cell? ⟨wr.heap.size, 2, none⟩ = some (.string o.A) := H8.out.1.cellv 2 _ rfl
          clear H7 g8 b2 b3
          generalize bakeS _ _ _ = bk
          obtain ⟨s9, a9, e9, j9, ep9, le9⟩ := H8.out.2.c.x
          have H9 := Keep.mk (And.intro j9 (And.intro ep9 le9))
          clear j9 ep9 le9
          go_wp2_with fail
          refine (turn_c z s9 a9 o.A _ H9.out.1 H8.out.2.a.k (by rw [H9.out.2.1.now]; have := H9.out.2.2; omega) HOK.out.a).mono ?_
          rintro e w9 ⟨rfl, h9, g9⟩
          have HN := Keep.mk (H8.out.2.third (m' := 12 * i + (k + 1) + 1) g9 h0 ⟨_, _, e9 + 1, h9, H9.out.2.1.turn (by have := H9.out.2.2; omega) _, by have := H9.out.2.2; omega⟩)
          clear H8 H9 h9 g9 d2
          go_wp2_with fail
          refine ⟨⟨k + 1, by omega, by omega, by go_num, HN⟩, ?_⟩
          simp [intOf]; omega
        · have HQ := Keep.mk (hin.out.weak (m' := 12 * (i + 1) + 1) (by omega))
          have E1 := ep_at seed cs i (by omega)
          have N1 : Keep (((beN ((secAt seed cs i).take 8) : Nat) : Int) = ((i + 1 : Nat) : Int)) := ⟨by rw [E1.now]⟩
          have F1 : Keep (chkS (secAt seed cs i) (aheadAt seed cs i) xB nB (i + 1) (bakeS (secAt seed cs i) xB nB) = 0) := ⟨by rw [E1.chk_now, if_pos rfl]⟩
          have NL : Keep (beN ((secAt seed cs i).take 8) < 18446744073709551615) := ⟨by rw [E1.now]; omega⟩
          have hfin : ¬ (k < no) ∨ (k < no ∧ ¬ k < 12) := by omega
          clear hin hlk E1
          rcases hfin with hf1 | ⟨hf1, hf2⟩
          · go_wp2_with fail
            refine (jepoch_i x _ _ _ _ N1.out HQ.out.a.j).mono ?_
            rintro e wa ⟨rfl, g⟩
            have Ha := Keep.mk (HQ.out.grow g)
            clear g HQ
            go_wp2_with fail
            refine (jepoch_i y _ _ _ _ N1.out Ha.out.b.j).mono ?_
            rintro e wb ⟨rfl, g⟩
            have Hb := Keep.mk (Ha.out.grow g)
            clear g Ha
            go_wp2_with fail
            refine (jbake_c x _ _ seed nB _ Hb.out.a.j Hb.out.a.k (by omega) (by decide)).mono ?_
            rintro e wc ⟨rfl, g⟩
            have Hc := Keep.mk (Hb.out.grow g)
            clear g Hb
            go_wp2_with fail
            refine (jbake_c y _ _ seed nB _ Hc.out.b.j Hc.out.b.k (by omega) (by decide)).mono ?_
            rintro e wd ⟨rfl, g⟩
            have Hd := Keep.mk (Hc.out.grow g)
            clear g Hc
            generalize bakeS (secAt seed cs i) seed nB = bk
            go_wp2_with fail
            refine (jepoch_i x _ _ _ _ N1.out Hd.out.a.j).mono ?_
            rintro e we ⟨rfl, g⟩
            have He := Keep.mk (Hd.out.grow g)
            clear g Hd
            go_wp2_with fail
            refine (jbake_c x _ _ xB nB _ He.out.a.j He.out.a.k (by decide) (by decide)).mono ?_
            rintro e wf ⟨rfl, g⟩
            have Hf := Keep.mk (He.out.grow g)
            clear g He
            generalize bakeS (secAt seed cs i) xB nB = bk2 at F1 ⊢
            go_wp2_with fail
            refine (check_i y (i + 1) _ _ _ xB nB bk2 _ _ (by omega) F1.out Hf.out.b.j Hf.out.b.k (by decide) (by decide)).mono ?_
            rintro e wg ⟨rfl, g⟩
            have Hg := Keep.mk (Hf.out.grow g)
            clear g Hf
            by_cases hlm : i < m
            · obtain ⟨B, o, rfl, hat⟩ := HP.out.at_ (by omega)
              have hpl := HP.out.len
              obtain ⟨p, hp⟩ : ∃ p, cs[i]? = some p := ⟨_, List.getElem?_eq_getElem (by omega)⟩
              have hc : wg.cell? ⟨B, o + i, none⟩ = some (.string p) := Hg.out.a.g.cell (hat i p hp) (by simp)
              have HAT := Keep.mk (hat i p hp)
              have HC := Keep.mk hp
              clear hat hp
              go_wp2_with fail
              refine (turn_c x _ _ p _ Hg.out.a.j Hg.out.a.k NL.out (HPS.out i p HC.out)).mono ?_
              rintro e wh ⟨rfl, hh, g⟩
              have Hh : Keep (JW w wh x seed cs (i + 1) ∧ JW w wh y seed cs i ∧ JX w wh z (12 * (i + 1) + 1) ∧ x ≠ y ∧ x ≠ z ∧ y ≠ z) := ⟨Hg.out.a.turned HC.out hh g, Hg.out.b.other g Hg.out.a.hb Hg.out.n1.symm h0, Hg.out.c.other g Hg.out.n2.symm, Hg.out.n1, Hg.out.n2, Hg.out.n3⟩
              have hc2 : wh.cell? ⟨B, o + i, none⟩ = some (.string p) := Hh.out.1.g.cell HAT.out (by simp)
              clear Hg hh g hc
              go_wp2_with fail
              refine (turn_c y _ _ p _ Hh.out.2.1.j Hh.out.2.1.k NL.out (HPS.out i p HC.out)).mono ?_
              rintro e wi ⟨rfl, hh, g⟩
              have Hi : Keep (OW w wi x y z seed cs (i + 1) (12 * (i + 1) + 1)) := ⟨Hh.out.1.other g Hh.out.2.1.hb Hh.out.2.2.2.1 h0, Hh.out.2.1.turned HC.out hh g, Hh.out.2.2.1.other g Hh.out.2.2.2.2.2.symm, Hh.out.2.2.2.1, Hh.out.2.2.2.2.1, Hh.out.2.2.2.2.2⟩
              clear Hh hh g hc2
              go_wp2_with fail
              refine ⟨⟨i + 1, by omega, by go_num, by rw [Nat.min_eq_left (by omega)]; exact Hi⟩, ?_⟩
              simp [intOf]; omega
            · go_wp2_with fail
              refine ⟨⟨i + 1, by omega, by go_num, by rw [show min (i + 1) m = i by omega]; exact Hg⟩, ?_⟩
              simp [intOf]; omega
          · go_wp2_with fail
            refine (jepoch_i x _ _ _ _ N1.out HQ.out.a.j).mono ?_
            rintro e wa ⟨rfl, g⟩
            have Ha := Keep.mk (HQ.out.grow g)
            clear g HQ
            go_wp2_with fail
            refine (jepoch_i y _ _ _ _ N1.out Ha.out.b.j).mono ?_
            rintro e wb ⟨rfl, g⟩
            have Hb := Keep.mk (Ha.out.grow g)
            clear g Ha
            go_wp2_with fail
            refine (jbake_c x _ _ seed nB _ Hb.out.a.j Hb.out.a.k (by omega) (by decide)).mono ?_
            rintro e wc ⟨rfl, g⟩
            have Hc := Keep.mk (Hb.out.grow g)
            clear g Hb
            go_wp2_with fail
            refine (jbake_c y _ _ seed nB _ Hc.out.b.j Hc.out.b.k (by omega) (by decide)).mono ?_
            rintro e wd ⟨rfl, g⟩
            have Hd := Keep.mk (Hc.out.grow g)
            clear g Hc
            generalize bakeS (secAt seed cs i) seed nB = bk
            go_wp2_with fail
            refine (jepoch_i x _ _ _ _ N1.out Hd.out.a.j).mono ?_
            rintro e we ⟨rfl, g⟩
            have He := Keep.mk (Hd.out.grow g)
            clear g Hd
            go_wp2_with fail
            refine (jbake_c x _ _ xB nB _ He.out.a.j He.out.a.k (by decide) (by decide)).mono ?_
            rintro e wf ⟨rfl, g⟩
            have Hf := Keep.mk (He.out.grow g)
            clear g He
            generalize bakeS (secAt seed cs i) xB nB = bk2 at F1 ⊢
            go_wp2_with fail
            refine (check_i y (i + 1) _ _ _ xB nB bk2 _ _ (by omega) F1.out Hf.out.b.j Hf.out.b.k (by decide) (by decide)).mono ?_
            rintro e wg ⟨rfl, g⟩
            have Hg := Keep.mk (Hf.out.grow g)
            clear g Hf
            by_cases hlm : i < m
            · obtain ⟨B, o, rfl, hat⟩ := HP.out.at_ (by omega)
              have hpl := HP.out.len
              obtain ⟨p, hp⟩ : ∃ p, cs[i]? = some p := ⟨_, List.getElem?_eq_getElem (by omega)⟩
              have hc : wg.cell? ⟨B, o + i, none⟩ = some (.string p) := Hg.out.a.g.cell (hat i p hp) (by simp)
              have HAT := Keep.mk (hat i p hp)
              have HC := Keep.mk hp
              clear hat hp
              go_wp2_with fail
              refine (turn_c x _ _ p _ Hg.out.a.j Hg.out.a.k NL.out (HPS.out i p HC.out)).mono ?_
              rintro e wh ⟨rfl, hh, g⟩
              have Hh : Keep (JW w wh x seed cs (i + 1) ∧ JW w wh y seed cs i ∧ JX w wh z (12 * (i + 1) + 1) ∧ x ≠ y ∧ x ≠ z ∧ y ≠ z) := ⟨Hg.out.a.turned HC.out hh g, Hg.out.b.other g Hg.out.a.hb Hg.out.n1.symm h0, Hg.out.c.other g Hg.out.n2.symm, Hg.out.n1, Hg.out.n2, Hg.out.n3⟩
              have hc2 : wh.cell? ⟨B, o + i, none⟩ = some (.string p) := Hh.out.1.g.cell HAT.out (by simp)
              clear Hg hh g hc
              go_wp2_with fail
              refine (turn_c y _ _ p _ Hh.out.2.1.j Hh.out.2.1.k NL.out (HPS.out i p HC.out)).mono ?_
              rintro e wi ⟨rfl, hh, g⟩
              have Hi : Keep (OW w wi x y z seed cs (i + 1) (12 * (i + 1) + 1)) := ⟨Hh.out.1.other g Hh.out.2.1.hb Hh.out.2.2.2.1 h0, Hh.out.2.1.turned HC.out hh g, Hh.out.2.2.1.other g Hh.out.2.2.2.2.2.symm, Hh.out.2.2.2.1, Hh.out.2.2.2.2.1, Hh.out.2.2.2.2.2⟩
              clear Hh hh g hc2
              go_wp2_with fail
              refine ⟨⟨i + 1, by omega, by go_num, by rw [Nat.min_eq_left (by omega)]; exact Hi⟩, ?_⟩
              simp [intOf]; omega
            · go_wp2_with fail
              refine ⟨⟨i + 1, by omega, by go_num, by rw [show min (i + 1) m = i by omega]; exact Hg⟩, ?_⟩
              simp [intOf]; omega
    · have HG := Keep.mk hrel.out.a.g
      clear hrel
      go_wp2_with fail
      go_ret
      exact ⟨rfl, HG.out⟩
end Go.Proofs.YtbmnlhmelbhjeaaDoor
