/- TableKeeps' walk. -/
import Derived.Test.YtkaakbldkicnaaaB2
import Derived.Test.YtkaakbldkicnaaaP1
namespace Go.Proofs.Ytkaakbldkicnaaa
open Go Go.RowKit Go.Maps

theorem addS (a b : ByteArray) (h : a.size + b.size ≤ 9223372036854775807) (W : World) : (Op.stringOp .add a b).run Try.prog W = .ok (.string (a ++ b)) W := by
  simp only [Op.stringOp]
  rw [if_neg (by have : IntKind.i64.max = 9223372036854775807 := by decide
                 omega)]
  rfl
theorem tb_len {w0 W : World} {l : List As} {tb sz : Nat} {L : KV} (h : Sep w0 W (tabA tb sz L :: l)) : L.length ≤ sz := (h.tab (List.mem_cons_self ..)).le
theorem tb_nk {w0 W : World} {l : List As} {tb sz : Nat} {L : KV} (h : Sep w0 W (tabA tb sz L :: l)) : (Tb.keys L).Nodup := (h.tab (List.mem_cons_self ..)).nk
/-- a row of strings that came in, and how long they are -/
structure Ahead (w : World) (v : Value) (xs : List ByteArray) : Prop where
  s : Str w v xs
  len : xs.length ≤ 8796093022207
  small : ∀ x ∈ xs, x.size ≤ 140737488351232
set_option maxHeartbeats 16000000 in
theorem keeps_some (sz : Nat) (p : Addr) (n cap : Nat) (ahead : List ByteArray) (key : ByteArray) (N : Int) (w : World) (hA : ahead.length = n) (hn : n ≤ 8796093022207) (hs : ∀ x ∈ ahead, x.size ≤ 140737488351232) (hc : ∀ j x, ahead[j]? = some x → w.cell? (p.add j) = some (.string x)) (hk : key.size ≤ 140737488351232) (h1 : 1 ≤ sz) (h2 : sz ≤ 200) :
    Calls Try.prog 3 #[.agg #[iv (sz : Nat), .slice (some p) n cap, .string key, iv N]] w fun r w' => r = .returned (.bool true) ∧ w.grownBy w' none := by
  have HA : Keep (ahead.length = n ∧ (∀ x ∈ ahead, x.size ≤ 140737488351232) ∧ ∀ j x, ahead[j]? = some x → w.cell? (p.add j) = some (.string x)) := ⟨hA, hs, hc⟩
  have hnb : (n : Int) ≤ 8796093022207 := by omega
  clear hA hs hc hn
  have h1' : ¬ ((sz : Int) < 1) := by omega
  have h2' : ¬ (200 < (sz : Int)) := by omega
  obtain ⟨q, hq⟩ : ∃ q, N.tmod (sz : Int) = q := ⟨_, rfl⟩
  have hq1 : q.natAbs < sz := by
    rw [← hq, Int.natAbs_tmod]
    exact Nat.mod_lt _ (by simp; omega)
  have hwq : IntKind.i64.wrap q = q := wi _ (by omega) (by omega)
  have hwq2 : IntKind.i64.wrap (-q) = -q := wi _ (by omega) (by omega)
  have hz : ¬ ((sz : Int) = 0) := by omega
  go_enter Try.func3, Try.ntmps3
  go_wp2_with fail
  refine (alive_c _).mono ?_
  rintro r w1 ⟨rfl, g1⟩
  have G1 : Keep (w.grownBy w1 none) := ⟨(World.grownBy_alloc _ _ _).trans g1⟩
  clear g1
  go_wp2_with fail
  refine (new_s sz (Sep.start G1.out) h1 (by omega)).mono ?_
  rintro r w2 ⟨tb, rfl, S2⟩
  have H2 : Keep (∃ L, Sep w w2 [tabA tb sz L]) := ⟨_, S2⟩
  clear S2 G1
  go_wp2_with fail
  go_loopw [9] (fun v wr => ∃ i : Nat, i ≤ n ∧ v = .int .i64 i ∧ Keep (∃ L, Sep w wr [tabA tb sz L])) (fun v _ => (n - (intOf v)).toNat)
  case atStart => exact ⟨0, by omega, rfl, H2⟩
  case round =>
    obtain ⟨i, hi, rfl, hR⟩ := hrel
    obtain ⟨L, S⟩ := hR.out
    by_cases hlt : i < n
    · obtain ⟨x, hx⟩ : ∃ x, ahead[i]? = some x := ⟨_, List.getElem?_eq_getElem (by rw [HA.out.1]; exact hlt)⟩
      have hc := HA.out.2.2 i x hx
      have hb : (p.add i).block < w.heap.size := World.block_lt_of_cell? w _ hc
      have hc : wr.cell? (p.add i) = some (.string x) := by
        rw [← hc]
        have := S.g.block _ hb (by simp)
        simp only [World.cell?, this]
      have hxs : x.size ≤ 281474976710656 := by have := HA.out.2.1 x (List.mem_of_getElem? hx); omega
      have hi0 : (0 : Int) ≤ (i : Int) := by omega
      have hi1 : (i : Int) < (n : Nat) := by omega
      have hwi : IntKind.i64.wrap ((i : Int) + 1) = i + 1 := wi _ (by omega) (by omega)
      have hwn : IntKind.i64.wrap (-(i : Int)) = -i := wi _ (by omega) (by omega)
      have hti : ((i : Nat) : Int).toNat = i := by omega
      have hP := put_s x (-(i : Int)) S hxs
      have HX : Keep (i < n) := ⟨hlt⟩
      clear hx hb hR S hi hlt
      go_wp2_with fail
      refine hP.mono ?_
      rintro r w3 ⟨rfl, S3⟩
      have H3 : Keep (∃ L, Sep w w3 [tabA tb sz L]) := ⟨_, S3⟩
      clear S3 hP
      go_wp2_with fail
      exact ⟨⟨i + 1, by have := HX.out; omega, by simp, H3⟩, by have := HX.out; simp only [intOf]; omega⟩
    · obtain rfl : i = n := by omega
      have hP := put_s key 77 S (by omega)
      clear hR S hi hlt
      go_wp2_with fail
      refine hP.mono ?_
      rintro r w4 ⟨rfl, S4⟩
      have HI : Keep (∃ L, Tb.Inv key 0 L ∧ Sep w w4 [tabA tb sz L]) := ⟨_, Tb.Inv.first _, S4⟩
      clear S4 hP H2
      obtain ⟨m, hm, hmz⟩ : ∃ m : Nat, (if q < 0 then -q else q) = m ∧ m < sz := ⟨q.natAbs, by split <;> omega, hq1⟩
      clear hq1
      have hmb : (m : Int) ≤ 200 := by omega
      by_cases hq0 : q < 0
      · rw [if_pos hq0] at hm
        go_wp2_with fail
        go_loopw [11, 12] (fun u v wr => ∃ i : Nat, i ≤ m ∧ v = .int .i64 i ∧ u = .string (Tb.xk key i) ∧ Keep (∃ L, Tb.Inv key i L ∧ Sep w wr [tabA tb sz L])) (fun _ v _ => (m - (intOf v)).toNat)
        case atStart => exact ⟨0, by omega, rfl, rfl, HI⟩
        case round =>
          obtain ⟨i, hi, rfl, rfl, hR⟩ := hrel
          obtain ⟨L, hI, S⟩ := hR.out
          have hxs := Tb.xk_size key i
          have hxs1 := Tb.xk_size key (i + 1)
          by_cases hlt : i < m
          · have hwi : IntKind.i64.wrap ((i : Int) + 1) = i + 1 := wi _ (by omega) (by omega)
            have ha := addS (Tb.xk key i) ⟨#[120]⟩ (by show _ + 1 ≤ _; omega)
            rw [show Tb.xk key i ++ ⟨#[120]⟩ = Tb.xk key (i + 1) from rfl] at ha
            have hb := addS ⟨#[121]⟩ (Tb.xk key (i + 1)) (by show 1 + _ ≤ _; omega)
            have hb2 := addS (⟨#[121]⟩ ++ Tb.xk key (i + 1)) ⟨#[121]⟩ (by rw [ByteArray.size_append]; show 1 + _ + 1 ≤ _; omega)
            have hsz : (⟨#[121]⟩ ++ Tb.xk key (i + 1) ++ ⟨#[121]⟩ : ByteArray).size ≤ 4611686018427387904 := by
              rw [ByteArray.size_append, ByteArray.size_append]; show 1 + _ + 1 ≤ _; omega
            have hP := put_s (Tb.xk key (i + 1)) i S (by omega)
            have hI1 := hI.put (show i + 1 < sz by omega)
            have HX : Keep (i < m) := ⟨hlt⟩
            have HI1 : Keep (Tb.Inv key (i + 1) (Tb.putL sz L (Tb.xk key (i + 1)) i)) := ⟨hI1⟩
            have HZ : Keep ((Tb.xk key (i + 1)).size ≤ 4611686018427387904) := ⟨by omega⟩
            generalize hxk : Tb.xk key (i + 1) = k1 at *
            generalize Tb.xk key i = k0 at *
            generalize (⟨#[121]⟩ ++ k1 : ByteArray) = k2 at *
            generalize (k2 ++ ⟨#[121]⟩ : ByteArray) = k3 at *
            have hlt' : (i : Int) < (m : Nat) := by omega
            clear hI hI1 S hR hi hxs hxs1
            go_wp2_with fail
            refine hP.mono ?_
            rintro r w5 ⟨rfl, S5⟩
            have hG := get_s k1 S5 HZ.out
            have hU : Tb.useL (Tb.putL sz L k1 i) k1 = Tb.putL sz L k1 i := by
              have := HI1.out.use (tb_nk S5)
              rw [hxk] at this
              exact this
            rw [hU] at hG
            clear hP S5 hU
            go_wp2_with fail
            refine hG.mono ?_
            rintro r w6 ⟨rfl, S6⟩
            have hQ := peek_s k3 S6 (List.mem_cons_self ..) hsz
            have H6 : Keep (∃ L, Tb.Inv key (i + 1) L ∧ Sep w w6 [tabA tb sz L]) := ⟨_, HI1.out, S6⟩
            clear hG S6
            go_wp2_with fail
            refine hQ.mono ?_
            rintro r w7 ⟨rfl, hw⟩
            subst w7
            clear hQ
            go_wp2_with fail
            exact ⟨⟨i + 1, by have := HX.out; omega, by simp, by rw [hxk], H6⟩, by have := HX.out; simp only [intOf]; omega⟩
          · obtain rfl : i = m := by omega
            have hQ := peek_s key S (List.mem_cons_self ..) (by omega)
            rw [hI.look (tb_nk S)] at hQ
            have HJ : Keep (∃ L, ((i < sz → Tb.Inv key i L) ∧ (i = sz → L = Tb.Tl key sz)) ∧ Sep w wr [tabA tb sz L]) := ⟨_, ⟨fun _ => hI, fun e => by omega⟩, S⟩
            have HM : Keep (i < sz) := ⟨hmz⟩
            clear hI S hR hlt hi hxs hxs1 hmz HI
            go_wp2_with fail
            refine hQ.mono ?_
            rintro r w7 ⟨rfl, hw⟩
            subst w7
            clear hQ
            go_wp2_with fail
            rename World => wz
            go_loopw [11, 15] (fun u v wr => ∃ j : Nat, j ≤ sz ∧ v = .int .i64 j ∧ u = .string (Tb.xk key j) ∧ Keep (∃ L, ((j < sz → Tb.Inv key j L) ∧ (j = sz → L = Tb.Tl key sz)) ∧ Sep w wr [tabA tb sz L])) (fun _ v _ => (sz - (intOf v)).toNat)
            case atStart => exact ⟨i, by have := HM.out; omega, rfl, rfl, HJ⟩
            case round =>
              clear HJ HM
              obtain ⟨j, hj, rfl, rfl, hR⟩ := hrel
              obtain ⟨L, hI, S⟩ := hR.out
              have hxs := Tb.xk_size key j
              have hxs1 := Tb.xk_size key (j + 1)
              by_cases hlt : j < sz
              · have hwi : IntKind.i64.wrap ((j : Int) + 1) = j + 1 := wi _ (by omega) (by omega)
                have ha := addS (Tb.xk key j) ⟨#[120]⟩ (by show _ + 1 ≤ _; omega)
                rw [show Tb.xk key j ++ ⟨#[120]⟩ = Tb.xk key (j + 1) from rfl] at ha
                have hP := put_s (Tb.xk key (j + 1)) j S (by omega)
                have hI1 : (j + 1 < sz → Tb.Inv key (j + 1) (Tb.putL sz L (Tb.xk key (j + 1)) j)) ∧ (j + 1 = sz → Tb.putL sz L (Tb.xk key (j + 1)) j = Tb.Tl key sz) := by
                  refine ⟨fun q => (hI.1 hlt).put q, fun q => ?_⟩
                  have hl := tb_len S
                  subst q
                  exact (hI.1 hlt).last hl
                have HX : Keep (j < sz) := ⟨hlt⟩
                have HI1 : Keep ((j + 1 < sz → Tb.Inv key (j + 1) (Tb.putL sz L (Tb.xk key (j + 1)) j)) ∧ (j + 1 = sz → Tb.putL sz L (Tb.xk key (j + 1)) j = Tb.Tl key sz)) := ⟨hI1⟩
                generalize hxk : Tb.xk key (j + 1) = k1 at *
                generalize Tb.xk key j = k0 at *
                have hlt' : (j : Int) < (sz : Nat) := by omega
                clear hI hI1 S hR hj hxs hxs1
                go_wp2_with fail
                refine hP.mono ?_
                rintro r w5 ⟨rfl, S5⟩
                have H6 : Keep (∃ L, ((j + 1 < sz → Tb.Inv key (j + 1) L) ∧ (j + 1 = sz → L = Tb.Tl key sz)) ∧ Sep w w5 [tabA tb sz L]) := ⟨_, HI1.out, S5⟩
                clear hP S5
                go_wp2_with fail
                exact ⟨⟨j + 1, by have := HX.out; omega, by simp, by rw [hxk], H6⟩, by have := HX.out; simp only [intOf]; omega⟩
              · obtain rfl : j = sz := by omega
                obtain rfl : L = Tb.Tl key j := hI.2 rfl
                have hQ := peek_s key S (List.mem_cons_self ..) (by omega)
                rw [Tb.Tl_no] at hQ
                have hK := keys_s S (List.mem_cons_self ..)
                clear hI S hR hlt hj hxs hxs1
                go_wp2_with fail
                refine hQ.mono ?_
                rintro r w7 ⟨rfl, hw⟩
                subst w7
                clear hQ
                go_wp2_with fail
                refine hK.mono ?_
                rintro r w8 ⟨vk, rfl, S8⟩
                have hs := S8.row (List.mem_cons_self ..)
                have HG : Keep (w.grownBy w8 none) := ⟨S8.g⟩
                clear hK S8
                obtain ⟨ak, ck, rfl, hcell⟩ : ∃ a c, vk = .slice (some a) j c ∧ ∀ (i : Nat) (x : ByteArray), (Tb.keys (Tb.Tl key j))[i]? = some x → w8.cell? (a.add i) = some (.string x) := by
                  have hlen : (Tb.keys (Tb.Tl key j)).length = j := by rw [List.length_map, Tb.Tl_len]
                  rcases hs.o with ⟨_, e⟩ | ⟨a, c, e, q⟩
                  · rw [e] at hlen; simp at hlen; omega
                  · rw [hlen] at e; exact ⟨a, c, e, q⟩
                have HC : Keep (∀ i, i < j → w8.cell? (ak.add i) = some (.string (Tb.xk key (i + 1)))) := ⟨fun i hi => hcell i _ (Tb.Tl_get key j i hi)⟩
                clear hcell hs
                go_wp2_with fail
                go_loopw [17, 18] (fun u v wr => wr = w8 ∧ ∃ e : Nat, e ≤ j ∧ v = .int .i64 e ∧ u = .string (Tb.xk key e)) (fun _ v _ => (j - (intOf v)).toNat)
                case atStart => exact ⟨rfl, 0, by omega, rfl, rfl⟩
                case round =>
                  obtain ⟨rfl, e, he, rfl, rfl⟩ := hrel
                  have hxs := Tb.xk_size key e
                  by_cases hlt : e < j
                  · have hwi : IntKind.i64.wrap ((e : Int) + 1) = e + 1 := wi _ (by omega) (by omega)
                    have ha := addS (Tb.xk key e) ⟨#[120]⟩ (by show _ + 1 ≤ _; omega)
                    rw [show Tb.xk key e ++ ⟨#[120]⟩ = Tb.xk key (e + 1) from rfl] at ha
                    have hc := HC.out e hlt
                    have hi0 : (0 : Int) ≤ (e : Int) := by omega
                    have hi1 : (e : Int) < (j : Nat) := by omega
                    have hti : ((e : Nat) : Int).toNat = e := by omega
                    have HX : Keep (e < j) := ⟨hlt⟩
                    generalize hxk : Tb.xk key (e + 1) = k1 at *
                    generalize Tb.xk key e = k0 at *
                    clear hxs he
                    go_wp2_with fail
                    exact ⟨⟨trivial, e + 1, by have := HX.out; omega, by simp, by rw [hxk]⟩, by have := HX.out; simp only [intOf]; omega⟩
                  · obtain rfl : e = j := by omega
                    clear hxs he
                    go_wp2_with fail
                    go_ret
                    exact ⟨rfl, HG.out⟩
      · rw [if_neg hq0] at hm
        subst hm
        go_wp2_with fail
        go_loopw [11, 12] (fun u v wr => ∃ i : Nat, i ≤ m ∧ v = .int .i64 i ∧ u = .string (Tb.xk key i) ∧ Keep (∃ L, Tb.Inv key i L ∧ Sep w wr [tabA tb sz L])) (fun _ v _ => (m - (intOf v)).toNat)
        case atStart => exact ⟨0, by omega, rfl, rfl, HI⟩
        case round =>
          obtain ⟨i, hi, rfl, rfl, hR⟩ := hrel
          obtain ⟨L, hI, S⟩ := hR.out
          have hxs := Tb.xk_size key i
          have hxs1 := Tb.xk_size key (i + 1)
          by_cases hlt : i < m
          · have hwi : IntKind.i64.wrap ((i : Int) + 1) = i + 1 := wi _ (by omega) (by omega)
            have ha := addS (Tb.xk key i) ⟨#[120]⟩ (by show _ + 1 ≤ _; omega)
            rw [show Tb.xk key i ++ ⟨#[120]⟩ = Tb.xk key (i + 1) from rfl] at ha
            have hb := addS ⟨#[121]⟩ (Tb.xk key (i + 1)) (by show 1 + _ ≤ _; omega)
            have hb2 := addS (⟨#[121]⟩ ++ Tb.xk key (i + 1)) ⟨#[121]⟩ (by rw [ByteArray.size_append]; show 1 + _ + 1 ≤ _; omega)
            have hsz : (⟨#[121]⟩ ++ Tb.xk key (i + 1) ++ ⟨#[121]⟩ : ByteArray).size ≤ 4611686018427387904 := by
              rw [ByteArray.size_append, ByteArray.size_append]; show 1 + _ + 1 ≤ _; omega
            have hP := put_s (Tb.xk key (i + 1)) i S (by omega)
            have hI1 := hI.put (show i + 1 < sz by omega)
            have HX : Keep (i < m) := ⟨hlt⟩
            have HI1 : Keep (Tb.Inv key (i + 1) (Tb.putL sz L (Tb.xk key (i + 1)) i)) := ⟨hI1⟩
            have HZ : Keep ((Tb.xk key (i + 1)).size ≤ 4611686018427387904) := ⟨by omega⟩
            generalize hxk : Tb.xk key (i + 1) = k1 at *
            generalize Tb.xk key i = k0 at *
            generalize (⟨#[121]⟩ ++ k1 : ByteArray) = k2 at *
            generalize (k2 ++ ⟨#[121]⟩ : ByteArray) = k3 at *
            have hlt' : (i : Int) < (m : Nat) := by omega
            clear hI hI1 S hR hi hxs hxs1
            go_wp2_with fail
            refine hP.mono ?_
            rintro r w5 ⟨rfl, S5⟩
            have hG := get_s k1 S5 HZ.out
            have hU : Tb.useL (Tb.putL sz L k1 i) k1 = Tb.putL sz L k1 i := by
              have := HI1.out.use (tb_nk S5)
              rw [hxk] at this
              exact this
            rw [hU] at hG
            clear hP S5 hU
            go_wp2_with fail
            refine hG.mono ?_
            rintro r w6 ⟨rfl, S6⟩
            have hQ := peek_s k3 S6 (List.mem_cons_self ..) hsz
            have H6 : Keep (∃ L, Tb.Inv key (i + 1) L ∧ Sep w w6 [tabA tb sz L]) := ⟨_, HI1.out, S6⟩
            clear hG S6
            go_wp2_with fail
            refine hQ.mono ?_
            rintro r w7 ⟨rfl, hw⟩
            subst w7
            clear hQ
            go_wp2_with fail
            exact ⟨⟨i + 1, by have := HX.out; omega, by simp, by rw [hxk], H6⟩, by have := HX.out; simp only [intOf]; omega⟩
          · obtain rfl : i = m := by omega
            have hQ := peek_s key S (List.mem_cons_self ..) (by omega)
            rw [hI.look (tb_nk S)] at hQ
            have HJ : Keep (∃ L, ((i < sz → Tb.Inv key i L) ∧ (i = sz → L = Tb.Tl key sz)) ∧ Sep w wr [tabA tb sz L]) := ⟨_, ⟨fun _ => hI, fun e => by omega⟩, S⟩
            have HM : Keep (i < sz) := ⟨hmz⟩
            clear hI S hR hlt hi hxs hxs1 hmz HI
            go_wp2_with fail
            refine hQ.mono ?_
            rintro r w7 ⟨rfl, hw⟩
            subst w7
            clear hQ
            go_wp2_with fail
            rename World => wz
            go_loopw [11, 15] (fun u v wr => ∃ j : Nat, j ≤ sz ∧ v = .int .i64 j ∧ u = .string (Tb.xk key j) ∧ Keep (∃ L, ((j < sz → Tb.Inv key j L) ∧ (j = sz → L = Tb.Tl key sz)) ∧ Sep w wr [tabA tb sz L])) (fun _ v _ => (sz - (intOf v)).toNat)
            case atStart => exact ⟨i, by have := HM.out; omega, rfl, rfl, HJ⟩
            case round =>
              clear HJ HM
              obtain ⟨j, hj, rfl, rfl, hR⟩ := hrel
              obtain ⟨L, hI, S⟩ := hR.out
              have hxs := Tb.xk_size key j
              have hxs1 := Tb.xk_size key (j + 1)
              by_cases hlt : j < sz
              · have hwi : IntKind.i64.wrap ((j : Int) + 1) = j + 1 := wi _ (by omega) (by omega)
                have ha := addS (Tb.xk key j) ⟨#[120]⟩ (by show _ + 1 ≤ _; omega)
                rw [show Tb.xk key j ++ ⟨#[120]⟩ = Tb.xk key (j + 1) from rfl] at ha
                have hP := put_s (Tb.xk key (j + 1)) j S (by omega)
                have hI1 : (j + 1 < sz → Tb.Inv key (j + 1) (Tb.putL sz L (Tb.xk key (j + 1)) j)) ∧ (j + 1 = sz → Tb.putL sz L (Tb.xk key (j + 1)) j = Tb.Tl key sz) := by
                  refine ⟨fun q => (hI.1 hlt).put q, fun q => ?_⟩
                  have hl := tb_len S
                  subst q
                  exact (hI.1 hlt).last hl
                have HX : Keep (j < sz) := ⟨hlt⟩
                have HI1 : Keep ((j + 1 < sz → Tb.Inv key (j + 1) (Tb.putL sz L (Tb.xk key (j + 1)) j)) ∧ (j + 1 = sz → Tb.putL sz L (Tb.xk key (j + 1)) j = Tb.Tl key sz)) := ⟨hI1⟩
                generalize hxk : Tb.xk key (j + 1) = k1 at *
                generalize Tb.xk key j = k0 at *
                have hlt' : (j : Int) < (sz : Nat) := by omega
                clear hI hI1 S hR hj hxs hxs1
                go_wp2_with fail
                refine hP.mono ?_
                rintro r w5 ⟨rfl, S5⟩
                have H6 : Keep (∃ L, ((j + 1 < sz → Tb.Inv key (j + 1) L) ∧ (j + 1 = sz → L = Tb.Tl key sz)) ∧ Sep w w5 [tabA tb sz L]) := ⟨_, HI1.out, S5⟩
                clear hP S5
                go_wp2_with fail
                exact ⟨⟨j + 1, by have := HX.out; omega, by simp, by rw [hxk], H6⟩, by have := HX.out; simp only [intOf]; omega⟩
              · obtain rfl : j = sz := by omega
                obtain rfl : L = Tb.Tl key j := hI.2 rfl
                have hQ := peek_s key S (List.mem_cons_self ..) (by omega)
                rw [Tb.Tl_no] at hQ
                have hK := keys_s S (List.mem_cons_self ..)
                clear hI S hR hlt hj hxs hxs1
                go_wp2_with fail
                refine hQ.mono ?_
                rintro r w7 ⟨rfl, hw⟩
                subst w7
                clear hQ
                go_wp2_with fail
                refine hK.mono ?_
                rintro r w8 ⟨vk, rfl, S8⟩
                have hs := S8.row (List.mem_cons_self ..)
                have HG : Keep (w.grownBy w8 none) := ⟨S8.g⟩
                clear hK S8
                obtain ⟨ak, ck, rfl, hcell⟩ : ∃ a c, vk = .slice (some a) j c ∧ ∀ (i : Nat) (x : ByteArray), (Tb.keys (Tb.Tl key j))[i]? = some x → w8.cell? (a.add i) = some (.string x) := by
                  have hlen : (Tb.keys (Tb.Tl key j)).length = j := by rw [List.length_map, Tb.Tl_len]
                  rcases hs.o with ⟨_, e⟩ | ⟨a, c, e, q⟩
                  · rw [e] at hlen; simp at hlen; omega
                  · rw [hlen] at e; exact ⟨a, c, e, q⟩
                have HC : Keep (∀ i, i < j → w8.cell? (ak.add i) = some (.string (Tb.xk key (i + 1)))) := ⟨fun i hi => hcell i _ (Tb.Tl_get key j i hi)⟩
                clear hcell hs
                go_wp2_with fail
                go_loopw [17, 18] (fun u v wr => wr = w8 ∧ ∃ e : Nat, e ≤ j ∧ v = .int .i64 e ∧ u = .string (Tb.xk key e)) (fun _ v _ => (j - (intOf v)).toNat)
                case atStart => exact ⟨rfl, 0, by omega, rfl, rfl⟩
                case round =>
                  obtain ⟨rfl, e, he, rfl, rfl⟩ := hrel
                  have hxs := Tb.xk_size key e
                  by_cases hlt : e < j
                  · have hwi : IntKind.i64.wrap ((e : Int) + 1) = e + 1 := wi _ (by omega) (by omega)
                    have ha := addS (Tb.xk key e) ⟨#[120]⟩ (by show _ + 1 ≤ _; omega)
                    rw [show Tb.xk key e ++ ⟨#[120]⟩ = Tb.xk key (e + 1) from rfl] at ha
                    have hc := HC.out e hlt
                    have hi0 : (0 : Int) ≤ (e : Int) := by omega
                    have hi1 : (e : Int) < (j : Nat) := by omega
                    have hti : ((e : Nat) : Int).toNat = e := by omega
                    have HX : Keep (e < j) := ⟨hlt⟩
                    generalize hxk : Tb.xk key (e + 1) = k1 at *
                    generalize Tb.xk key e = k0 at *
                    clear hxs he
                    go_wp2_with fail
                    exact ⟨⟨trivial, e + 1, by have := HX.out; omega, by simp, by rw [hxk]⟩, by have := HX.out; simp only [intOf]; omega⟩
                  · obtain rfl : e = j := by omega
                    clear hxs he
                    go_wp2_with fail
                    go_ret
                    exact ⟨rfl, HG.out⟩
end Go.Proofs.Ytkaakbldkicnaaa
