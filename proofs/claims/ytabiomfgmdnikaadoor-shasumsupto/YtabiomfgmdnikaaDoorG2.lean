/- ShaSums' walk -/
import Derived.Test.YtabiomfgmdnikaaDoorG1
import Derived.Test.YtabiomfgmdnikaaDoorC5
namespace Go.Proofs.YtabiomfgmdnikaaDoor
open Go Go.RowKit

theorem Lent.parts {w : World} {gm cm n : Nat} {ls : List (List UInt8)} (h : Lent w gm cm n ls) : Parts w (some ⟨gm, 0, none⟩) n ls :=
  ⟨h.len, fun _ => ⟨gm, 0, rfl, fun j l hl => by
    obtain ⟨g, cap, e1, e2, e3⟩ := h.row j l hl
    refine ⟨some ⟨g, 0, none⟩, l.length, cap, by rw [Nat.zero_add]; exact e1, ⟨rfl, by omega, fun _ => ⟨g, 0, rfl, fun k x hx => by
      rw [Nat.zero_add]
      exact e3 k x (by rw [List.getElem?_append_left (List.getElem?_eq_some_iff.1 hx).1]; exact hx)⟩⟩⟩⟩⟩
theorem Parts.kept {w w' : World} {a : Option Addr} {n : Nat} {ps : List (List UInt8)} (h : Parts w a n ps) (hg : w.grownBy w' none) : Parts w' a n ps := by
  refine ⟨h.len, fun hn => ?_⟩
  obtain ⟨B, o, h1, h3⟩ := h.at_ hn
  refine ⟨B, o, h1, fun j q hq => ?_⟩
  obtain ⟨a', n', c', e1, e2⟩ := h3 j q hq
  exact ⟨a', n', c', hg.cell e1 (by simp), e2.kept hg⟩
theorem Parts.take {w : World} {a : Option Addr} {n : Nat} {ps : List (List UInt8)} (h : Parts w a n ps) (m : Nat) (hm : m ≤ n) : Parts w a m (ps.take m) := by
  refine ⟨by rw [List.length_take, h.len]; omega, fun hn => ?_⟩
  obtain ⟨B, o, h1, h3⟩ := h.at_ (by omega)
  refine ⟨B, o, h1, fun j q hq => h3 j q ?_⟩
  rw [List.getElem?_take] at hq
  split at hq
  · exact hq
  · cases hq
/-- the parts' nils -/
def Nils (w : World) (a : Option Addr) (n : Nat) : Prop := ∀ B o, a = some ⟨B, o, none⟩ → ∀ j a' n' c', j < n → w.cell? ⟨B, o + j, none⟩ = some (.slice a' n' c') → a' = none → c' = 0

theorem Nils.kept {w w' : World} {a : Option Addr} {n : Nat} {ps : List (List UInt8)} (h : Nils w a n) (hp : Parts w a n ps) (hg : w.grownBy w' none) : Nils w' a n := by
  intro B o ha j a' n' c' hj hc hn
  obtain ⟨B2, o2, e, h3⟩ := hp.at_ (by omega)
  rw [ha] at e
  have e' : B = B2 ∧ o = o2 := by simpa using e
  obtain ⟨rfl, rfl⟩ := e'
  obtain ⟨a2, n2, c2, e1, _⟩ := h3 j _ (List.getElem?_eq_getElem (by rw [hp.len]; exact hj))
  have e2 := hg.cell e1 (by simp)
  rw [e2] at hc
  have e3 : Value.slice a2 n2 c2 = Value.slice a' n' c' := Option.some.inj hc
  rw [e3] at e1
  exact h B o ha j a' n' c' hj e1 hn
theorem flat_bound (M : Nat) : ∀ (ls : List (List UInt8)), (∀ (j : Nat) (l : List UInt8), ls[j]? = some l → l.length ≤ M) → ls.flatten.length ≤ ls.length * M
  | [], _ => by simp
  | l :: r, h => by
    have h1 := h 0 l rfl
    have h2 := flat_bound M r (fun j l hl => h (j + 1) l (by simpa using hl))
    simp only [List.flatten_cons, List.length_append, List.length_cons, Nat.add_mul, Nat.one_mul]
    omega

/-- where the loop stands: T1 written to the program's Hash, T2 to the reference's -/
structure ST (wl w' : World) (bh br base : Nat) (T1 T2 : List UInt8) : Prop where
  g : wl.grownBy w' none
  h : HashOf w' bh T1
  r : RH w' br base T2
  sz : base ≤ w'.heap.size
theorem ST.grow {wl w' w2 : World} {bh br base : Nat} {T1 T2 : List UInt8} (s : ST wl w' bh br base T1 T2) (hg : w'.grownBy w2 none) : ST wl w2 bh br base T1 T2 := by
  obtain ⟨v, h1, h2⟩ := s.r.v
  exact ⟨s.g.trans hg, s.h.kept hg (by simp), ⟨v, h1.kept hg (by simp), h2.kept hg (by cases v.ownBlock <;> simp)⟩, Nat.le_trans s.sz hg.size⟩
theorem ST.wroteH {wl w' w2 : World} {bh br base : Nat} {T1 T2 q : List UInt8} (s : ST wl w' bh br base T1 T2) (h1 : wl.heap.size ≤ bh) (h2 : bh < br) (h3 : br < base) (hh : HashOf w2 bh (T1 ++ q)) (hg : w'.grownBy w2 (some bh)) : ST wl w2 bh br base (T1 ++ q) T2 := by
  obtain ⟨v, k1, k2⟩ := s.r.v
  exact ⟨gr_new s.g hg h1, hh, ⟨v, k1.kept hg (by simp; omega), k2.kept hg (.inr (fun e => by have := (k2.lt bh e).1; omega))⟩, Nat.le_trans s.sz hg.size⟩
theorem ST.wroteR {wl w' w2 : World} {bh br base : Nat} {T1 T2 q : List UInt8} (s : ST wl w' bh br base T1 T2) (h1 : wl.heap.size ≤ bh) (h2 : bh < br) (h3 : br < base) (hr : RH w2 br base (T2 ++ q)) (hg : GB base br w' w2) : ST wl w2 bh br base T1 (T2 ++ q) := by
  obtain ⟨ws, blk, k1, k2⟩ := s.h
  refine ⟨⟨hg.os.trans s.g.os, hg.tape.trans s.g.tape, hg.output.trans s.g.output, Nat.le_trans s.g.size hg.size, fun k hk _ => ?_⟩, ⟨ws, blk, k1, ?_⟩, hr, Nat.le_trans s.sz hg.size⟩
  · rw [hg.block k (by omega) (by omega)]
    exact s.g.block k hk (by simp)
  · unfold Has at k2 ⊢
    rw [hg.block bh (by omega) (by omega)]
    exact k2

set_option maxRecDepth 100000 in
set_option maxHeartbeats 8000000 in
theorem sums_core (a : Option Addr) (n0 c : Nat) (ls0 : List (List UInt8)) (w : World) (hkc : Kc w) (hrk : RK w) (h3 : 3 ≤ w.heap.size) (hp : Parts w a n0 ls0) (hc : n0 ≤ c) (hn0 : n0 ≤ 1048576) (hac : a = none → c = 0) (hnil : Nils w a n0) (hb : ∀ (j : Nat) (l : List UInt8), ls0[j]? = some l → l.length ≤ 1048576) :
    Calls Tryd.prog 7 #[.slice a n0 c] w fun e w' => e = .returned (.bool true) ∧ w.grownBy w' none := by
  obtain ⟨n, hn⟩ : ∃ n, min n0 40 = n := ⟨_, rfl⟩
  obtain ⟨ls, hls⟩ : ∃ ls, ls0.take n = ls := ⟨_, rfl⟩
  have hn40 : n ≤ 40 := by omega
  have hp2 : Parts w a n ls := by rw [← hls]; exact hp.take n (by omega)
  have HC : Keep (Kc w) := ⟨hkc⟩
  have HK : Keep (RK w) := ⟨hrk⟩
  have HP : Keep (Parts w a n ls) := ⟨hp2⟩
  have HNIL : Keep (Nils w a n) := ⟨fun B o ha j a' n' c' hj => hnil B o ha j a' n' c' (by omega)⟩
  have HB : Keep (∀ (j : Nat) (l : List UInt8), ls[j]? = some l → l.length ≤ 1048576) := ⟨fun j l hl => by
    rw [← hls, List.getElem?_take] at hl
    split at hl
    · exact hb j l hl
    · cases hl⟩
  have HFEW : Keep (min n0 40 = n) := ⟨hn⟩
  clear hkc hrk hp hnil hb hp2 hls hn
  go_enter Tryd.func7, Tryd.ntmps7
  go_wp2_with fail
  refine (alive_any _ HC.out).mono ?_
  rintro e w1 ⟨rfl, g1⟩
  have H1 : Keep (w.grownBy w1 none) := ⟨g1⟩
  clear g1
  go_wp2_with fail
  refine (few_any a n0 c _ hc (by omega) hac).mono ?_
  rintro e w2 ⟨rfl, g2⟩
  rw [HFEW.out]
  have H2 : Keep (w.grownBy w2 none) := ⟨H1.out.trans g2⟩
  clear g2
  go_wp2_with fail
  refine (lend_any a n c ls _ (HP.out.kept H2.out) (HNIL.out.kept HP.out H2.out) hn40 (fun j l hl => by have := HB.out j l hl; omega)).mono ?_
  rintro e wl ⟨gm, cm, rfl, hL, gl⟩
  have HL : Keep (Lent wl gm cm n ls) := ⟨hL⟩
  have hcm := hL.cap
  have hlen := hL.len
  have Hl : Keep (w.grownBy wl none) := ⟨H2.out.trans gl⟩
  have HFB : Keep (ls.flatten.length ≤ 41943040) := ⟨by
    have := flat_bound 1048576 ls HB.out
    have : ls.length * 1048576 ≤ 40 * 1048576 := Nat.mul_le_mul_right _ (by omega)
    omega⟩
  have HPl : Keep (Parts wl a n ls ∧ Nils wl a n ∧ Kc wl ∧ RK wl ∧ 3 ≤ wl.heap.size) := ⟨HP.out.kept Hl.out, HNIL.out.kept HP.out Hl.out, HC.out.kept Hl.out (by simp), HK.out.kept Hl.out, Nat.le_trans h3 Hl.out.size⟩
  clear gl hL
  obtain ⟨S, hS⟩ : ∃ S, Sha.sha ls.flatten = S := ⟨_, rfl⟩
  have HS : Keep (Sha.sha ls.flatten = S) := ⟨hS⟩
  have hSl : S.length = 32 := by rw [← hS]; exact Mac.sha_len _
  have heq := eq25 S hSl
  clear hS
  go_wp2_with fail
  refine (of_any _ n cm ls _ HL.out.parts HPl.out.2.2.1 (by omega) (by have := HFB.out; omega)).mono ?_
  rintro e w3 ⟨rfl, g3⟩
  rw [HS.out]
  have H3 : Keep (wl.grownBy w3 none) := ⟨g3⟩
  clear g3
  go_wp2_with fail
  refine (rof_any a n c ls _ (HPl.out.1.kept H3.out) (HPl.out.2.1.kept HPl.out.1 H3.out) (HPl.out.2.2.2.1.kept H3.out) (Nat.le_trans HPl.out.2.2.2.2 H3.out.size) (by omega) (by have := HFB.out; omega)).mono ?_
  rintro e w4 ⟨rfl, g4⟩
  rw [HS.out]
  have H4 : Keep (wl.grownBy w4 none) := ⟨H3.out.trans g4⟩
  clear g4
  go_wp2_with fail
  refine (kept_any gm cm n a c ls _ (HL.out.kept H4.out) (HPl.out.1.kept H4.out) hn40 (fun j l hl => by have := HB.out j l hl; omega)).mono ?_
  rintro e w5 ⟨rfl, g5⟩
  have H5 : Keep (wl.grownBy w5 none) := ⟨H4.out.trans g5⟩
  clear g5
  go_wp2_with fail
  refine (new_any _).mono ?_
  rintro e w6 ⟨rfl, hh, g6⟩
  go_wp2_with fail
  refine (rnew_any _).mono ?_
  rintro e w7 ⟨rfl, hr, g7, s7⟩
  obtain ⟨bh, hbh⟩ : ∃ bh, w5.heap.size = bh := ⟨_, rfl⟩
  obtain ⟨br, hbr⟩ : ∃ br, w6.heap.size = br := ⟨_, rfl⟩
  obtain ⟨base, hbase⟩ : ∃ base, w7.heap.size = base := ⟨_, rfl⟩
  have hlb : wl.heap.size ≤ bh := by rw [← hbh]; exact H5.out.size
  have hb1 : bh < br := by have := hh.lt; omega
  have hb2 : br < base := by omega
  have hb3 : 2 ≠ bh := by have := HPl.out.2.2.2.2; omega
  rw [hbh] at hh
  rw [hbr] at hr
  have H7 : Keep (ST wl w7 bh br base (ls.take 0).flatten (ls.take 0).flatten) := ⟨(H5.out.trans g6).trans g7, hh.kept g7 (by simp), ⟨_, hr, World.ownsRow_nil _ _ _ _⟩, by omega⟩
  rw [hbh, hbr]
  clear hh hr g6 g7 s7 hbh hbr hbase
  go_wp2_with fail
  go_loopw [6] (fun t w' => ∃ i : Nat, i ≤ n ∧ t = .int .i64 i ∧ Keep (ST wl w' bh br base (ls.take i).flatten (ls.take i).flatten)) (fun t _ => n - (intOf t).toNat)
  case atStart => exact ⟨0, by omega, rfl, H7⟩
  case round =>
    obtain ⟨i, hi, rfl, hrel⟩ := hrel
    by_cases hli : i < n
    · obtain ⟨l, hil⟩ : ∃ p, ls[i]? = some p := ⟨_, List.getElem?_eq_getElem (by omega)⟩
      have hil' := (List.getElem?_eq_some_iff.1 hil).2
      obtain ⟨B, o, rfl, hat⟩ := HPl.out.1.at_ (by omega)
      obtain ⟨a2, n2, c2, hcell, hby⟩ := hat i l hil
      obtain ⟨B3, o3, e3, hat3⟩ := HL.out.parts.at_ (by omega)
      obtain ⟨a3, n3, c3, hcell3, hby3⟩ := hat3 i l hil
      have e3' : gm = B3 ∧ 0 = o3 := by simpa using e3
      obtain ⟨rfl, rfl⟩ := e3'
      rw [Nat.zero_add] at hcell3
      have hll := HB.out i l hil
      have hfl : (ls.take (i + 1)).flatten = (ls.take i).flatten ++ l := by rw [take_flat ls i (by omega), hil']
      have hle := flat_le ls (i + 1)
      rw [hfl, List.length_append] at hle
      have HFL : Keep ((ls.take (i + 1)).flatten = (ls.take i).flatten ++ l) := ⟨hfl⟩
      have HLE : Keep ((ls.take i).flatten.length + l.length ≤ 41943040) := ⟨by have := HFB.out; omega⟩
      have HBY : Keep (BytesOf wl a2 n2 c2 l ∧ BytesOf wl a3 n3 c3 l ∧ (a2 = none → c2 = 0) ∧ n2 = l.length) := ⟨hby, hby3, HPl.out.2.1 B o rfl i a2 n2 c2 hli hcell, hby.len.symm⟩
      have hcW : ∀ W, wl.grownBy W none → W.cell? ⟨B, o + i, none⟩ = some (.slice a2 n2 c2) := fun W gW => gW.cell hcell (by simp)
      have HCW : Keep (∀ W, wl.grownBy W none → W.cell? ⟨B, o + i, none⟩ = some (.slice a2 n2 c2)) := ⟨hcW⟩
      have hm : wr.cell? ⟨gm, i, none⟩ = some (.slice a3 n3 c3) := hrel.out.g.cell hcell3 (by simp)
      clear hat hcell hby e3 hat3 hcell3 hby3 hfl hle hcW hil hil'
      go_wp2_with fail
      refine (write_any bh a3 n3 c3 _ l _ hrel.out.h (HPl.out.2.2.1.kept hrel.out.g (by simp)) hb3 (HBY.out.2.1.apart hrel.out.g hlb) (by have := HLE.out; omega)).mono ?_
      rintro e w8 ⟨rfl, h8, g8⟩
      have H8 : Keep (ST wl w8 bh br base ((ls.take i).flatten ++ l) (ls.take i).flatten) := ⟨hrel.out.wroteH hlb hb1 hb2 h8 g8⟩
      clear h8 g8 hrel
      go_wp2_with fail
      refine (kept_any gm cm n _ c ls _ (HL.out.kept H8.out.g) (HPl.out.1.kept H8.out.g) hn40 (fun j l hl => by have := HB.out j l hl; omega)).mono ?_
      rintro e w9 ⟨rfl, g9⟩
      have H9 : Keep (ST wl w9 bh br base ((ls.take i).flatten ++ l) (ls.take i).flatten) := ⟨H8.out.grow g9⟩
      have hc9 := HCW.out w9 H9.out.g
      clear g9
      go_wp2_with fail
      refine (rwrite_any br base _ a2 n2 c2 l _ H9.out.r (HBY.out.1.kept H9.out.g) HBY.out.2.2.1 hb2 H9.out.sz (by have := HLE.out; have := HBY.out.2.2.2; omega)).mono ?_
      rintro e w10 ⟨rfl, h10, g10⟩
      have H10 : Keep (ST wl w10 bh br base (ls.take (i + 1)).flatten (ls.take (i + 1)).flatten) := ⟨by rw [HFL.out]; exact H9.out.wroteR hlb hb1 hb2 h10 g10⟩
      have HTL : Keep ((ls.take (i + 1)).flatten.length ≤ 41943040) := ⟨by rw [HFL.out, List.length_append]; exact HLE.out⟩
      obtain ⟨S2, hS2⟩ : ∃ S, Sha.sha (ls.take (i + 1)).flatten = S := ⟨_, rfl⟩
      have HS2 : Keep (Sha.sha (ls.take (i + 1)).flatten = S2) := ⟨hS2⟩
      have heq2 := eq25 S2 (by rw [← hS2]; exact Mac.sha_len _)
      clear h10 g10 hc9 hS2
      go_wp2_with fail
      refine (sum_any bh _ _ H10.out.h (HPl.out.2.2.1.kept H10.out.g (by simp)) (by have := HTL.out; omega)).mono ?_
      rintro e w11 ⟨rfl, g11⟩
      rw [HS2.out]
      have H11 : Keep (ST wl w11 bh br base (ls.take (i + 1)).flatten (ls.take (i + 1)).flatten) := ⟨H10.out.grow g11⟩
      clear g11
      go_wp2_with fail
      refine (rsum2_any br base _ _ H11.out.r (HPl.out.2.2.2.1.kept H11.out.g) (Nat.le_trans HPl.out.2.2.2.2 H11.out.g.size) (by have := HTL.out; omega)).mono ?_
      rintro e w12 ⟨rfl, g12⟩
      rw [HS2.out]
      have H12 : Keep (ST wl w12 bh br base (ls.take (i + 1)).flatten (ls.take (i + 1)).flatten) := ⟨H11.out.grow g12⟩
      clear g12
      go_wp2_with fail
      refine ⟨⟨i + 1, by omega, by go_num, H12⟩, ?_⟩
      simp [intOf]; omega
    · obtain rfl : i = n := by omega
      have HE : Keep (ST wl wr bh br base ls.flatten ls.flatten) := ⟨by
        have := hrel.out
        rwa [List.take_of_length_le (by omega)] at this⟩
      clear hrel
      go_wp2_with fail
      refine (sum_any bh _ _ HE.out.h (HPl.out.2.2.1.kept HE.out.g (by simp)) (by have := HFB.out; omega)).mono ?_
      rintro e w11 ⟨rfl, g11⟩
      rw [HS.out]
      have H11 : Keep (wl.grownBy w11 none) := ⟨HE.out.g.trans g11⟩
      clear g11
      go_wp2_with fail
      refine (rof_any a i c ls _ (HPl.out.1.kept H11.out) (HPl.out.2.1.kept HPl.out.1 H11.out) (HPl.out.2.2.2.1.kept H11.out) (Nat.le_trans HPl.out.2.2.2.2 H11.out.size) (by omega) (by have := HFB.out; omega)).mono ?_
      rintro e w12 ⟨rfl, g12⟩
      rw [HS.out]
      have H12 : Keep (w.grownBy w12 none) := ⟨Hl.out.trans (H11.out.trans g12)⟩
      clear g12
      go_wp2_with fail
      go_ret
      exact ⟨rfl, H12.out⟩
end Go.Proofs.YtabiomfgmdnikaaDoor
