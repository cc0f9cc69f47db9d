/- view: small functions -/
import Derived.Test.YtgedlabmndlooaaGreatCB
import Derived.Test.YtgedlabmndlooaaGreatShelf
namespace Go.Proofs.YtgedlabmndlooaaGreat
open Go Go.RowKit Go.Maps

theorem gr_below {w w' : World} (h : Below w.heap.size w w') : w.grownBy w' none := ⟨h.os, h.tape, h.output, h.size, fun k hk _ => h.block k hk⟩
set_option maxRecDepth 100000 in
theorem clone_c (s : ByteArray) (w : World) (hs : s.size ≤ 281474976710656) :
    Calls Tryz.prog 49 #[.string s] w fun e w' => e = .returned (.string s) ∧ w.grownBy w' none := by
  go_enter Tryz.func49, Tryz.ntmps49
  go_wp2_with fail
  refine (Tryz.stringslite_Clone s _ hs).mono ?_
  rintro e w1 ⟨rfl, hB⟩
  have HG : Keep (w.grownBy w1 none) := ⟨gr_below hB⟩
  clear hB
  go_wp2_with fail
  go_ret
  exact ⟨rfl, HG.out⟩
/-- a number within 0 and m -/
def kpZ (x m : Int) : Int := max 0 (min x m)
theorem kpZ_in (x m : Int) (hm : 0 ≤ m) : 0 ≤ kpZ x m ∧ kpZ x m ≤ m := by unfold kpZ; omega
set_option maxRecDepth 100000 in
theorem kept_v (x m : Int) (W : World) : Calls Tryz.prog 42 #[iv x, iv m] W fun e w' => e = .returned (iv (kpZ x m)) ∧ w' = W := by
  have m1 : ∀ (ts : Array TypeId) (t : TypeId) (W : World), (Builtin.min_ ts t #[.int .i64 x, .int .i64 m]).run Tryz.prog W = .ok (.int .i64 (min x m)) W := fun ts t W => by
    rw [run_min_int2]
    congr 2
    split <;> omega
  have m2 : ∀ (ts : Array TypeId) (t : TypeId) (W : World), (Builtin.max_ ts t #[.int .i64 0, .int .i64 (min x m)]).run Tryz.prog W = .ok (.int .i64 (kpZ x m)) W := fun ts t W => by
    rw [run_max_int2]
    congr 2
    unfold kpZ
    split <;> omega
  generalize min x m = q at *
  generalize kpZ x m = r at *
  go_enter Tryz.func42, Tryz.ntmps42
  go_wp2_with fail
  go_ret
  exact ⟨rfl, rfl⟩
/-- the first car of a player -/
def ixZ (L : List Cr) (p : Int) : Int := ((L.findIdx? (fun c => c.pl == p)).map (fun i => (i : Int))).getD (-1)
theorem ixZ_none {L : List Cr} {p : Int} (h : ∀ (t : Nat) c, L[t]? = some c → c.pl ≠ p) : ixZ L p = -1 := by
  unfold ixZ
  rw [List.findIdx?_eq_none_iff.2 (fun c hc => by
    obtain ⟨t, ht, e⟩ := List.mem_iff_getElem.1 hc
    have := h t c (by rw [List.getElem?_eq_getElem ht, e])
    simpa using this)]
  rfl
theorem ixZ_some {L : List Cr} {p : Int} {i : Nat} {c : Cr} (h : ∀ (t : Nat) d, t < i → L[t]? = some d → d.pl ≠ p) (hc : L[i]? = some c) (hp : c.pl = p) : ixZ L p = (i : Int) := by
  unfold ixZ
  obtain ⟨hi, e⟩ := List.getElem?_eq_some_iff.1 hc
  rw [List.findIdx?_eq_some_iff_getElem.2 ⟨hi, by rw [e]; simpa using hp, fun j hj => by
    have := h j L[j] hj (List.getElem?_eq_getElem (by omega))
    simpa using this⟩]
  rfl
abbrev fvP (pb : Nat) : Value := .func (.func 30) #[] #[pt pb]
theorem efvP : ∀ args w, (callFunc 30 args).run Tryz.prog w = .ok (.enter 30 args) w := enters_of Tryz.func30 (by kernel_rfl) rfl
set_option maxRecDepth 100000 in
set_option maxHeartbeats 16000000 in
theorem isP (c : Cr) (p : Int) (pb : Nat) (W : World) (hk : W.cell? ⟨pb, 0, none⟩ = some (iv p)) : Calls Tryz.prog 30 #[vlC c, pt pb] W fun e w' => e = .returned (.bool (c.pl == p)) ∧ W.grownBy w' none := by
  have g1 := gr_alloc W (.cells #[iv c.pl, .string c.nm, iv c.x, iv c.y, iv c.sx, iv c.sy, iv c.hd, iv c.he, iv c.en, iv c.am, iv c.co, iv c.wa, iv c.sp, iv c.sc] 26) none
  have HG := Keep.mk g1
  have h0 := (Has.newA W #[iv c.pl, .string c.nm, iv c.x, iv c.y, iv c.sx, iv c.sy, iv c.hd, iv c.he, iv c.en, iv c.am, iv c.co, iv c.wa, iv c.sp, iv c.sc] 26).cellv 0 _ rfl
  have h1 := g1.cell hk (by simp)
  clear g1
  go_enter Tryz.func30, Tryz.ntmps30
  go_wp2_with fail
  go_ret
  exact ⟨rfl, HG.out⟩
set_option maxRecDepth 100000 in
set_option maxHeartbeats 16000000 in
theorem idx_c (W : World) (v : Value) (L : List Cr) (p : Int) (pb : Nat) (hn : L.length ≤ 281474976710656) (hv : Ls crv 14 W v L) (hp : W.cell? ⟨pb, 0, none⟩ = some (iv p)) :
    Calls Tryz.prog 29 #[v, fvP pb] W fun e W' => e = .returned (iv (ixZ L p)) ∧ W.grownBy W' none := by
  have HV := Keep.mk hv
  obtain ⟨a, cap, rfl, hv⟩ := hv
  obtain ⟨n, hnn⟩ : ∃ n, L.length = n := ⟨_, rfl⟩
  rw [hnn] at hn ⊢
  have HN := Keep.mk hnn
  have HA := Keep.mk hv
  have HPC := Keep.mk hp
  have HB0 := Keep.mk (World.grownBy.refl W none)
  obtain ⟨du, hdu⟩ := under26
  have ef := efvP
  clear hv hp hnn HV
  go_enter Tryz.func29, Tryz.ntmps29
  go_wp2_with fail
  go_loopw [8] (fun u8 wr => ∃ i : Nat, i ≤ n ∧ u8 = iv i ∧ Keep (∀ (t : Nat) d, t < i → L[t]? = some d → d.pl ≠ p) ∧ Keep (W.grownBy wr none)) (fun u8 _ => (n - intOf u8).toNat)
  case atStart => exact ⟨0, by omega, rfl, ⟨fun t d h => by omega⟩, HB0⟩
  case round =>
    clear HB0
    obtain ⟨i, hi, rfl, HI, HB⟩ := hrel
    by_cases hlt : i < n
    · have hlt1 : (i : Int) < (n : Int) := by omega
      have hi0 : (0 : Int) ≤ (i : Int) := by omega
      have hit : ((i : Nat) : Int).toNat = i := by omega
      have hiw : IntKind.i64.wrap ((i : Int) + 1) = ((i + 1 : Nat) : Int) := by rw [IntKind.wrap_i64]; omega
      obtain ⟨c, hc⟩ : ∃ c, L[i]? = some c := ⟨_, List.getElem?_eq_getElem (by rw [HN.out]; exact hlt)⟩
      obtain ⟨g, o, e, q⟩ := HA.out (by rw [HN.out]; omega)
      subst e
      have HR : Keep (wr.rangeAt g (o + i * 14) (crv c)) := ⟨fun r u hu => HB.out.cell (q i c hc r u hu) (by simp)⟩
      have HCC := Keep.mk hc
      have HPW := Keep.mk (HB.out.cell HPC.out (by simp))
      have HIN : Keep (i < n) := ⟨hlt⟩
      clear q hc hlt hi
      go_wp2_with (first
        | (show wpList _ _ _ ({ dst := _, op := Op.load 26 _, type := _, pos := _, after := _, guard := _ } :: _) _ _
           refine wpList_load_mid rfl 26 _ rfl _ _ rfl _ _ HR.out hdu.1 hdu.2 info26 ?_))
      refine (isP c p pb wr HPW.out).mono ?_
      rintro e w1 ⟨rfl, g1⟩
      have HB2 := Keep.mk (HB.out.trans g1)
      clear g1 HB HR HPW
      by_cases hcp : c.pl = p
      · have hb : (c.pl == p) = true := by simp [hcp]
        have HE : Keep (ixZ L p = (i : Int)) := ⟨ixZ_some HI.out HCC.out hcp⟩
        rw [hb]
        clear hb hcp
        go_wp2_with fail
        go_ret
        exact ⟨by rw [HE.out]; rfl, HB2.out⟩
      · have hb : (c.pl == p) = false := by simp [hcp]
        have HI2 : Keep (∀ (t : Nat) d, t < i + 1 → L[t]? = some d → d.pl ≠ p) := ⟨fun t d ht hd => by
          by_cases e : t = i
          · subst e
            rw [HCC.out] at hd
            injection hd with hd
            subst hd
            exact hcp
          · exact HI.out t d (by omega) hd⟩
        rw [hb]
        clear hb hcp
        go_wp2_with fail
        go_roundw
        case rel => exact ⟨i + 1, HIN.out, rfl, HI2, HB2⟩
        case measure => simp [intOf]; have := HIN.out; omega
    · have hlt1 : ¬ (i : Int) < (n : Int) := by omega
      have HE : Keep (ixZ L p = -1) := ⟨ixZ_none (fun t c hc => HI.out t c (by have := (List.getElem?_eq_some_iff.1 hc).1; rw [HN.out] at this; omega) hc)⟩
      clear hlt hi
      go_wp2_with fail
      go_ret
      exact ⟨by rw [HE.out]; rfl, HB.out⟩
/-- one that is seen -/
structure Sn where
  kd : Int
  id : Int
  x : Int
  y : Int
  hd : Int
deriving DecidableEq
def snv (s : Sn) : List Value := [iv s.kd, iv s.id, iv s.x, iv s.y, iv s.hd]
structure SnOk (s : Sn) : Prop where
  kd : I64 s.kd
  id : I64 s.id
  x : I64 s.x
  y : I64 s.y
  hd : I64 s.hd
theorem snv_one (c : Sn) : ∀ v ∈ snv c, v.oneCell' = true := by
  intro v hv
  simp only [snv, List.mem_cons, List.not_mem_nil, or_false] at hv
  rcases hv with rfl | rfl | rfl | rfl | rfl <;> rfl
theorem snv_len (c : Sn) : (snv c).length = 5 := rfl
theorem under33 : ∃ d, Tryz.prog.underlying 33 = some d ∧ d.isRow = true := ⟨_, Tryz.underlying33, rfl⟩
theorem info33 : (Tryz.prog.info? 33).map (·.size) = some 5 := by kernel_rfl
abbrev vlN (c : Sn) : Value := .agg #[iv c.kd, iv c.id, iv c.x, iv c.y, iv c.hd]
def orZ (a b : Int) : Int := if a = 0 then b else a
set_option maxRecDepth 100000 in
set_option maxHeartbeats 16000000 in
theorem or_c (a b : Int) (g c : Nat) (W : World) (h0 : W.cell? ⟨g, 0, none⟩ = some (iv a)) (h1 : W.cell? ⟨g, 1, none⟩ = some (iv b)) : Calls Tryz.prog 69 #[sl g 2 c] W fun e w' => e = .returned (iv (orZ a b)) ∧ w' = W := by
  have H0 := Keep.mk h0
  have H1 := Keep.mk h1
  clear h0 h1
  go_enter Tryz.func69, Tryz.ntmps69
  go_wp2_with fail
  go_loopw [8] (fun u8 wr => ∃ i : Nat, i ≤ 2 ∧ u8 = iv i ∧ wr = W ∧ Keep ((0 < i → a = 0) ∧ (1 < i → b = 0))) (fun u8 _ => (2 - intOf u8).toNat)
  case atStart => exact ⟨0, by omega, rfl, rfl, ⟨⟨fun h => by omega, fun h => by omega⟩⟩⟩
  case round =>
    obtain ⟨i, hi, rfl, hw, HI⟩ := hrel
    subst hw
    by_cases hlt : i < 2
    · have hlt1 : (i : Int) < 2 := by omega
      have hi0 : (0 : Int) ≤ (i : Int) := by omega
      have hit : ((i : Nat) : Int).toNat = i := by omega
      have hiw : IntKind.i64.wrap ((i : Int) + 1) = ((i + 1 : Nat) : Int) := by rw [IntKind.wrap_i64]; omega
      obtain ⟨z, hz, hzc⟩ : ∃ z, (if i = 0 then a else b) = z ∧ wr.cell? ⟨g, i, none⟩ = some (iv z) := by
        by_cases e : i = 0
        · subst e; exact ⟨a, rfl, H0.out⟩
        · obtain rfl : i = 1 := by omega
          exact ⟨b, rfl, H1.out⟩
      have HZ := Keep.mk hz
      have HIN : Keep (i < 2) := ⟨hlt⟩
      clear hz hlt hi
      by_cases h0 : z = 0
      · have hb : (z == 0) = true := by simp [h0]
        have HI2 : Keep ((0 < i + 1 → a = 0) ∧ (1 < i + 1 → b = 0)) := ⟨by
          have q := HZ.out
          have q2 := HIN.out
          by_cases e : i = 0
          · subst e
            rw [if_pos rfl] at q
            exact ⟨fun _ => by rw [q]; exact h0, fun h => by omega⟩
          · rw [if_neg e] at q
            exact ⟨fun _ => HI.out.1 (by omega), fun _ => by rw [q]; exact h0⟩⟩
        obtain ⟨z', hz'⟩ : ∃ z', z = z' := ⟨_, rfl⟩
        have HQ := Keep.mk h0
        clear h0
        go_wp2_with fail
        all_goals first
          | (exfalso; rename_i hq; have := HQ.out; simp_all; done)
          | skip
        go_roundw
        case rel => exact ⟨i + 1, HIN.out, rfl, by first | rfl | trivial, HI2⟩
        case measure => simp [intOf]; have := HIN.out; omega
      · have hb : (z == 0) = false := by simp [h0]
        have HE : Keep (orZ a b = z) := ⟨by
          have q := HZ.out
          unfold orZ
          by_cases e : i = 0
          · rw [if_pos e] at q
            rw [if_neg (by rw [q]; exact h0)]
            exact q
          · rw [if_neg e] at q
            rw [if_pos (HI.out.1 (by omega))]
            exact q⟩
        go_wp2_with fail
        go_ret
        exact ⟨by rw [HE.out]; rfl, rfl⟩
    · have hlt1 : ¬ (i : Int) < 2 := by omega
      have HE : Keep (orZ a b = 0) := ⟨by
        unfold orZ
        rw [if_pos (HI.out.1 (by omega))]
        exact HI.out.2 (by omega)⟩
      clear hlt hi
      go_wp2_with fail
      go_ret
      exact ⟨by rw [HE.out]; rfl, rfl⟩
end Go.Proofs.YtgedlabmndlooaaGreat
