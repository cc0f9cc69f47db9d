/- the laws' said -/
import Derived.Test.YtabiomfgmdnikaaDoorR3
namespace Go.Proofs.YtabiomfgmdnikaaDoor
open Go Go.RowKit

def l8B (n j : Nat) : ByteArray := ⟨((Mac.len8 n).take j).toArray⟩
def oneB (v : UInt8) : ByteArray := ⟨#[v]⟩
theorem l8B_sl (n j : Nat) : sl (l8B n j) = (Mac.len8 n).take j := sl_mk _
theorem oneB_sl (v : UInt8) : sl (oneB v) = [v] := rfl
theorem l8B_size (n j : Nat) (hj : j ≤ 8) : (l8B n j).size = j := by rw [← sl_len, l8B_sl, List.length_take, Mac.len8_len]; omega
theorem l8B_step (s : ByteArray) (n j : Nat) (hj : j < 8) : s ++ l8B n j ++ oneB (UInt8.ofNat (n / 2 ^ (56 - 8 * j))) = s ++ l8B n (j + 1) := by
  apply sl_inj
  rw [sl_app, sl_app, sl_app, l8B_sl, l8B_sl, oneB_sl, List.append_assoc]
  congr 1
  have h := len8_get n j hj
  obtain ⟨h1, e1⟩ := List.getElem?_eq_some_iff.1 h
  rw [List.take_succ_eq_append_getElem h1, e1]
theorem l8B_eight (n : Nat) : l8B n 8 = len8B n := rfl
theorem l8B_none (s : ByteArray) (n : Nat) : s ++ l8B n 0 = s := by
  apply sl_inj
  rw [sl_app, l8B_sl]; simp
theorem cvt_one (v : UInt8) (W : World) : (convert 24 9 (.slice (some ⟨W.heap.size, 0, none⟩) 1 1)).run Tryd.prog (W.alloc (.cells #[.int .u8 v.toNat] 5)) = .ok (.string (oneB v)) (W.alloc (.cells #[.int .u8 v.toNat] 5)) := by
  have hb : BytesOf (W.alloc (.cells #[.int .u8 v.toNat] 5)) (some ⟨W.heap.size, 0, none⟩) 1 1 [v] :=
    ⟨rfl, Nat.le_refl _, fun _ => ⟨_, 0, rfl, fun j y hy => by
      rw [Nat.zero_add]
      refine (Has.newA W #[.int .u8 v.toNat] 5).cellv j _ ?_
      match j, hy with
      | 0, hy => obtain rfl : v = y := by simpa using hy
                 rfl
      | j + 1, hy => simp at hy⟩⟩
  exact cvt_back _ _ _ _ _ hb (by simp)

set_option maxRecDepth 100000 in
set_option maxHeartbeats 4000000 in
theorem lsaid_any (use : ByteArray) (a : Option Addr) (n c : Nat) (ps : List ByteArray) (w : World) (hp : Strs w a n ps) (hs : (saidB use ps).size ≤ 1125899906842624) :
    Calls Tryd.prog 13 #[.string use, .slice a n c] w fun e w' => e = .returned (.string (saidB use ps)) ∧ w.grownBy w' none := by
  have HP : Keep (Strs w a n ps) := ⟨hp⟩
  have hpl := hp.len
  have hn : n ≤ 1125899906842624 := by
    have h1 := flat_many (ps.map sl)
    rw [saidB_size] at hs
    simp only [Mac.said, List.length_append, List.length_cons] at hs
    rw [List.length_map, hp.len] at h1; omega
  have hu : use.size ≤ 1125899906842624 := by
    rw [saidB_size] at hs
    simp only [Mac.said, List.length_append, List.length_cons, sl_len] at hs
    omega
  clear hp
  have ha1 := addS use { data := #[0] } (by have : (ByteArray.mk #[0]).size = 1 := rfl
                                            omega)
  rw [saidB_zero use ps] at ha1
  go_enter Tryd.func13, Tryd.ntmps13
  go_wp2_with fail
  go_loopw [5, 6] (fun v t w' => ∃ (i : Nat) (s : ByteArray), i ≤ n ∧ t = .int .i64 i ∧ v = .string s ∧ Keep (s = saidB use (ps.take i) ∧ w.grownBy w' none)) (fun _ t _ => n - (intOf t).toNat)
  case atStart => exact ⟨0, _, by omega, rfl, rfl, ⟨rfl, World.grownBy.refl _ _⟩⟩
  case round =>
    obtain ⟨i, s, hi, rfl, rfl, hrel⟩ := hrel
    by_cases hli : i < n
    · obtain ⟨B, o, rfl, hat⟩ := HP.out.at_ (by omega)
      obtain ⟨p, hp⟩ : ∃ p, ps[i]? = some p := ⟨_, List.getElem?_eq_getElem (by omega)⟩
      have hc : wr.cell? ⟨B, o + i, none⟩ = some (.string p) := hrel.out.2.cell (hat i p hp) (by simp)
      have HCW : Keep (∀ W, wr.grownBy W none → W.cell? ⟨B, o + i, none⟩ = some (.string p)) := ⟨fun W g => (hrel.out.2.trans g).cell (hat i p hp) (by simp)⟩
      have hst := saidB_step use ps i p hp
      rw [← hrel.out.1] at hst
      have hle := saidB_le use ps (i + 1)
      rw [hst, ByteArray.size_append, ByteArray.size_append, len8B_size] at hle
      have ha3 := addS (s ++ len8B p.size) p (by rw [ByteArray.size_append, len8B_size]; omega)
      have hp64 : p.size < 18446744073709551616 := by omega
      have HG : Keep (w.grownBy wr none) := ⟨hrel.out.2⟩
      have HST : Keep (saidB use (ps.take (i + 1)) = s ++ len8B p.size ++ p) := ⟨hst⟩
      have hss : s.size ≤ 1125899906842624 := by omega
      clear hat hp hrel hst hle
      rename World => wo
      go_wp2_with fail
      go_loopw [5, 8] (fun v t w' => ∃ (j : Nat) (x : ByteArray), j ≤ 8 ∧ t = .int .i64 (56 - 8 * (j : Int)) ∧ v = .string x ∧ Keep (x = s ++ l8B p.size j ∧ wo.grownBy w' none)) (fun _ t _ => (intOf t + 8).toNat)
      case atStart => exact ⟨0, s, by omega, rfl, rfl, ⟨(l8B_none s p.size).symm, World.grownBy.refl _ _⟩⟩
      case round =>
        obtain ⟨j, x, hj, rfl, rfl, hin⟩ := hrel
        by_cases hlj : j < 8
        · obtain ⟨kk, hkk⟩ : ∃ kk : Nat, kk + 8 * j = 56 := ⟨56 - 8 * j, by omega⟩
          have e56 : (56 : Int) - 8 * (j : Int) = (kk : Int) := by omega
          obtain ⟨v, hv⟩ : ∃ v, UInt8.ofNat (p.size / 2 ^ kk) = v := ⟨_, rfl⟩
          have hv2 : (p.size : Int) / 2 ^ kk % 256 = (v.toNat : Int) := by rw [← hv]; simp
          have hcv := cvt_one v
          have hxs : x.size ≤ 1125899906842632 := by rw [hin.out.1, ByteArray.size_append, l8B_size _ _ hj]; omega
          have hax := addS x (oneB v) (by have : (oneB v).size = 1 := rfl
                                          omega)
          have HX : Keep (x ++ oneB v = s ++ l8B p.size (j + 1)) := ⟨by
            rw [hin.out.1, ← hv, show kk = 56 - 8 * j by omega]; exact l8B_step s p.size j hlj⟩
          have HI : Keep (wo.grownBy wr none) := ⟨hin.out.2⟩
          generalize oneB v = ov at hcv hax HX
          rw [e56]
          clear hin hv
          go_wp2_with fail
          refine ⟨⟨j + 1, _, by omega, by congr 1; omega, rfl, ⟨HX.out, HI.out.trans (World.grownBy_alloc _ _ _)⟩⟩, ?_⟩
          simp only [intOf]; omega
        · obtain rfl : j = 8 := by omega
          have hc2 : wr.cell? ⟨B, o + i, none⟩ = some (.string p) := HCW.out wr hin.out.2
          have hx8 : x = s ++ len8B p.size := by rw [hin.out.1]; rfl
          rw [← hx8] at ha3
          have H8 : Keep (w.grownBy wr none ∧ x ++ p = saidB use (ps.take (i + 1))) := ⟨HG.out.trans hin.out.2, by rw [HST.out, hx8]⟩
          clear hin hx8
          go_wp2_with fail
          refine ⟨⟨i + 1, _, by omega, by go_num, rfl, ⟨H8.out.2, H8.out.1⟩⟩, ?_⟩
          simp [intOf]; omega
    · have HE : Keep (s = saidB use ps ∧ w.grownBy wr none) := ⟨by
        have h := hrel.out.1
        rw [List.take_of_length_le (by omega)] at h
        exact ⟨h, hrel.out.2⟩⟩
      clear hrel
      go_wp2_with fail
      go_ret
      exact ⟨by rw [← HE.out.1]; rfl, HE.out.2⟩
end Go.Proofs.YtabiomfgmdnikaaDoor
