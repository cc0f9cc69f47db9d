import Derived.Test.YtjbkoablleneeaaGreatDoorX4
import Derived.Lib.ConvBytes
/- sums of texts -/
namespace Go.Proofs.YtjbkoablleneeaaGreatDoor
open Go Go.RowKit
def sl (s : ByteArray) : List UInt8 := s.data.toList
theorem sl_len (s : ByteArray) : (sl s).length = s.size := Array.length_toList
theorem sl_mk (l : List UInt8) : sl ⟨l.toArray⟩ = l := by simp [sl]
theorem sl_app (a b : ByteArray) : sl (a ++ b) = sl a ++ sl b := by simp [sl]
theorem sl_inj {a b : ByteArray} (h : sl a = sl b) : a = b := by
  apply ByteArray.ext
  exact Array.toList_inj.1 h

set_option maxRecDepth 100000 in
theorem under5 : Tryz.prog.underlying 5 = some (.int .u8) := by kernel_rfl
set_option maxRecDepth 100000 in
theorem under9 : Tryz.prog.underlying 9 = some .string := by kernel_rfl
set_option maxRecDepth 100000 in
theorem beqL (a b : ByteArray) : (a.toList == b.toList) = decide (sl a = sl b) := by
  rw [ByteArray.toList_eq, ByteArray.toList_eq]
  by_cases h : sl a = sl b
  · rw [decide_eq_true h]; unfold sl at h; rw [h]; simp
  · rw [decide_eq_false h]; unfold sl at h; simpa using h
set_option maxRecDepth 100000 in
theorem addS (a b : ByteArray) (h : a.size + b.size ≤ 9223372036854775807) (W : World) : (Op.stringOp .add a b).run Tryz.prog W = .ok (.string (a ++ b)) W := by
  simp only [Op.stringOp]
  rw [if_neg (by have : IntKind.i64.max = 9223372036854775807 := by decide
                 omega)]
  rfl
/-- '[]byte(s)' -/
theorem cvt (s : ByteArray) (W : World) : (convert 9 36 (.string s)).run Tryz.prog W = .ok (.slice (some ⟨W.heap.size, 0, none⟩) s.size (grownCap W s.size 0 5)) (Lib.bytesWorld W 5 s) :=
  Lib.run_convert_string_bytes (P := Tryz.prog) W 9 36 5 s (u := .string) under9 under28 under5
set_option maxRecDepth 100000 in
theorem gr_bytes (W : World) (s : ByteArray) : W.grownBy (Lib.bytesWorld W 5 s) none :=
  ⟨rfl, rfl, rfl, by rw [Lib.bytesWorld_size]; omega, fun k hk _ => Lib.bytesWorld_at_old _ _ _ _ hk⟩
set_option maxRecDepth 100000 in
theorem bytes_cells (W : World) (s : ByteArray) (j : Nat) (x : UInt8) (hx : (sl s)[j]? = some x) : (Lib.bytesWorld W 5 s).cell? ⟨W.heap.size, j, none⟩ = some (bv x) := by
  have hj : j < s.size := by rw [← sl_len]; exact (List.getElem?_eq_some_iff.1 hx).1
  rw [Lib.bytesWorld_cell _ _ _ j hj]
  unfold sl at hx
  simp [List.getD, hx]
set_option maxRecDepth 100000 in
theorem bytes_of (W : World) (s : ByteArray) (c : Nat) (hc : s.size ≤ c) : BytesOf (Lib.bytesWorld W 5 s) (some ⟨W.heap.size, 0, none⟩) s.size c (sl s) :=
  ⟨sl_len s, hc, fun _ => ⟨_, 0, rfl, fun j x hx => by rw [Nat.zero_add]; exact bytes_cells W s j x hx⟩⟩
/-- 'string(b)' -/
theorem cvt_back (w : World) (a : Option Addr) (n c : Nat) (q : List UInt8) (h : BytesOf w a n c q) (ha : a ≠ none) : (convert 36 9 (.slice a n c)).run Tryz.prog w = .ok (.string ⟨q.toArray⟩) w := by
  have key : ∀ ad : Addr, (∀ j x, q[j]? = some x → w.cell? (ad.add j) = some (bv x)) → (convert 36 9 (.slice (some ad) n c)).run Tryz.prog w = .ok (.string ⟨q.toArray⟩) w := fun ad hc => by
    have := run_convert_bytes_back (P := Tryz.prog) w 36 9 5 ad c q under28 under5 under9 (fun j hj => hc j _ (List.getElem?_eq_getElem hj))
    rw [h.len] at this
    exact this
  cases a with
  | none => exact absurd rfl ha
  | some ad =>
    refine key ad fun j x hx => ?_
    have hn : 0 < n := by rw [← h.len]; have := (List.getElem?_eq_some_iff.1 hx).1; omega
    obtain ⟨B, o, e, h3⟩ := h.at_ hn
    obtain rfl := Option.some.inj e
    rw [Addr.add_mid]; exact h3 j x hx
set_option maxRecDepth 100000 in
theorem sl_back (s : ByteArray) : (⟨(sl s).toArray⟩ : ByteArray) = s := by
  apply ByteArray.ext; simp [sl]
set_option maxRecDepth 100000 in
theorem cvt_cvt (s : ByteArray) (W : World) (c : Nat) (hc : s.size ≤ c) : (convert 36 9 (.slice (some ⟨W.heap.size, 0, none⟩) s.size c)).run Tryz.prog (Lib.bytesWorld W 5 s) = .ok (.string s) (Lib.bytesWorld W 5 s) := by
  have := cvt_back _ _ _ _ _ (bytes_of W s c hc) (by simp)
  rwa [sl_back] at this
set_option maxRecDepth 100000 in
set_option maxHeartbeats 8000000 in
theorem of_any (a : Option Addr) (n c : Nat) (ps : List (List UInt8)) (w : World) (hp : Parts w a n ps) (hk : Kc w) (hn : n ≤ 4611686018427387904) (hT : ps.flatten.length ≤ 4611686018427387904) :
    Calls Tryz.prog 62 #[.slice a n c] w fun e w' => e = .returned (.agg ((Sha.sha ps.flatten).map bv).toArray) ∧ w.grownBy w' none := by
  have HPS : Keep (Parts w a n ps) := ⟨hp⟩
  have HK : Keep (Kc w) := ⟨hk⟩
  have HT : Keep (ps.flatten.length ≤ 4611686018427387904) := ⟨hT⟩
  clear hp hk hT
  go_enter Tryz.func62, Tryz.ntmps62
  go_wp2_with (go_at_call 99; refine (new_any _).mono ?_; rintro e w1 ⟨rfl, h1, g1⟩)
  have H1 : Keep (OfRel w w1 ps 0) := ⟨OfRel.start w w1 _ ps rfl h1 g1⟩
  clear h1 g1
  have hb0 : (3 : Nat) ≠ w.heap.size + 1 := by have := HK.out.lt; omega
  go_loopw [9] (fun t w' => ∃ i : Nat, i ≤ n ∧ t = .int .i64 i ∧ Keep (OfRel w w' ps i)) (fun t _ => n - (intOf t).toNat)
  case atStart => exact ⟨0, by omega, rfl, H1⟩
  case round =>
    obtain ⟨i, hi, rfl, hrel⟩ := hrel
    by_cases hli : i < n
    · obtain ⟨B, o, rfl, hat⟩ := HPS.out.at_ (by omega)
      have hpl := HPS.out.len
      obtain ⟨a', n', c', hcell, hby⟩ := hat i (ps[i]'(by omega)) (List.getElem?_eq_getElem (by omega))
      have hc : wr.cell? ⟨B, o + i, none⟩ = some (.slice a' n' c') := hrel.out.g.cell hcell (by simp)
      have HB : Keep (Bytes (w.heap.size + 1) wr a' n' c' (ps[i]'(by omega))) := ⟨hby.apart hrel.out.g (by omega)⟩
      have HLE : Keep ((ps.take i).flatten.length + (ps[i]'(by omega)).length ≤ 4611686018427387904) := ⟨by
        have h1 := flat_le ps (i + 1)
        have h2 := HT.out
        rw [take_flat ps i (by omega), List.length_append] at h1
        omega⟩
      have HTF : Keep ((ps.take (i + 1)).flatten = (ps.take i).flatten ++ (ps[i]'(by omega))) := ⟨take_flat ps i (by omega)⟩
      have HKr : Keep (Kc wr) := ⟨HK.out.kept hrel.out.g (by simp)⟩
      clear hat hcell hby
      go_wp2_with (go_at_call 100; refine (write_any _ _ _ _ _ _ _ hrel.out.h HKr.out hb0 HB.out HLE.out).mono ?_; rintro e w3 ⟨rfl, h3, g3⟩; have H3 : Keep (OfRel w w3 ps (i + 1)) := ⟨hrel.out.r.kept g3 (by simp), by rw [HTF.out]; exact h3, gr_new hrel.out.g g3 (by omega)⟩; clear h3 g3)
      refine ⟨⟨i + 1, by omega, by go_num, H3⟩, ?_⟩
      simp [intOf]; omega
    · have HE : Keep (OfRel w wr ps ps.length ∧ (ps.take ps.length).flatten = ps.flatten) := ⟨by
        have hin : i = ps.length := by rw [HPS.out.len]; omega
        rw [← hin]; exact hrel.out, by rw [List.take_length]⟩
      have HKr : Keep (Kc wr) := ⟨HK.out.kept HE.out.1.g (by simp)⟩
      have HSL : Keep ((Tryz.prog.info? 76).map (·.size) = some ((Sha.sha ps.flatten).map bv).length ∧ ((Sha.sha ps.flatten).map bv).length = 32) := ⟨by
        have : ((Sha.sha ps.flatten).map bv).length = 32 := by
          rw [List.length_map, Sha.sha, out_len, Sha.fold_len]; rfl
        rw [this]; exact ⟨size25, rfl⟩⟩
      clear hrel
      go_wp2_with (first
        | (go_at_call 101; refine (sum_any _ ps.flatten _ (by rw [← HE.out.2]; exact HE.out.1.h) HKr.out (by have := HT.out; omega)).mono ?_; rintro e w3 ⟨rfl, g3⟩
           generalize hsv : Sha.sha ps.flatten = S
           have HSV : Keep (Sha.sha ps.flatten = S) := ⟨hsv⟩
           have H4 : Keep (Has w3 w.heap.size ((List.replicate 32 (0 : UInt8)).map bv) 76 ∧ w.grownBy w3 none) := ⟨HE.out.1.r.kept g3 (by simp), HE.out.1.g.trans g3⟩
           have HSS : Keep ((Tryz.prog.info? 76).map (·.size) = some (S.map bv).length ∧ (S.map bv).length = 32) := ⟨by rw [← hsv]; exact HSL.out⟩
           clear g3 hsv)
        | (refine wpList_store_mid rfl 76 _ _ rfl _ _ _ rfl rfl (H4.out.1.there 0 _ (by rw [List.size_toArray, HSS.out.2]; simp)) HSS.out.1 (bytes_one _) ?_))
      refine ret_cell (b := w.heap.size) (cs := S.map bv) (t := 76) rfl rfl ?_ under25 rfl HSS.out.1 rfl ⟨by rw [HSV.out], ?_⟩
      · exact H4.out.1.setAll _ (by rw [HSS.out.2]; simp)
      · exact gr_new H4.out.2 (gr_sets _ _ _ _) (Nat.le_refl _)
theorem sha_len (T : List UInt8) : (Sha.sha T).length = 32 := by
  rw [Sha.sha, out_len, Sha.fold_len]; rfl
theorem sumVar (w3 : World) (C : Array Value) (hC : C.size = 32) (S : List UInt8) (hS : S.length = 32) (w4 : World) (h : (w3.alloc (.cells C 76)).setCells w3.heap.size 0 (S.map bv) = w4) : Has w4 w3.heap.size (S.map bv) 76 ∧ w3.grownBy w4 none := by
  subst h
  refine ⟨(Has.newA w3 C 76).setAll _ (by simp [hC, hS]), gr_new (World.grownBy_alloc _ _ _) (gr_sets _ _ _ _) (Nat.le_refl _)⟩
theorem info36 (S : List UInt8) (hS : S.length = 32) : (Tryz.prog.info? 76).map (·.size) = some (S.map bv).toArray.size := by
  rw [List.size_toArray, List.length_map, hS]; exact size25
theorem str_back (w : World) (b : Nat) (S : List UInt8) (h32 : S.length = 32) (h : Has w b (S.map bv) 76) : (convert 36 9 (.slice (some ⟨b, 0, none⟩) 32 32)).run Tryz.prog w = .ok (.string ⟨S.toArray⟩) w := by
  have := run_convert_bytes_back (P := Tryz.prog) w 36 9 5 ⟨b, 0, none⟩ 32 S under28 (by kernel_rfl) (by kernel_rfl) (fun j hj => by
    rw [Addr.add_mid, Nat.zero_add]
    exact h.cellv j _ (by rw [List.getElem?_map, List.getElem?_eq_getElem hj]; rfl))
  rw [h32] at this
  exact this
theorem parts_one (w : World) (a : Option Addr) (n c : Nat) (q : List UInt8) (hq : BytesOf w a n c q) : Parts (w.alloc (.cells #[.slice a n c] 36)) (some ⟨w.heap.size, 0, none⟩) 1 [q] := by
  refine ⟨rfl, fun _ => ⟨_, 0, rfl, fun j p hp => ?_⟩⟩
  match j, hp with
  | 0, hp =>
    obtain rfl : q = p := by simpa using hp
    refine ⟨a, n, c, ?_, hq.kept (World.grownBy_alloc _ _ _)⟩
    rw [(Has.newA w #[.slice a n c] 36).cell]; rfl
  | j + 1, hp => simp at hp
theorem some_nil (W : World) (ad : Addr) (n c : Nat) : ∀ B o, (some ⟨W.heap.size, 0, none⟩ : Option Addr) = some ⟨B, o, none⟩ → ∀ j a' n' c', j < 1 → (W.alloc (.cells #[.slice (some ad) n c] 36)).cell? ⟨B, o + j, none⟩ = some (.slice a' n' c') → a' = none → c' = 0 := by
  intro B o e j a' n' c' hj hc hn
  have e' : W.heap.size = B ∧ 0 = o := by simpa using e
  obtain ⟨rfl, rfl⟩ := e'
  obtain rfl : j = 0 := by omega
  rw [(Has.newA W #[.slice (some ad) n c] 36).cell] at hc
  have hc' : Value.slice (some ad) n c = Value.slice a' n' c' := by simpa using hc
  injection hc' with e1 e2 e3
  rw [hn] at e1
  cases e1
def shaB (s : ByteArray) : ByteArray := ⟨(Sha.sha (sl s)).toArray⟩
theorem shaB_sl (s : ByteArray) : sl (shaB s) = Sha.sha (sl s) := sl_mk _
theorem shaB_size (s : ByteArray) : (shaB s).size = 32 := by rw [← sl_len, shaB_sl, sha_len]
set_option maxRecDepth 100000 in
set_option maxHeartbeats 4000000 in
theorem sumOf_c (s : ByteArray) (w : World) (hk : Kc w) (hs : s.size ≤ 4611686018427387904) :
    Calls Tryz.prog 33 #[.string s] w fun e w' => e = .returned (.string (shaB s)) ∧ w.grownBy w' none := by
  have HK : Keep (Kc w) := ⟨hk⟩
  clear hk
  have hc1 := cvt s
  have HP : Keep (Parts ((Lib.bytesWorld w 5 s).alloc (.cells #[.slice (some ⟨w.heap.size, 0, none⟩) s.size (grownCap w s.size 0 5)] 36)) (some ⟨(Lib.bytesWorld w 5 s).heap.size, 0, none⟩) 1 [sl s] ∧ w.grownBy ((Lib.bytesWorld w 5 s).alloc (.cells #[.slice (some ⟨w.heap.size, 0, none⟩) s.size (grownCap w s.size 0 5)] 36)) none) :=
    ⟨parts_one _ _ _ _ _ (bytes_of w s _ (grownCap_ge w s.size 0 5)), (gr_bytes w s).trans (World.grownBy_alloc _ _ _)⟩
  have HL : Keep ([sl s].flatten = sl s ∧ (sl s).length ≤ 4611686018427387904 ∧ (Sha.sha (sl s)).length = 32) := ⟨by simp, by rw [sl_len]; exact hs, sha_len _⟩
  go_enter Tryz.func33, Tryz.ntmps33
  go_wp2_with fail
  refine (of_any _ 1 1 [sl s] _ HP.out.1 (HK.out.kept HP.out.2 (by simp)) (by decide) (by rw [HL.out.1]; exact HL.out.2.1)).mono ?_
  rintro e w1 ⟨rfl, g1⟩
  have H1 : Keep (w.grownBy w1 none) := ⟨HP.out.2.trans g1⟩
  rw [HL.out.1]
  have HS3 : Keep ((Sha.sha (sl s)).length = 32) := ⟨HL.out.2.2⟩
  generalize hs4 : Sha.sha (sl s) = S4 at HS3 ⊢
  have HS4 : Keep (Sha.sha (sl s) = S4) := ⟨hs4⟩
  clear g1 hs4 HP HL
  go_wp2_with (
    (refine wpList_store_mid rfl 76 _ _ rfl _ _ _ rfl rfl ((Has.newA w1 _ 76).there 0 _ (by rw [List.size_toArray, List.length_map, HS3.out]; decide)) (info36 S4 HS3.out) (bytes_one _) ?_
     generalize hw6 : World.setCells _ _ _ _ = w6
     obtain ⟨h6, g6⟩ := sumVar w1 _ rfl S4 HS3.out w6 hw6
     have hcv := str_back w6 w1.heap.size S4 HS3.out h6
     have H6 : Keep (w.grownBy w6 none) := ⟨H1.out.trans g6⟩
     clear h6 g6 hw6))
  go_ret
  exact ⟨by rw [shaB, HS4.out]; rfl, H6.out⟩
set_option maxRecDepth 100000 in
set_option maxHeartbeats 4000000 in
theorem resum_c (s : ByteArray) (w : World) (hk : RK w) (h4 : 4 ≤ w.heap.size) (hs : s.size ≤ 4294967296) :
    Calls Tryz.prog 14 #[.string s] w fun e w' => e = .returned (.string (s ++ shaB s)) ∧ w.grownBy w' none := by
  have HK : Keep (RK w) := ⟨hk⟩
  clear hk
  have hc1 := cvt s
  have HP : Keep (Parts ((Lib.bytesWorld w 5 s).alloc (.cells #[.slice (some ⟨w.heap.size, 0, none⟩) s.size (grownCap w s.size 0 5)] 36)) (some ⟨(Lib.bytesWorld w 5 s).heap.size, 0, none⟩) 1 [sl s] ∧ w.grownBy ((Lib.bytesWorld w 5 s).alloc (.cells #[.slice (some ⟨w.heap.size, 0, none⟩) s.size (grownCap w s.size 0 5)] 36)) none) :=
    ⟨parts_one _ _ _ _ _ (bytes_of w s _ (grownCap_ge w s.size 0 5)), (gr_bytes w s).trans (World.grownBy_alloc _ _ _)⟩
  have HL : Keep ([sl s].flatten = sl s ∧ (sl s).length ≤ 4294967296 ∧ (Sha.sha (sl s)).length = 32) := ⟨by simp, by rw [sl_len]; exact hs, sha_len _⟩
  go_enter Tryz.func14, Tryz.ntmps14
  go_wp2_with fail
  refine (rof_any _ 1 1 [sl s] _ HP.out.1 (some_nil _ _ _ _) (HK.out.kept HP.out.2) (Nat.le_trans h4 HP.out.2.size) (by decide) (by rw [HL.out.1]; exact HL.out.2.1)).mono ?_
  rintro e w1 ⟨rfl, g1⟩
  have H1 : Keep (w.grownBy w1 none) := ⟨HP.out.2.trans g1⟩
  rw [HL.out.1]
  have HS3 : Keep ((Sha.sha (sl s)).length = 32) := ⟨HL.out.2.2⟩
  generalize hs4 : Sha.sha (sl s) = S4 at HS3 ⊢
  have HS4 : Keep (Sha.sha (sl s) = S4) := ⟨hs4⟩
  have ha := addS s ⟨S4.toArray⟩ (by rw [show (⟨S4.toArray⟩ : ByteArray).size = 32 by rw [← sl_len, sl_mk]; exact HS3.out]; omega)
  have hSz : (⟨S4.toArray⟩ : ByteArray).size = 32 := by rw [← sl_len, sl_mk]; exact HS3.out
  have HSB : Keep (shaB s = ⟨S4.toArray⟩) := ⟨by rw [shaB, hs4]⟩
  clear g1 hs4 HP HL
  go_wp2_with (
    (refine wpList_store_mid rfl 76 _ _ rfl _ _ _ rfl rfl ((Has.newA w1 _ 76).there 0 _ (by rw [List.size_toArray, List.length_map, HS3.out]; decide)) (info36 S4 HS3.out) (bytes_one _) ?_
     generalize hw6 : World.setCells _ _ _ _ = w6
     obtain ⟨h6, g6⟩ := sumVar w1 _ rfl S4 HS3.out w6 hw6
     have hcv := str_back w6 w1.heap.size S4 HS3.out h6
     have H6 : Keep (w.grownBy w6 none) := ⟨H1.out.trans g6⟩
     clear h6 g6 hw6
     generalize (⟨S4.toArray⟩ : ByteArray) = SB at hcv ha hSz HSB))
  go_ret
  exact ⟨by rw [HSB.out]; rfl, H6.out⟩
end Go.Proofs.YtjbkoablleneeaaGreatDoor

