import Derived.Test.YtabiomfgmdnikaaDoorA8
namespace Go.Proofs.YtabiomfgmdnikaaDoor
open Go Go.RowKit

/-- the bytes of a slice -/
structure BytesOf (w : World) (a : Option Addr) (n c : Nat) (q : List UInt8) : Prop where
  len : q.length = n
  cap : n ≤ c
  at_ : 0 < n → ∃ B o, a = some ⟨B, o, none⟩ ∧ ∀ j x, q[j]? = some x → w.cell? ⟨B, o + j, none⟩ = some (bv x)
theorem BytesOf.kept {w w' : World} {a : Option Addr} {n c : Nat} {q : List UInt8} (h : BytesOf w a n c q) (hg : w.grownBy w' none) : BytesOf w' a n c q := by
  refine ⟨h.len, h.cap, fun hn => ?_⟩
  obtain ⟨B, o, h1, h3⟩ := h.at_ hn
  exact ⟨B, o, h1, fun j x hx => hg.cell (h3 j x hx) (by simp)⟩
theorem BytesOf.apart {w w' : World} {a : Option Addr} {n c b : Nat} {q : List UInt8} (h : BytesOf w a n c q) (hg : w.grownBy w' none) (hb : w.heap.size ≤ b) : Bytes b w' a n c q := by
  refine ⟨h.len, h.cap, fun hn => ?_⟩
  obtain ⟨B, o, h1, h3⟩ := h.at_ hn
  refine ⟨B, o, h1, ?_, fun j x hx => hg.cell (h3 j x hx) (by simp)⟩
  have hl : 0 < q.length := by rw [h.len]; exact hn
  have := World.block_lt_of_cell? w _ (h3 0 q[0] (by rw [List.getElem?_eq_getElem hl]))
  simp at this
  omega
/-- a list of slices -/
structure Parts (w : World) (a : Option Addr) (n : Nat) (ps : List (List UInt8)) : Prop where
  len : ps.length = n
  at_ : 0 < n → ∃ B o, a = some ⟨B, o, none⟩ ∧ ∀ j q, ps[j]? = some q → ∃ a' n' c', w.cell? ⟨B, o + j, none⟩ = some (.slice a' n' c') ∧ BytesOf w a' n' c' q

theorem take_flat (ps : List (List UInt8)) (i : Nat) (hi : i < ps.length) : (ps.take (i + 1)).flatten = (ps.take i).flatten ++ ps[i] := by
  rw [List.take_succ_eq_append_getElem hi, List.flatten_append]; simp
theorem flat_le (ps : List (List UInt8)) (i : Nat) : (ps.take i).flatten.length ≤ ps.flatten.length := by
  have e : ps.flatten = (ps.take i).flatten ++ (ps.drop i).flatten := by rw [← List.flatten_append, List.take_append_drop]
  rw [e, List.length_append]; omega

structure OfRel (w w' : World) (ps : List (List UInt8)) (i : Nat) : Prop where
  r : Has w' w.heap.size ((List.replicate 32 (0 : UInt8)).map bv) 36
  h : HashOf w' (w.heap.size + 1) (ps.take i).flatten
  g : w.grownBy w' none
theorem OfRel.start (w w1 : World) (C : Array Value) (ps : List (List UInt8)) (hC : C = ((List.replicate 32 (0 : UInt8)).map bv).toArray) (h1 : HashOf w1 (w.alloc (.cells C 36)).heap.size []) (g1 : (w.alloc (.cells C 36)).grownBy w1 none) : OfRel w w1 ps 0 := by
  subst hC
  rw [heap1] at h1
  exact ⟨(Has.new _ _ _).kept g1 (by simp), h1, (World.grownBy_alloc _ _ _).trans g1⟩

set_option maxRecDepth 100000 in
set_option maxHeartbeats 8000000 in
theorem of_any (a : Option Addr) (n c : Nat) (ps : List (List UInt8)) (w : World) (hp : Parts w a n ps) (hk : Kc w) (hn : n ≤ 4611686018427387904) (hT : ps.flatten.length ≤ 4611686018427387904) :
    Calls Tryd.prog 18 #[.slice a n c] w fun e w' => e = .returned (.agg ((Sha.sha ps.flatten).map bv).toArray) ∧ w.grownBy w' none := by
  have HPS : Keep (Parts w a n ps) := ⟨hp⟩
  have HK : Keep (Kc w) := ⟨hk⟩
  have HT : Keep (ps.flatten.length ≤ 4611686018427387904) := ⟨hT⟩
  clear hp hk hT
  go_enter Tryd.func18, Tryd.ntmps18
  go_wp2_with (go_at_call 21; refine (new_any _).mono ?_; rintro e w1 ⟨rfl, h1, g1⟩)
  have H1 : Keep (OfRel w w1 ps 0) := ⟨OfRel.start w w1 _ ps rfl h1 g1⟩
  clear h1 g1
  have hb0 : (2 : Nat) ≠ w.heap.size + 1 := by have := HK.out.lt; omega
  go_loopw [9] (fun t w' => ∃ i : Nat, i ≤ n ∧ t = .int .i64 i ∧ Keep (OfRel w w' ps i)) (fun t _ => n - (intOf t).toNat)
  case atStart => exact ⟨0, by omega, rfl, H1⟩
  case round =>
    obtain ⟨i, hi, rfl, hrel⟩ := hrel
    by_cases hli : i < n
    · obtain ⟨B, o, rfl, hat⟩ := HPS.out.at_ (by omega)
      have hpl := HPS.out.len
      obtain ⟨a', n', c', hcell, hby⟩ := hat i (ps[i]'(by omega)) (List.getElem?_eq_getElem (by omega))
      have hc : wr.cell? ⟨B, o + i, none⟩ = some (.slice a' n' c') := hrel.out.g.cell hcell (by simp)
      have HB : Keep (Bytes (w.heap.size + 1) wr a' n' c' (ps[i]'(by omega))) := ⟨hby.apart hrel.out.g (by omega)⟩
      have HLE : Keep ((ps.take i).flatten.length + (ps[i]'(by omega)).length ≤ 4611686018427387904) := ⟨by
        have h1 := flat_le ps (i + 1)
        have h2 := HT.out
        rw [take_flat ps i (by omega), List.length_append] at h1
        omega⟩
      have HTF : Keep ((ps.take (i + 1)).flatten = (ps.take i).flatten ++ (ps[i]'(by omega))) := ⟨take_flat ps i (by omega)⟩
      have HKr : Keep (Kc wr) := ⟨HK.out.kept hrel.out.g (by simp)⟩
      clear hat hcell hby
      go_wp2_with (go_at_call 23; refine (write_any _ _ _ _ _ _ _ hrel.out.h HKr.out hb0 HB.out HLE.out).mono ?_; rintro e w3 ⟨rfl, h3, g3⟩; have H3 : Keep (OfRel w w3 ps (i + 1)) := ⟨hrel.out.r.kept g3 (by simp), by rw [HTF.out]; exact h3, gr_new hrel.out.g g3 (by omega)⟩; clear h3 g3)
      refine ⟨⟨i + 1, by omega, by go_num, H3⟩, ?_⟩
      simp [intOf]; omega
    · have HE : Keep (OfRel w wr ps ps.length ∧ (ps.take ps.length).flatten = ps.flatten) := ⟨by
        have hin : i = ps.length := by rw [HPS.out.len]; omega
        rw [← hin]; exact hrel.out, by rw [List.take_length]⟩
      have HKr : Keep (Kc wr) := ⟨HK.out.kept HE.out.1.g (by simp)⟩
      have HSL : Keep ((Tryd.prog.info? 36).map (·.size) = some ((Sha.sha ps.flatten).map bv).length ∧ ((Sha.sha ps.flatten).map bv).length = 32) := ⟨by
        have : ((Sha.sha ps.flatten).map bv).length = 32 := by
          rw [List.length_map, Sha.sha, out_len, Sha.fold_len]; rfl
        rw [this]; exact ⟨size25, rfl⟩⟩
      clear hrel
      go_wp2_with (first
        | (go_at_call 25; refine (sum_any _ ps.flatten _ (by rw [← HE.out.2]; exact HE.out.1.h) HKr.out (by have := HT.out; omega)).mono ?_; rintro e w3 ⟨rfl, g3⟩
           generalize hsv : Sha.sha ps.flatten = S
           have HSV : Keep (Sha.sha ps.flatten = S) := ⟨hsv⟩
           have H4 : Keep (Has w3 w.heap.size ((List.replicate 32 (0 : UInt8)).map bv) 36 ∧ w.grownBy w3 none) := ⟨HE.out.1.r.kept g3 (by simp), HE.out.1.g.trans g3⟩
           have HSS : Keep ((Tryd.prog.info? 36).map (·.size) = some (S.map bv).length ∧ (S.map bv).length = 32) := ⟨by rw [← hsv]; exact HSL.out⟩
           clear g3 hsv)
        | (refine wpList_store_mid rfl 36 _ _ rfl _ _ _ rfl rfl (H4.out.1.there 0 _ (by rw [List.size_toArray, HSS.out.2]; simp)) HSS.out.1 (bytes_one _) ?_))
      refine ret_cell (b := w.heap.size) (cs := S.map bv) (t := 36) rfl rfl ?_ under25 rfl HSS.out.1 rfl ⟨by rw [HSV.out], ?_⟩
      · exact H4.out.1.setAll _ (by rw [HSS.out.2]; simp)
      · exact gr_new H4.out.2 (gr_sets _ _ _ _) (Nat.le_refl _)
end Go.Proofs.YtabiomfgmdnikaaDoor
