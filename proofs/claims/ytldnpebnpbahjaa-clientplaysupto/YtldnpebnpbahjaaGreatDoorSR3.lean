import Derived.Test.YtldnpebnpbahjaaGreatDoorX27
import Derived.Test.YtldnpebnpbahjaaGreatDoorX22
set_option maxRecDepth 100000
namespace Go.Proofs.YtldnpebnpbahjaaGreatDoor.Pk
open Go Go.RowKit
theorem rdec_c (s : ByteArray) (w : World) : CRt 60 #[.string s] w (.tuple #[dv (dec (sl s)).1, .int .i64 (dec (sl s)).2]) := by
  by_cases h0 : (dec (sl s)).2 = 0
  case neg => exact rd_no s w h0
  have h : ¬ 1200 < s.size := fun q => by
    rw [dec_big _ (by rw [sl_len]; exact q)] at h0; cases h0
  have hm : (sl s).take 3 = magic := Classical.byContradiction fun q => by
    rw [dec_magic _ (by rw [sl_len]; exact h) q] at h0; cases h0
  have hk : ¬ (kindL (sl s) < 1 ∨ 7 < kindL (sl s)) := fun q => by
    rw [dec_none _ (by rw [sl_len]; exact h) hm q] at h0; cases h0
  have h3 := magic_len hm
  have h4 : 3 < s.size := by
    (refine Classical.byContradiction fun q => hk (.inl ?_)); unfold kindL; rw [if_pos (.inl (by rw [sl_len]; omega))]; omega
  obtain ⟨y, hy⟩ : ∃ y, (sl s)[3]? = some y := ⟨_, List.getElem?_eq_getElem (by rw [sl_len]; omega)⟩; have hki := kind_is s hm h4 hy; rw [hki] at hk
  have hc : y = 1 ∨ y = 2 ∨ y = 3 ∨ y = 4 ∨ y = 5 ∨ y = 6 ∨ y = 7 := by
    (have e : y = UInt8.ofNat y.toNat := by simp); (have : y.toNat = 1 ∨ y.toNat = 2 ∨ y.toNat = 3 ∨ y.toNat = 4 ∨ y.toNat = 5 ∨ y.toNat = 6 ∨ y.toNat = 7 := by omega); rcases this with q | q | q | q | q | q | q <;> rw [q] at e <;> simp [e]
  have hle : (sl s).length ≤ 1200 := by rw [sl_len]; omega
  rcases hc with rfl | rfl | rfl | rfl | rfl | rfl | rfl
  · refine rd_1 s w h hm hy h4 (Classical.byContradiction fun q => ?_) h0; rw [dec_1 _ hle hm hki, sl_len, if_neg q] at h0; cases h0
  · refine rd_2 s w h hm hy h4 (Classical.byContradiction fun q => ?_) h0; rw [dec_2 _ hle hm hki, sl_len, if_neg q] at h0; cases h0
  · refine rd_3 s w h hm hy h4 (Classical.byContradiction fun q => ?_) h0; rw [dec_3 _ hle hm hki, sl_len, if_neg q] at h0; cases h0
  · refine rd_4 s w h hm hy h4 (Classical.byContradiction fun q => ?_) h0; rw [dec_4 _ hle hm hki, sl_len, if_neg q] at h0; cases h0
  · refine rd_5 s w h hm hy h4 (Classical.byContradiction fun q => ?_) h0; rw [dec_5 _ hle hm hki, sl_len, if_neg q] at h0; cases h0
  · refine rd_6 s w h hm hy h4 (Classical.byContradiction fun q => ?_) h0; rw [dec_6 _ hle hm hki, sl_len, if_neg q] at h0; cases h0
  · refine rd_7 s w h hm hy h4 (Classical.byContradiction fun q => ?_) h0; rw [dec_7 _ hle hm hki, sl_len, if_neg q] at h0; cases h0
end Go.Proofs.YtldnpebnpbahjaaGreatDoor.Pk
namespace Go.Proofs.YtldnpebnpbahjaaGreatDoor.Pk.Sn
open Go Go.RowKit
theorem SeenN.kept {w w' w2 : World} {a : Option Addr} {S : List Sn} (h : SeenN w w' a S) (g : w'.grownBy w2 none) : SeenN w w2 a S := fun q => by
  obtain ⟨sb, so, e, l, r⟩ := h q; exact ⟨sb, so, e, l, fun j s' hj i z hz => g.cell (r j s' hj i z hz) (by simp)⟩
end Go.Proofs.YtldnpebnpbahjaaGreatDoor.Pk.Sn
