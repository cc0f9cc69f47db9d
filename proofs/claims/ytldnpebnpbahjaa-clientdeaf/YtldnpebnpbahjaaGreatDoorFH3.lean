import Derived.Test.YtldnpebnpbahjaaGreatDoorX19
/- what is sealed, by its fields -/
namespace Go.Proofs.YtldnpebnpbahjaaGreatDoor.Pk
open Go Go.RowKit

set_option maxRecDepth 100000 in
theorem fields_tag {k : Int} (h : 3 ≤ k ∧ k ≤ 7) : ∃ fs, fieldsL k = fs ++ [.tag] ∧ ∀ f ∈ fs, f ≠ .tag := by
  have hk : k = 3 ∨ k = 4 ∨ k = 5 ∨ k = 6 ∨ k = 7 := by omega
  rcases hk with rfl | rfl | rfl | rfl | rfl
  · exact ⟨[.nonce, .epoch, .cookie, .name], rfl, by simp⟩
  · exact ⟨[.nonce, .session, .player, .salt], rfl, by simp⟩
  · exact ⟨[.session, .seq, .thr, .turn, .flags], rfl, by simp⟩
  · exact ⟨[.session, .seq, .view], rfl, by simp⟩
  · exact ⟨[.session, .seq], rfl, by simp⟩
def Dg.wear (d : Dg) (x : ByteArray) : Dg := { d with tag := x }
set_option maxRecDepth 100000 in
theorem lyB_wear (d : Dg) (x : ByteArray) (f : Fd) (h : f ≠ .tag) : lyB (d.wear x) f = lyB d f := by
  cases f <;> first | rfl | exact absurd rfl h
set_option maxRecDepth 100000 in
theorem fitF_wear (d : Dg) (x : ByteArray) (f : Fd) (h : f ≠ .tag) : fitF (d.wear x) f = fitF d f := by
  cases f <;> first | rfl | exact absurd rfl h
set_option maxRecDepth 100000 in
theorem bytes_wear (d : Dg) (x : ByteArray) (fs : List Fd) (h : ∀ f ∈ fs, f ≠ .tag) : bytesF (d.wear x) (fs ++ [.tag]) = bytesF d fs ++ sl x := by
  unfold bytesF
  rw [List.map_append, List.flatten_append]
  congr 1
  · congr 1
    exact List.map_congr_left (fun f hf => lyB_wear d x f (h f hf))
  · simp only [List.map_cons, List.map_nil, List.flatten_cons, List.flatten_nil, List.append_nil]; rfl
set_option maxRecDepth 100000 in
theorem Dg.wear_fine {d : Dg} (h : d.fine) (x : ByteArray) : (d.wear x).fine := ⟨h.k, h.e, h.s, h.p, h.q, h.h, h.t⟩
/-- a datagram that has a tag: its bytes ahead of the tag hang on no tag -/
theorem enc_wear (d : Dg) (hf : d.fine) (hk : 3 ≤ d.kind ∧ d.kind ≤ 7) : ∃ X : List UInt8, 4 ≤ X.length ∧ (∀ y : List UInt8, kindL (X ++ y) = d.kind) ∧
    ∀ x : ByteArray, x.size = 32 → enc (d.wear x) = @ite _ (∀ f ∈ fieldsL d.kind, f ≠ .tag → fitF d f) (Classical.propDecidable _) (if 1200 < X.length + 32 then ([], 72) else (X ++ sl x, 0)) ([], 73) := by
  obtain ⟨fs, hfs, hnt⟩ := fields_tag hk
  refine ⟨headL d ++ bytesF d fs, by simp [headL, magic], fun y => by rw [List.append_assoc]; exact (kind_head d (by omega) _).1, fun x hx => ?_⟩
  rw [enc_is _ (Dg.wear_fine hf x)]
  have hkk : (d.wear x).kind = d.kind := rfl
  have hh : headL (d.wear x) = headL d := rfl
  rw [hkk, hh, if_neg (fieldsL_some (by omega))]
  have e : bytesF (d.wear x) (fieldsL d.kind) = bytesF d fs ++ sl x := by rw [hfs]; exact bytes_wear d x fs hnt
  have hl : (headL d ++ (bytesF d fs ++ sl x)).length = (headL d ++ bytesF d fs).length + 32 := by
    rw [← List.append_assoc, List.length_append, sl_len, hx]
  have hq : (∀ f ∈ fieldsL d.kind, fitF (d.wear x) f) ↔ (∀ f ∈ fieldsL d.kind, f ≠ .tag → fitF d f) := by
    constructor
    · intro h f hm hne
      rw [← fitF_wear d x f hne]; exact h f hm
    · intro h f hm
      by_cases hne : f = .tag
      · subst hne; exact hx
      · rw [fitF_wear d x f hne]; exact h f hm hne
  rw [e, hl]
  by_cases h : ∀ f ∈ fieldsL d.kind, f ≠ .tag → fitF d f
  · rw [if_pos (hq.2 h), if_pos h, List.append_assoc]
  · rw [if_neg (fun c => h (hq.1 c)), if_neg h]
set_option maxRecDepth 100000 in
theorem zero32_size : zero32.size = 32 := by decide
/-- what Seal answers where it does not refuse -/
theorem seal_yes (d : Dg) (key : ByteArray) (hf : d.fine) (h : (sealD d key).2 = 0) : ∃ body : ByteArray, bodyB (sealD d key).1 = body ∧ (sealD d key).1 = body ++ hmacB key body ∧ enc (d.wear (hmacB key body)) = (sl (sealD d key).1, 0) ∧ (3 ≤ d.kind ∧ d.kind ≤ 7) ∧ 4 ≤ body.size ∧ body.size + 32 ≤ 1200 := by
  by_cases hk : 3 ≤ d.kind ∧ d.kind ≤ 7
  · obtain ⟨X, hX4, hXk, hX⟩ := enc_wear d hf hk
    have hb : enc d.bare = _ := hX zero32 zero32_size
    have hs : sealD d key = if (enc d.bare).2 = 0 then (bodyB (ba (enc d.bare).1) ++ hmacB key (bodyB (ba (enc d.bare).1)), 0) else (nob, (enc d.bare).2) := by rw [sealD, if_pos hk]
    by_cases hft : ∀ f ∈ fieldsL d.kind, f ≠ .tag → fitF d f
    · rw [if_pos hft] at hb
      by_cases hl : 1200 < X.length + 32
      · rw [if_pos hl] at hb
        rw [hs, hb] at h
        rw [if_neg (by decide)] at h; cases h
      · rw [if_neg hl] at hb
        have hbody : ∀ y : List UInt8, y.length = 32 → bodyB (ba (X ++ y)) = ba X := fun y hy => by
          rw [bodyB, show sl (ba (X ++ y)) = X ++ y from sl_mk _, bodyL, if_neg, List.length_append, hy, Nat.add_sub_cancel, List.take_left]
          rw [hXk, List.length_append, hy]
          omega
        have hb0 : bodyB (ba (X ++ sl zero32)) = ba X := hbody _ (by rw [sl_len]; exact zero32_size)
        rw [hb, if_pos rfl] at hs
        dsimp only at hs
        rw [hb0] at hs
        have hsl : ba X ++ hmacB key (ba X) = ba (X ++ sl (hmacB key (ba X))) := by
          apply sl_inj
          rw [sl_app, show sl (ba X) = X from sl_mk _, show sl (ba (X ++ sl (hmacB key (ba X)))) = X ++ sl (hmacB key (ba X)) from sl_mk _]
        refine ⟨ba X, ?_, by rw [hs], ?_, hk, by rw [ba_size]; exact hX4, by rw [ba_size]; omega⟩
        · rw [hs]
          dsimp only
          rw [hsl]; exact hbody _ (by rw [sl_len, hmacB_size])
        · rw [hX _ (hmacB_size _ _), if_pos hft, if_neg hl, hs]
          dsimp only
          rw [hsl, show sl (ba (X ++ sl (hmacB key (ba X)))) = X ++ sl (hmacB key (ba X)) from sl_mk _]
    · rw [if_neg hft] at hb
      rw [hs, hb] at h
      rw [if_neg (by decide)] at h; cases h
  · rw [sealD, if_neg hk] at h; cases h
set_option maxRecDepth 100000 in
theorem seal_dec (d : Dg) (key : ByteArray) (hf : d.fine) (h : (sealD d key).2 = 0) : ∃ body : ByteArray, bodyB (sealD d key).1 = body ∧ (sealD d key).1 = body ++ hmacB key body ∧ dec (sl (sealD d key).1) = (onlyD (d.wear (hmacB key body)), 0) := by
  obtain ⟨body, h1, h2, h3, _⟩ := seal_yes d key hf h
  refine ⟨body, h1, h2, ?_⟩
  have := dec_enc (d.wear (hmacB key body)) (Dg.wear_fine hf _) (by rw [h3])
  rw [h3] at this
  exact this
set_option maxRecDepth 100000 in
theorem cps_kind (d : Dg) : ∀ (fs : List Fd) (e : Dg), (cps d fs e).kind = e.kind
  | [], _ => rfl
  | f :: fs, e => by
    rw [cps, cps_kind d fs]
    cases f <;> rfl
end Go.Proofs.YtldnpebnpbahjaaGreatDoor.Pk
