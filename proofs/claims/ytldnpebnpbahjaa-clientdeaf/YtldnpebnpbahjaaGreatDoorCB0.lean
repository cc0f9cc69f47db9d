import Derived.Test.YtldnpebnpbahjaaGreatDoorCA1
import Derived.Test.YtldnpebnpbahjaaGreatDoorFJ4
import Derived.Test.YtldnpebnpbahjaaGreatDoorX19
/- datagrams that are sealed, over lists -/
namespace Go.Proofs.YtldnpebnpbahjaaGreatDoor.Pk.Sn
open Go Go.RowKit

theorem seal_code {d : Dg} {key : ByteArray} (hk : 3 ≤ d.kind ∧ d.kind ≤ 7) : (sealD d key).2 = (enc d.bare).2 := by
  unfold sealD
  rw [if_pos hk]
  split
  · rename_i h; exact h.symm
  · rfl
theorem enc_fit {d : Dg} (hf : d.fine) (h0 : fieldsL d.kind ≠ []) (h : ∀ f ∈ fieldsL d.kind, fitF d f) (hl : (headL d ++ bytesF d (fieldsL d.kind)).length ≤ 1200) : enc d = (headL d ++ bytesF d (fieldsL d.kind), 0) := by
  rw [enc_is d hf, if_neg h0, if_pos h, if_neg (by omega)]
theorem enc_miss {d : Dg} (hf : d.fine) (h0 : fieldsL d.kind ≠ []) (h : ¬ ∀ f ∈ fieldsL d.kind, fitF d f) : enc d = ([], 73) := by
  rw [enc_is d hf, if_neg h0, if_neg h]
/-- what is sealed is read again, and is sealed -/
theorem seal_good {d : Dg} {key : ByteArray} (hf : d.fine) (h : (sealD d key).2 = 0) : ∃ x : ByteArray, dec (sl (sealD d key).1) = (onlyD (d.wear x), 0) ∧ sealed (sealD d key).1 key = true ∧ (sealD d key).1.size ≤ 1200 ∧ 52 ≤ (sealD d key).1.size := by
  obtain ⟨B, t, e, _, _, ht, hB, hB2, _, hd, _, hs⟩ := seal_all d key hf h
  refine ⟨ba t, ?_, ?_, ?_, ?_⟩
  · rw [e, show sl (ba (B ++ t)) = B ++ t from sl_mk _]; exact hd
  · rw [e]; exact hs
  · rw [e, ba_size, List.length_append]; omega
  · rw [e, ba_size, List.length_append]; omega
theorem fl1 : fieldsL 1 = [.nonce, .zeros] := by simp [fieldsL]
theorem fl2 : fieldsL 2 = [.nonce, .epoch, .cookie] := by simp [fieldsL]
theorem fl3 : fieldsL 3 = [.nonce, .epoch, .cookie, .name, .tag] := by simp [fieldsL]
theorem fl4 : fieldsL 4 = [.nonce, .session, .player, .salt, .tag] := by simp [fieldsL]
theorem fl5 : fieldsL 5 = [.session, .seq, .thr, .turn, .flags, .tag] := by simp [fieldsL]
theorem fl7 : fieldsL 7 = [.session, .seq, .tag] := by simp [fieldsL]
theorem on1 (d : Dg) (h : d.kind = 1) : onlyD d = { Dg.zero 1 with nonce := d.nonce } := by unfold onlyD; rw [h, fl1]; rfl
theorem on2 (d : Dg) (h : d.kind = 2) : onlyD d = { Dg.zero 2 with nonce := d.nonce, epoch := d.epoch, cookie := d.cookie } := by unfold onlyD; rw [h, fl2]; rfl
theorem on3 (d : Dg) (h : d.kind = 3) : onlyD d = { Dg.zero 3 with nonce := d.nonce, epoch := d.epoch, cookie := d.cookie, name := d.name, tag := d.tag } := by unfold onlyD; rw [h, fl3]; rfl
theorem on4 (d : Dg) (h : d.kind = 4) : onlyD d = { Dg.zero 4 with nonce := d.nonce, session := d.session, player := d.player, salt := d.salt, tag := d.tag } := by unfold onlyD; rw [h, fl4]; rfl
theorem on5 (d : Dg) (h : d.kind = 5) : onlyD d = { Dg.zero 5 with session := d.session, seq := d.seq, thr := d.thr, turn := d.turn, fire := d.fire, boost := d.boost, tag := d.tag } := by unfold onlyD; rw [h, fl5]; rfl
theorem on7 (d : Dg) (h : d.kind = 7) : onlyD d = { Dg.zero 7 with session := d.session, seq := d.seq, tag := d.tag } := by unfold onlyD; rw [h, fl7]; rfl
theorem head4 (d : Dg) : (headL d).length = 4 := rfl
theorem z32 : zero32.size = 32 := zero32_size
theorem fit1 {x : Int} : fitsS x 1 ↔ -128 ≤ x ∧ x ≤ 127 := by
  unfold fitsS
  constructor
  · rintro ⟨_, h1, h2⟩
    have e : ((256 ^ (1 : Int).toNat : Nat) : Int) = 256 := rfl
    rw [e] at h1 h2
    omega
  · intro h
    refine ⟨by decide, ?_⟩
    have e : ((256 ^ (1 : Int).toNat : Nat) : Int) = 256 := rfl
    rw [e]
    omega
/-- does a command fit? -/
def cmdOk (t u : Int) : Prop := -128 ≤ t ∧ t ≤ 127 ∧ -128 ≤ u ∧ u ≤ 127
instance (t u : Int) : Decidable (cmdOk t u) := by unfold cmdOk; infer_instance
theorem cmd_code {d : Dg} {key : ByteArray} (hf : d.fine) (hk : d.kind = 5) : (sealD d key).2 = if cmdOk d.thr d.turn then 0 else 73 := by
  rw [seal_code (by omega)]
  have hb : d.bare.fine := Dg.bare_fine hf
  have hk2 : d.bare.kind = 5 := hk
  have h0 : fieldsL d.bare.kind ≠ [] := by rw [hk2, fl5]; simp
  by_cases h : cmdOk d.thr d.turn
  · rw [if_pos h, enc_fit hb h0]
    · rw [hk2, fl5]
      intro f hf2
      simp only [List.mem_cons, List.not_mem_nil, or_false] at hf2
      rcases hf2 with rfl | rfl | rfl | rfl | rfl | rfl
      · exact hb.s
      · exact hb.q
      · exact fit1.2 ⟨h.1, h.2.1⟩
      · exact fit1.2 ⟨h.2.2.1, h.2.2.2⟩
      · exact trivial
      · exact z32
    · rw [hk2, fl5]
      simp only [bytesF, List.map_cons, List.map_nil, List.flatten_cons, List.flatten_nil, List.length_append, head4, lyB, be_len, sl_len, List.length_nil]
      show 4 + (8 + (8 + (1 + (1 + (1 + (zero32.size + 0)))))) ≤ 1200
      rw [z32]; omega
  · rw [if_neg h, enc_miss hb h0]
    rw [hk2, fl5]
    intro q
    apply h
    have q1 := fit1.1 (q .thr (by simp))
    have q2 := fit1.1 (q .turn (by simp))
    exact ⟨q1.1, q1.2, q2.1, q2.2⟩
theorem bye_code {d : Dg} {key : ByteArray} (hf : d.fine) (hk : d.kind = 7) : (sealD d key).2 = 0 := by
  rw [seal_code (by omega)]
  have hb : d.bare.fine := Dg.bare_fine hf
  have hk2 : d.bare.kind = 7 := hk
  rw [enc_fit hb (by rw [hk2, fl7]; simp)]
  · rw [hk2, fl7]
    intro f hf2
    simp only [List.mem_cons, List.not_mem_nil, or_false] at hf2
    rcases hf2 with rfl | rfl | rfl
    · exact hb.s
    · exact hb.q
    · exact z32
  · rw [hk2, fl7]
    simp only [bytesF, List.map_cons, List.map_nil, List.flatten_cons, List.flatten_nil, List.length_append, head4, lyB, be_len, sl_len, List.length_nil]
    show 4 + (8 + (8 + (zero32.size + 0))) ≤ 1200
    rw [z32]; omega
theorem con_code {d : Dg} {key : ByteArray} (hf : d.fine) (hk : d.kind = 3) (h1 : d.nonce.size = 16) (h2 : d.cookie.size = 32) (h3 : d.name.size ≤ 24) : (sealD d key).2 = 0 := by
  rw [seal_code (by omega)]
  have hb : d.bare.fine := Dg.bare_fine hf
  have hk2 : d.bare.kind = 3 := hk
  rw [enc_fit hb (by rw [hk2, fl3]; simp)]
  · rw [hk2, fl3]
    intro f hf2
    simp only [List.mem_cons, List.not_mem_nil, or_false] at hf2
    rcases hf2 with rfl | rfl | rfl | rfl | rfl
    · exact h1
    · exact hb.e
    · exact h2
    · show d.name.size ≤ 255; omega
    · exact z32
  · rw [hk2, fl3]
    simp only [bytesF, List.map_cons, List.map_nil, List.flatten_cons, List.flatten_nil, List.length_append, head4, lyB, be_len, sl_len, List.length_nil, List.length_cons]
    show 4 + (d.nonce.size + (8 + (d.cookie.size + (d.name.size + 1 + (zero32.size + 0))))) ≤ 1200
    rw [z32]; omega
theorem wel_code {d : Dg} {key : ByteArray} (hf : d.fine) (hk : d.kind = 4) (h1 : d.nonce.size = 16) (h2 : d.salt.size = 16) (h3 : 0 ≤ d.player ∧ d.player ≤ 255) : (sealD d key).2 = 0 := by
  rw [seal_code (by omega)]
  have hb : d.bare.fine := Dg.bare_fine hf
  have hk2 : d.bare.kind = 4 := hk
  rw [enc_fit hb (by rw [hk2, fl4]; simp)]
  · rw [hk2, fl4]
    intro f hf2
    simp only [List.mem_cons, List.not_mem_nil, or_false] at hf2
    rcases hf2 with rfl | rfl | rfl | rfl | rfl
    · exact h1
    · exact hb.s
    · refine ⟨by decide, ?_⟩
      show u64 d.player < 256
      unfold u64; omega
    · exact h2
    · exact z32
  · rw [hk2, fl4]
    simp only [bytesF, List.map_cons, List.map_nil, List.flatten_cons, List.flatten_nil, List.length_append, head4, lyB, be_len, sl_len, List.length_nil]
    show 4 + (d.nonce.size + (8 + (1 + (d.salt.size + (zero32.size + 0))))) ≤ 1200
    rw [z32]; omega
theorem hel_code {d : Dg} (hf : d.fine) (hk : d.kind = 1) (h1 : d.nonce.size = 16) : (enc d).2 = 0 ∧ (enc d).1.length = 96 := by
  have e := enc_fit hf (by rw [hk, fl1]; simp) (by
    rw [hk, fl1]
    intro f hf2
    simp only [List.mem_cons, List.not_mem_nil, or_false] at hf2
    rcases hf2 with rfl | rfl
    · exact h1
    · exact trivial) (by
    rw [hk, fl1]
    simp only [bytesF, List.map_cons, List.map_nil, List.flatten_cons, List.flatten_nil, List.length_append, head4, lyB, sl_len, List.length_nil]
    show 4 + (d.nonce.size + (76 + 0)) ≤ 1200
    omega)
  rw [e, hk, fl1]
  refine ⟨rfl, ?_⟩
  simp only [bytesF, List.map_cons, List.map_nil, List.flatten_cons, List.flatten_nil, List.length_append, head4, lyB, sl_len, List.length_nil]
  show 4 + (d.nonce.size + (76 + 0)) = 96
  omega
theorem coo_code {d : Dg} (hf : d.fine) (hk : d.kind = 2) (h1 : d.nonce.size = 16) (h2 : d.cookie.size = 32) : (enc d).2 = 0 := by
  have e := enc_fit hf (by rw [hk, fl2]; simp) (by
    rw [hk, fl2]
    intro f hf2
    simp only [List.mem_cons, List.not_mem_nil, or_false] at hf2
    rcases hf2 with rfl | rfl | rfl
    · exact h1
    · exact hf.e
    · exact h2) (by
    rw [hk, fl2]
    simp only [bytesF, List.map_cons, List.map_nil, List.flatten_cons, List.flatten_nil, List.length_append, head4, lyB, be_len, sl_len, List.length_nil]
    show 4 + (d.nonce.size + (8 + (d.cookie.size + 0))) ≤ 1200
    omega)
  rw [e]
end Go.Proofs.YtldnpebnpbahjaaGreatDoor.Pk.Sn
