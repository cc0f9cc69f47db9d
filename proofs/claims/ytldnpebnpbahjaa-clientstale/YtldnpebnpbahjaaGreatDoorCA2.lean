import Derived.Test.YtldnpebnpbahjaaGreatDoorCA1
import Derived.Test.YtldnpebnpbahjaaGreatDoorX35
/- keys of sessions, texts -/
namespace Go.Proofs.YtldnpebnpbahjaaGreatDoor.Pk.Sn
open Go Go.RowKit

structure KN (w w' : World) (n i : Nat) : Prop where
  p : Has w' w.heap.size ((l8To n i).map bv) 183
  g : w.grownBy w' none
theorem str8 (w : World) (b : Nat) (S : List UInt8) (h8 : S.length = 8) (h : Has w b (S.map bv) 183) : (convert 60 9 (.slice (some ⟨b, 0, none⟩) 8 8)).run Tryz.prog w = .ok (.string ⟨S.toArray⟩) w := by
  have := run_convert_bytes_back (P := Tryz.prog) w 60 9 5 ⟨b, 0, none⟩ 8 S under28 (by kernel_rfl) (by kernel_rfl) (fun j hj => by
    rw [Addr.add_mid, Nat.zero_add]
    exact h.cellv j _ (by rw [List.getElem?_map, List.getElem?_eq_getElem hj]; rfl))
  rw [h8] at this
  exact this
theorem strs_new (w : World) (ps : List ByteArray) : Strs (w.alloc (.cells (ps.map Value.string).toArray 9)) (some ⟨w.heap.size, 0, none⟩) ps.length ps :=
  ⟨rfl, fun _ => ⟨_, 0, rfl, fun j p hp => by
    rw [Nat.zero_add]
    exact (Has.newA w (ps.map Value.string).toArray 9).cellv j _ (by simp [hp])⟩⟩
set_option maxHeartbeats 8000000 in
set_option maxRecDepth 100000 in
theorem sessionKey_c (sc nc salt : ByteArray) (n : Nat) (w : World) (hk : Kc w) (h1 : sc.size ≤ 1099511627776) (h2 : nc.size ≤ 1099511627776) (h3 : salt.size ≤ 1099511627776) :
    Calls Tryz.prog 167 #[.string sc, .string nc, .string salt, .int .u64 n] w fun e w' => e = .returned (.string (keyB sc nc salt n)) ∧ w.grownBy w' none := by
  have HK : Keep (Kc w) := ⟨hk⟩
  have HN := Keep.mk (And.intro h1 (And.intro h2 h3))
  clear hk h1 h2 h3
  go_enter Tryz.func167, Tryz.ntmps167
  go_wp2_with fail
  go_loopw [11] (fun t w' => ∃ i : Nat, i ≤ 8 ∧ t = .int .i64 i ∧ Keep (KN w w' n i)) (fun t _ => 8 - (intOf t).toNat)
  case atStart => exact ⟨0, by omega, rfl, ⟨Has.newA _ _ _, World.grownBy_alloc _ _ _⟩⟩
  case round =>
    obtain ⟨i, hi, rfl, hrel⟩ := hrel
    by_cases hli : i < 8
    · obtain ⟨v, hv⟩ : ∃ v, UInt8.ofNat (n / 2 ^ (56 - 8 * i)) = v := ⟨_, rfl⟩
      have H2 : Keep (KN w (wr.setCell ⟨w.heap.size, i, none⟩ (.int .u8 v.toNat)) n (i + 1)) := ⟨by
        have := hrel.out.p.setCell i (bv v)
        rw [← List.map_set, ← hv, l8To_step n i hli, hv] at this
        exact this, gr_new hrel.out.g (gr_set _ _ _ _) (Nat.le_refl _)⟩
      have hf := hrel.out.p.frozen i
      have hcl : (wr.cell? ⟨w.heap.size, i, none⟩).isSome = true := (hrel.out.p.there i 1 (by rw [List.length_map]; simp [l8To, Mac.len8]; omega) 0 (by decide)).1
      obtain ⟨y0, hc⟩ := Option.isSome_iff_exists.1 hcl
      have hv2 : (n : Int) / 2 ^ (56 - 8 * i) % 256 = (v.toNat : Int) := by
        rw [← hv]; simp
      clear hrel hv hcl
      go_wp2_with fail
      refine ⟨⟨i + 1, by omega, by go_num, H2⟩, ?_⟩
      simp [intOf]; omega
    · have HE : Keep (Has wr w.heap.size ((Mac.len8 n).map bv) 183 ∧ w.grownBy wr none ∧ Kc wr) := ⟨by
        obtain rfl : i = 8 := by omega
        exact ⟨hrel.out.p, hrel.out.g, HK.out.kept hrel.out.g (by simp)⟩⟩
      clear hrel
      have hcv := str8 wr w.heap.size (Mac.len8 n) rfl HE.out.1
      obtain ⟨e8, he8⟩ : ∃ q, (⟨(Mac.len8 n).toArray⟩ : ByteArray) = q := ⟨_, rfl⟩
      have H8 := Keep.mk he8
      rw [he8] at hcv
      have HD : Keep (∀ w', wr.grownBy w' none → Strs w' (some ⟨wr.heap.size, 0, none⟩) 3 [nc, salt, e8] → Calls Tryz.prog 32 #[.string sc, .string { data := #[115, 101, 115, 115, 105, 111, 110] }, .slice (some ⟨wr.heap.size, 0, none⟩) 3 3] w' fun e w2 => e = .returned (.string (keyB sc nc salt n)) ∧ w'.grownBy w2 none) := ⟨fun w' g hs => by
        rw [show keyB sc nc salt n = deriveB sc sesU [nc, salt, e8] by rw [← he8]; rfl]
        exact derive_gen sc sesU _ 3 3 [nc, salt, e8] w' (HE.out.2.2.kept g (by simp)) hs (by have := HN.out; omega) (by show 7 ≤ _; omega) (by omega) (fun j p hj => by
          rcases j with _ | _ | _ | j
          · obtain rfl : nc = p := by simpa using hj
            have := HN.out; omega
          · obtain rfl : salt = p := by simpa using hj
            have := HN.out; omega
          · obtain rfl : e8 = p := by simpa using hj
            rw [← he8]; show 8 ≤ _; omega
          · simp at hj)⟩
      clear he8
      go_wp2_with fail
      refine (HD.out _ (World.grownBy_alloc _ _ _) (strs_new wr [nc, salt, e8])).mono ?_
      rintro e w3 ⟨rfl, g3⟩
      have HF := Keep.mk ((HE.out.2.1.trans (World.grownBy_alloc _ _ _)).trans g3)
      clear g3
      go_wp2_with fail
      go_ret
      exact ⟨rfl, HF.out⟩
end Go.Proofs.YtldnpebnpbahjaaGreatDoor.Pk.Sn
