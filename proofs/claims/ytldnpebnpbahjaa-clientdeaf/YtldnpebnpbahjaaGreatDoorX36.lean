import Derived.Test.YtldnpebnpbahjaaGreatDoorCA1
import Derived.Test.YtldnpebnpbahjaaGreatDoorX35
namespace Go.Proofs.YtldnpebnpbahjaaGreatDoor.Pk.Sn
open Go Go.RowKit

structure KN (w w' : World) (n i : Nat) : Prop where
  p : Has w' w.heap.size ((l8To n i).map bv) 183
  g : w.grownBy w' none
theorem str8 (w : World) (b : Nat) (S : List UInt8) (h8 : S.length = 8) (h : Has w b (S.map bv) 183) : (convert 60 9 (.slice (some ⟨b, 0, none⟩) 8 8)).run Tryz.prog w = .ok (.string ⟨S.toArray⟩) w := by
  have := run_convert_bytes_back (P := Tryz.prog) w 60 9 5 ⟨b, 0, none⟩ 8 S under28 (by kernel_rfl) (by kernel_rfl) (fun j hj => by
    rw [Addr.add_mid, Nat.zero_add]
    exact h.cellv j _ (by rw [List.getElem?_map, List.getElem?_eq_getElem hj]; rfl))
  rw [h8] at this
  exact this
theorem strs_new (w : World) (ps : List ByteArray) : Strs (w.alloc (.cells (ps.map Value.string).toArray 9)) (some ⟨w.heap.size, 0, none⟩) ps.length ps :=
  ⟨rfl, fun _ => ⟨_, 0, rfl, fun j p hp => by
    rw [Nat.zero_add]
    exact (Has.newA w (ps.map Value.string).toArray 9).cellv j _ (by simp [hp])⟩⟩
set_option maxHeartbeats 8000000 in
set_option maxRecDepth 100000 in
theorem sessionKey_c (sc nc salt : ByteArray) (n : Nat) (w : World) (hk : Kc w) (h1 : sc.size ≤ 1099511627776) (h2 : nc.size ≤ 1099511627776) (h3 : salt.size ≤ 1099511627776) :
    Calls Tryz.prog 167 #[.string sc, .string nc, .string salt, .int .u64 n] w fun e w' => e = .returned (.string (keyB sc nc salt n)) ∧ w.grownBy w' none := by
  have HK : Keep (Kc w) := ⟨hk⟩
  have HN := Keep.mk (And.intro h1 (And.intro h2 h3))
  clear hk h1 h2 h3
  go_enter Tryz.func167, Tryz.ntmps167
  go_wp2_with fail
  go_loopw [11] (fun t w' => ∃ i : Nat, i ≤ 8 ∧ t = .int .i64 i ∧ Keep (KN w w' n i)) (fun t _ => 8 - (intOf t).toNat)
  case atStart => exact ⟨0, by omega, rfl, ⟨Has.newA _ _ _, World.grownBy_alloc _ _ _⟩⟩
  case round =>
    obtain ⟨i, hi, rfl, hrel⟩ := hrel
    by_cases hli : i < 8
    · obtain ⟨v, hv⟩ : ∃ v, UInt8.ofNat (n / 2 ^ (56 - 8 * i)) = v := ⟨_, rfl⟩
      have H2 : Keep (KN w (wr.setCell ⟨w.heap.size, i, none⟩ (.int .u8 v.toNat)) n (i + 1)) := ⟨by
        have := hrel.out.p.setCell i (bv v)
        rw [← List.map_set, ← hv, l8To_step n i hli, hv] at this
        exact this, gr_new hrel.out.g (gr_set _ _ _ _) (Nat.le_refl _)⟩
      have hf := hrel.out.p.frozen i
      have hcl : (wr.cell? ⟨w.heap.size, i, none⟩).isSome = true := (hrel.out.p.there i 1 (by rw [List.length_map]; simp [l8To, Mac.len8]; omega) 0 (by decide)).1
      obtain ⟨y0, hc⟩ := Option.isSome_iff_exists.1 hcl
      have hv2 : (n : Int) / 2 ^ (56 - 8 * i) % 256 = (v.toNat : Int) := by
        rw [← hv]; simp
      clear hrel hv hcl
      go_wp2_with fail
      refine ⟨⟨i + 1, by omega, by go_num, H2⟩, ?_⟩
      simp [intOf]; omega
    · have HE : Keep (Has wr w.heap.size ((Mac.len8 n).map bv) 183 ∧ w.grownBy wr none ∧ Kc wr) := ⟨by
        obtain rfl : i = 8 := by omega
        exact ⟨hrel.out.p, hrel.out.g, HK.out.kept hrel.out.g (by simp)⟩⟩
      clear hrel
      have hcv := str8 wr w.heap.size (Mac.len8 n) rfl HE.out.1
      obtain ⟨e8, he8⟩ : ∃ q, (⟨(Mac.len8 n).toArray⟩ : ByteArray) = q := ⟨_, rfl⟩
      have H8 := Keep.mk he8
      rw [he8] at hcv
      have HD : Keep (∀ w', wr.grownBy w' none → Strs w' (some ⟨wr.heap.size, 0, none⟩) 3 [nc, salt, e8] → Calls Tryz.prog 32 #[.string sc, .string { data := #[115, 101, 115, 115, 105, 111, 110] }, .slice (some ⟨wr.heap.size, 0, none⟩) 3 3] w' fun e w2 => e = .returned (.string (keyB sc nc salt n)) ∧ w'.grownBy w2 none) := ⟨fun w' g hs => by
        rw [show keyB sc nc salt n = deriveB sc sesU [nc, salt, e8] by rw [← he8]; rfl]
        exact derive_gen sc sesU _ 3 3 [nc, salt, e8] w' (HE.out.2.2.kept g (by simp)) hs (by have := HN.out; omega) (by show 7 ≤ _; omega) (by omega) (fun j p hj => by
          rcases j with _ | _ | _ | j
          · obtain rfl : nc = p := by simpa using hj
            have := HN.out; omega
          · obtain rfl : salt = p := by simpa using hj
            have := HN.out; omega
          · obtain rfl : e8 = p := by simpa using hj
            rw [← he8]; show 8 ≤ _; omega
          · simp at hj)⟩
      clear he8
      go_wp2_with fail
      refine (HD.out _ (World.grownBy_alloc _ _ _) (strs_new wr [nc, salt, e8])).mono ?_
      rintro e w3 ⟨rfl, g3⟩
      have HF := Keep.mk ((HE.out.2.1.trans (World.grownBy_alloc _ _ _)).trans g3)
      clear g3
      go_wp2_with fail
      go_ret
      exact ⟨rfl, HF.out⟩
end Go.Proofs.YtldnpebnpbahjaaGreatDoor.Pk.Sn

namespace Go.Proofs.YtldnpebnpbahjaaGreatDoor.Pk.Sn
open Go Go.RowKit

/-- a text of n bytes made of l -/
def txL : Nat → List UInt8 → Nat → List UInt8
  | 0, l, n => l.take n
  | k + 1, l, n => if l.length < n then txL k (l ++ [0, 115, 111, 109, 101]) n else l.take n
theorem txL_stop {l : List UInt8} {n : Nat} (h : ¬ l.length < n) : ∀ k, txL k l n = l.take n
  | 0 => rfl
  | k + 1 => by rw [txL, if_neg h]
theorem txL_len : ∀ (k : Nat) (l : List UInt8) (n : Nat), n ≤ l.length + k → (txL k l n).length = n
  | 0, l, n, h => by rw [txL, List.length_take]; omega
  | k + 1, l, n, h => by
    rw [txL]
    split
    · exact txL_len k _ n (by rw [List.length_append]; simp; omega)
    · rw [List.length_take]; omega
def txB (s : ByteArray) (n : Nat) : ByteArray := ba (txL n (sl s) n)
theorem txB_size (s : ByteArray) (n : Nat) : (txB s n).size = n := by
  rw [txB, ba_size, txL_len _ _ _ (by omega)]
theorem addS (a b : ByteArray) (h : a.size + b.size ≤ 9223372036854775807) (W : World) : (Op.stringOp .add a b).run Tryz.prog W = .ok (.string (a ++ b)) W := by
  simp only [Op.stringOp]
  rw [if_neg (by have : IntKind.i64.max = 9223372036854775807 := by decide
                 omega)]
  rfl
def someB : ByteArray := { data := #[0, 115, 111, 109, 101] }
set_option maxHeartbeats 8000000 in
set_option maxRecDepth 100000 in
theorem text_c (s : ByteArray) (n : Nat) (hn : n ≤ 64) (w : World) :
    Calls Tryz.prog 19 #[.string s, .int .i64 (n : Int)] w fun e w' => e = .returned (.string (txB s n)) ∧ w.grownBy w' none := by
  obtain ⟨R, hR⟩ : ∃ q, txB s n = q := ⟨_, rfl⟩
  have HR := Keep.mk hR
  rw [hR]
  clear hR
  go_enter Tryz.func19, Tryz.ntmps19
  go_wp2_with fail
  go_loopw [0] (fun t w' => ∃ x : ByteArray, t = .string x ∧ Keep (∃ k, ba (txL k (sl x) n) = R ∧ n ≤ x.size + k) ∧ Keep (w.grownBy w' none)) (fun t _ => n - (match t with | .string x => x.size | _ => 0))
  case atStart => exact ⟨s, rfl, ⟨n, HR.out, by omega⟩, ⟨World.grownBy.refl _ _⟩⟩
  case round =>
    obtain ⟨x, rfl, hk, hg⟩ := hrel
    by_cases hl : x.size < n
    · have HA : Keep (∃ k, ba (txL k (sl (x ++ someB)) n) = R ∧ n ≤ (x ++ someB).size + k) := by
        obtain ⟨k, h1, h2⟩ := hk.out
        cases k with
        | zero => omega
        | succ k =>
          refine ⟨k, ?_, ?_⟩
          · rw [txL, if_pos (by rw [sl_len]; exact hl)] at h1
            rw [sl_app]
            exact h1
          · rw [ByteArray.size_append]
            have : someB.size = 5 := rfl
            omega
      have HM : Keep (n - (x ++ someB).size < n - x.size) := ⟨by
        rw [ByteArray.size_append]
        have : someB.size = 5 := rfl
        omega⟩
      have hlt : decide ((x.size : Int) < (n : Int)) = true := decide_eq_true (by omega)
      have hlt2 : decide (x.size < n) = true := decide_eq_true hl
      have hadd : ∀ W, (Op.stringOp .add x { data := #[0, 115, 111, 109, 101] }).run Tryz.prog W = .ok (.string (x ++ someB)) W := fun W => addS x someB (by have : someB.size = 5 := rfl; omega) W
      clear hk hl
      obtain ⟨y, hy⟩ : ∃ y, x ++ someB = y := ⟨_, rfl⟩
      rw [hy] at HA HM
      rw [hy] at hadd
      clear hy
      go_wp2_with fail
      refine ⟨⟨y, rfl, HA, hg⟩, ?_⟩
      exact HM.out
    · have hR2 : x.extract 0 n = R := by
        obtain ⟨k, h1, h2⟩ := hk.out
        rw [← h1, txL_stop (by rw [sl_len]; exact hl), ext_to]
      have hlt : decide ((x.size : Int) < (n : Int)) = false := decide_eq_false (by omega)
      have hlt2 : decide (x.size < n) = false := decide_eq_false hl
      have hsl : ∀ W, (Instr.slice 9 (.string x) none (some (.int .i64 (n : Int))) none).run Tryz.prog W = .ok (.string R) W := fun W => by
        rw [run_slice_string_h W 9 x under9 .i64 (n : Int) (by omega) (by omega), Int.toNat_natCast, hR2]
      clear hk hl hR2
      go_wp2_with fail
      go_ret
      exact ⟨rfl, hg.out⟩
set_option maxHeartbeats 8000000 in
set_option maxRecDepth 100000 in
theorem eight_c (n : Nat) (w : World) :
    Calls Tryz.prog 33 #[.int .u64 (n : Int)] w fun e w' => e = .returned (.string (eiB n)) ∧ w.grownBy w' none := by
  go_enter Tryz.func33, Tryz.ntmps33
  go_wp2_with fail
  go_loopw [3, 4] (fun v t w' => ∃ i : Nat, i ≤ 8 ∧ t = .int .i64 i ∧ Keep (Row w' v ((Mac.len8 n).take i)) ∧ Keep (w.grownBy w' none ∧ ∀ k, v.ownBlock = some k → w.heap.size ≤ k)) (fun _ t _ => 8 - (intOf t).toNat)
  case atStart => exact ⟨0, by omega, rfl, ⟨⟨by simp, .inl ⟨rfl, rfl⟩⟩⟩, ⟨World.grownBy.refl _ _, fun k e => by cases e⟩⟩
  case round =>
    obtain ⟨i, hi, rfl, hr, hg⟩ := hrel
    by_cases hli : i < 8
    · obtain ⟨b, hb⟩ : ∃ b, UInt8.ofNat (n / 2 ^ (56 - 8 * i)) = b := ⟨_, rfl⟩
      have hb2 : (n : Int) / 2 ^ (56 - 8 * i) % 256 = (b.toNat : Int) := by
        rw [← hb]; simp
      have hnx : (Mac.len8 n).take i ++ [b] = (Mac.len8 n).take (i + 1) := by
        rw [List.take_add_one, len8_get n i hli, hb]; rfl
      obtain ⟨v', w', hap, h2, h3, h4⟩ := app_byte hr.out b (by rw [List.length_take]; omega)
      rw [hnx] at h2
      have HW : Keep (Row w' v' ((Mac.len8 n).take (i + 1))) := ⟨h2⟩
      have HG : Keep (w.grownBy w' none ∧ ∀ k, v'.ownBlock = some k → w.heap.size ≤ k) := by
        refine ⟨?_, fun k e => ?_⟩
        · rcases hv : u3.ownBlock with _ | g
          · rw [hv] at h3; exact hg.out.1.trans h3
          · rw [hv] at h3; exact gr_new hg.out.1 h3 (hg.out.2 g hv)
        · rcases h4 with q | ⟨k', q1, q2⟩
          · exact hg.out.2 k (by rw [← q]; exact e)
          · rw [q1] at e; injection e with e; have := hg.out.1.size; omega
      have hap2 := Keep.mk hap
      clear hb hnx h2 h3 h4 hr
      go_wp2_with (first
        | (with_reducible show wpList _ _ _ ({ dst := some 18, op := _, type := _, pos := _, after := _, guard := _ } :: _) _ _
           refine wpList_append_run _ rfl (.tmp 9) (.tmp 17) _ rfl _ _ rfl rfl hap2.out ?_))
      refine ⟨⟨i + 1, by omega, by go_num, HW, HG⟩, ?_⟩
      simp [intOf]; omega
    · obtain rfl : i = 8 := by omega
      have h8 : (Mac.len8 n).take 8 = Mac.len8 n := rfl
      have hr2 := hr.out
      rw [h8] at hr2
      obtain ⟨a, c, hv, ha, hat⟩ := Row.shape hr2
      have hlen : (Mac.len8 n).length = 8 := rfl
      rw [hlen] at hv
      have hane : a ≠ none := fun e => by have := ha e; cases this
      obtain ⟨ad, rfl⟩ : ∃ ad, a = some ad := by
        cases a with
        | none => exact absurd rfl hane
        | some ad => exact ⟨ad, rfl⟩
      have hcv2 : (convert 60 9 (.slice (some ad) 8 c)).run Tryz.prog wr = .ok (.string (eiB n)) wr := by
        have := run_convert_bytes_back (P := Tryz.prog) wr 60 9 5 ad c (Mac.len8 n) under28 (by kernel_rfl) (by kernel_rfl) (fun j hj => hat ad rfl j _ (List.getElem?_eq_getElem hj))
        exact this
      subst hv
      clear hr hr2 ha hat hane h8
      go_wp2_with fail
      go_ret
      exact ⟨rfl, hg.out.1⟩
set_option maxHeartbeats 8000000 in
set_option maxRecDepth 100000 in
theorem number_c (n : Nat) (w : World) : Calls Tryz.prog 8 #[.int .u64 (n : Int)] w fun e w' => e = .returned (.int .u64 ((if n = 0 then 1 else n : Nat) : Int)) ∧ w' = w := by
  by_cases h : n = 0
  · subst h
    go_enter Tryz.func8, Tryz.ntmps8
    go_wp2_with fail
    go_ret
    exact ⟨by simp, rfl⟩
  · rw [if_neg h]
    have q1 : ((n : Int) == 0) = false := by simp; omega
    have q2 : (n == 0) = false := by simp; omega
    clear h
    go_enter Tryz.func8, Tryz.ntmps8
    go_wp2_with fail
    go_ret
    exact ⟨by simp, rfl⟩
end Go.Proofs.YtldnpebnpbahjaaGreatDoor.Pk.Sn

