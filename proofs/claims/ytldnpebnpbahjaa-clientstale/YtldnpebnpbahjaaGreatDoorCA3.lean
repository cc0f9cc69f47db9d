import Derived.Test.YtldnpebnpbahjaaGreatDoorCA2
/- texts of the laws -/
namespace Go.Proofs.YtldnpebnpbahjaaGreatDoor.Pk.Sn
open Go Go.RowKit

/-- a text of n bytes made of l -/
def txL : Nat → List UInt8 → Nat → List UInt8
  | 0, l, n => l.take n
  | k + 1, l, n => if l.length < n then txL k (l ++ [0, 115, 111, 109, 101]) n else l.take n
theorem txL_stop {l : List UInt8} {n : Nat} (h : ¬ l.length < n) : ∀ k, txL k l n = l.take n
  | 0 => rfl
  | k + 1 => by rw [txL, if_neg h]
theorem txL_len : ∀ (k : Nat) (l : List UInt8) (n : Nat), n ≤ l.length + k → (txL k l n).length = n
  | 0, l, n, h => by rw [txL, List.length_take]; omega
  | k + 1, l, n, h => by
    rw [txL]
    split
    · exact txL_len k _ n (by rw [List.length_append]; simp; omega)
    · rw [List.length_take]; omega
def txB (s : ByteArray) (n : Nat) : ByteArray := ba (txL n (sl s) n)
theorem txB_size (s : ByteArray) (n : Nat) : (txB s n).size = n := by
  rw [txB, ba_size, txL_len _ _ _ (by omega)]
theorem addS (a b : ByteArray) (h : a.size + b.size ≤ 9223372036854775807) (W : World) : (Op.stringOp .add a b).run Tryz.prog W = .ok (.string (a ++ b)) W := by
  simp only [Op.stringOp]
  rw [if_neg (by have : IntKind.i64.max = 9223372036854775807 := by decide
                 omega)]
  rfl
def someB : ByteArray := { data := #[0, 115, 111, 109, 101] }
set_option maxHeartbeats 8000000 in
set_option maxRecDepth 100000 in
theorem text_c (s : ByteArray) (n : Nat) (hn : n ≤ 64) (w : World) :
    Calls Tryz.prog 19 #[.string s, .int .i64 (n : Int)] w fun e w' => e = .returned (.string (txB s n)) ∧ w.grownBy w' none := by
  obtain ⟨R, hR⟩ : ∃ q, txB s n = q := ⟨_, rfl⟩
  have HR := Keep.mk hR
  rw [hR]
  clear hR
  go_enter Tryz.func19, Tryz.ntmps19
  go_wp2_with fail
  go_loopw [0] (fun t w' => ∃ x : ByteArray, t = .string x ∧ Keep (∃ k, ba (txL k (sl x) n) = R ∧ n ≤ x.size + k) ∧ Keep (w.grownBy w' none)) (fun t _ => n - (match t with | .string x => x.size | _ => 0))
  case atStart => exact ⟨s, rfl, ⟨n, HR.out, by omega⟩, ⟨World.grownBy.refl _ _⟩⟩
  case round =>
    obtain ⟨x, rfl, hk, hg⟩ := hrel
    by_cases hl : x.size < n
    · have HA : Keep (∃ k, ba (txL k (sl (x ++ someB)) n) = R ∧ n ≤ (x ++ someB).size + k) := by
        obtain ⟨k, h1, h2⟩ := hk.out
        cases k with
        | zero => omega
        | succ k =>
          refine ⟨k, ?_, ?_⟩
          · rw [txL, if_pos (by rw [sl_len]; exact hl)] at h1
            rw [sl_app]
            exact h1
          · rw [ByteArray.size_append]
            have : someB.size = 5 := rfl
            omega
      have HM : Keep (n - (x ++ someB).size < n - x.size) := ⟨by
        rw [ByteArray.size_append]
        have : someB.size = 5 := rfl
        omega⟩
      have hlt : decide ((x.size : Int) < (n : Int)) = true := decide_eq_true (by omega)
      have hlt2 : decide (x.size < n) = true := decide_eq_true hl
      have hadd : ∀ W, (Op.stringOp .add x { data := #[0, 115, 111, 109, 101] }).run Tryz.prog W = .ok (.string (x ++ someB)) W := fun W => addS x someB (by have : someB.size = 5 := rfl; omega) W
      clear hk hl
      obtain ⟨y, hy⟩ : ∃ y, x ++ someB = y := ⟨_, rfl⟩
      rw [hy] at HA HM
      rw [hy] at hadd
      clear hy
      go_wp2_with fail
      refine ⟨⟨y, rfl, HA, hg⟩, ?_⟩
      exact HM.out
    · have hR2 : x.extract 0 n = R := by
        obtain ⟨k, h1, h2⟩ := hk.out
        rw [← h1, txL_stop (by rw [sl_len]; exact hl), ext_to]
      have hlt : decide ((x.size : Int) < (n : Int)) = false := decide_eq_false (by omega)
      have hlt2 : decide (x.size < n) = false := decide_eq_false hl
      have hsl : ∀ W, (Instr.slice 9 (.string x) none (some (.int .i64 (n : Int))) none).run Tryz.prog W = .ok (.string R) W := fun W => by
        rw [run_slice_string_h W 9 x under9 .i64 (n : Int) (by omega) (by omega), Int.toNat_natCast, hR2]
      clear hk hl hR2
      go_wp2_with fail
      go_ret
      exact ⟨rfl, hg.out⟩
set_option maxHeartbeats 8000000 in
set_option maxRecDepth 100000 in
theorem eight_c (n : Nat) (w : World) :
    Calls Tryz.prog 33 #[.int .u64 (n : Int)] w fun e w' => e = .returned (.string (eiB n)) ∧ w.grownBy w' none := by
  go_enter Tryz.func33, Tryz.ntmps33
  go_wp2_with fail
  go_loopw [3, 4] (fun v t w' => ∃ i : Nat, i ≤ 8 ∧ t = .int .i64 i ∧ Keep (Row w' v ((Mac.len8 n).take i)) ∧ Keep (w.grownBy w' none ∧ ∀ k, v.ownBlock = some k → w.heap.size ≤ k)) (fun _ t _ => 8 - (intOf t).toNat)
  case atStart => exact ⟨0, by omega, rfl, ⟨⟨by simp, .inl ⟨rfl, rfl⟩⟩⟩, ⟨World.grownBy.refl _ _, fun k e => by cases e⟩⟩
  case round =>
    obtain ⟨i, hi, rfl, hr, hg⟩ := hrel
    by_cases hli : i < 8
    · obtain ⟨b, hb⟩ : ∃ b, UInt8.ofNat (n / 2 ^ (56 - 8 * i)) = b := ⟨_, rfl⟩
      have hb2 : (n : Int) / 2 ^ (56 - 8 * i) % 256 = (b.toNat : Int) := by
        rw [← hb]; simp
      have hnx : (Mac.len8 n).take i ++ [b] = (Mac.len8 n).take (i + 1) := by
        rw [List.take_add_one, len8_get n i hli, hb]; rfl
      obtain ⟨v', w', hap, h2, h3, h4⟩ := app_byte hr.out b (by rw [List.length_take]; omega)
      rw [hnx] at h2
      have HW : Keep (Row w' v' ((Mac.len8 n).take (i + 1))) := ⟨h2⟩
      have HG : Keep (w.grownBy w' none ∧ ∀ k, v'.ownBlock = some k → w.heap.size ≤ k) := by
        refine ⟨?_, fun k e => ?_⟩
        · rcases hv : u3.ownBlock with _ | g
          · rw [hv] at h3; exact hg.out.1.trans h3
          · rw [hv] at h3; exact gr_new hg.out.1 h3 (hg.out.2 g hv)
        · rcases h4 with q | ⟨k', q1, q2⟩
          · exact hg.out.2 k (by rw [← q]; exact e)
          · rw [q1] at e; injection e with e; have := hg.out.1.size; omega
      have hap2 := Keep.mk hap
      clear hb hnx h2 h3 h4 hr
      go_wp2_with (first
        | (with_reducible show wpList _ _ _ ({ dst := some 18, op := _, type := _, pos := _, after := _, guard := _ } :: _) _ _
           refine wpList_append_run _ rfl (.tmp 9) (.tmp 17) _ rfl _ _ rfl rfl hap2.out ?_))
      refine ⟨⟨i + 1, by omega, by go_num, HW, HG⟩, ?_⟩
      simp [intOf]; omega
    · obtain rfl : i = 8 := by omega
      have h8 : (Mac.len8 n).take 8 = Mac.len8 n := rfl
      have hr2 := hr.out
      rw [h8] at hr2
      obtain ⟨a, c, hv, ha, hat⟩ := Row.shape hr2
      have hlen : (Mac.len8 n).length = 8 := rfl
      rw [hlen] at hv
      have hane : a ≠ none := fun e => by have := ha e; cases this
      obtain ⟨ad, rfl⟩ : ∃ ad, a = some ad := by
        cases a with
        | none => exact absurd rfl hane
        | some ad => exact ⟨ad, rfl⟩
      have hcv2 : (convert 60 9 (.slice (some ad) 8 c)).run Tryz.prog wr = .ok (.string (eiB n)) wr := by
        have := run_convert_bytes_back (P := Tryz.prog) wr 60 9 5 ad c (Mac.len8 n) under28 (by kernel_rfl) (by kernel_rfl) (fun j hj => hat ad rfl j _ (List.getElem?_eq_getElem hj))
        exact this
      subst hv
      clear hr hr2 ha hat hane h8
      go_wp2_with fail
      go_ret
      exact ⟨rfl, hg.out.1⟩
set_option maxHeartbeats 8000000 in
set_option maxRecDepth 100000 in
theorem number_c (n : Nat) (w : World) : Calls Tryz.prog 8 #[.int .u64 (n : Int)] w fun e w' => e = .returned (.int .u64 ((if n = 0 then 1 else n : Nat) : Int)) ∧ w' = w := by
  by_cases h : n = 0
  · subst h
    go_enter Tryz.func8, Tryz.ntmps8
    go_wp2_with fail
    go_ret
    exact ⟨by simp, rfl⟩
  · rw [if_neg h]
    have q1 : ((n : Int) == 0) = false := by simp; omega
    have q2 : (n == 0) = false := by simp; omega
    clear h
    go_enter Tryz.func8, Tryz.ntmps8
    go_wp2_with fail
    go_ret
    exact ⟨by simp, rfl⟩
end Go.Proofs.YtldnpebnpbahjaaGreatDoor.Pk.Sn
