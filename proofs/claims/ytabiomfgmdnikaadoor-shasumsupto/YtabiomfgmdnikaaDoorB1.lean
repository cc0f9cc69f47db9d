import Derived.Test.YtabiomfgmdnikaaDoorA9
namespace Go.Proofs.YtabiomfgmdnikaaDoor
open Go Go.RowKit

def digits : ByteArray := { data := #[48, 49, 50, 51, 52, 53, 54, 55, 56, 57, 97, 98, 99, 100, 101, 102] }
def dg (n : Nat) : UInt8 := digits.data.getD n 0
def hexL (S : List UInt8) : List UInt8 := S.flatMap fun x => [dg (x.toNat / 16), dg (x.toNat % 16)]
def hexB (S : List UInt8) : ByteArray := ⟨(hexL S).toArray⟩
theorem dig_at : ∀ q : Nat, q < 16 → digits.extract q (q + 1) = ⟨#[dg q]⟩
  | 0, _ => by kernel_rfl
  | 1, _ => by kernel_rfl
  | 2, _ => by kernel_rfl
  | 3, _ => by kernel_rfl
  | 4, _ => by kernel_rfl
  | 5, _ => by kernel_rfl
  | 6, _ => by kernel_rfl
  | 7, _ => by kernel_rfl
  | 8, _ => by kernel_rfl
  | 9, _ => by kernel_rfl
  | 10, _ => by kernel_rfl
  | 11, _ => by kernel_rfl
  | 12, _ => by kernel_rfl
  | 13, _ => by kernel_rfl
  | 14, _ => by kernel_rfl
  | 15, _ => by kernel_rfl
  | n + 16, h => by omega
theorem hexL_len (S : List UInt8) : (hexL S).length = 2 * S.length := by
  induction S with
  | nil => rfl
  | cons x r ih => simp only [hexL, List.flatMap_cons, List.length_append, List.length_cons, List.length_nil] at *; omega
theorem hexB_size (S : List UInt8) : (hexB S).size = 2 * S.length := by
  rw [← hexL_len]; simp [hexB, ByteArray.size]
theorem hexB_step (S : List UInt8) (i : Nat) (hi : i < S.length) (x : UInt8) (hx : S.getD i 0 = x) : hexB (S.take i) ++ ⟨#[dg (x.toNat / 16)]⟩ ++ ⟨#[dg (x.toNat % 16)]⟩ = hexB (S.take (i + 1)) := by
  have e : S.take (i + 1) = S.take i ++ [x] := by
    rw [List.take_succ_eq_append_getElem hi, ← hx]
    simp [List.getD, hi]
  rw [e]
  apply ByteArray.ext
  simp [hexB, hexL]
theorem str_add (a b : ByteArray) (h : a.size + b.size ≤ 1000) (W : World) : (Op.stringOp .add a b).run Tryd.prog W = .ok (.string (a ++ b)) W := by
  simp only [Op.stringOp]
  rw [if_neg (by have : IntKind.i64.max = 9223372036854775807 := by decide
                 omega)]
  rfl

theorem u8w (n : Int) (h0 : 0 ≤ n) (h1 : n < 256) : IntKind.u8.wrap n = n := by
  simp [IntKind.wrap, IntKind.bits, IntKind.signed]; omega
set_option maxRecDepth 100000 in
set_option maxHeartbeats 2000000 in
theorem hex_any (S : List UInt8) (A : Array Value) (w : World) (hA : Keep (A = (S.map bv).toArray)) (hl : S.length = 32) :
    Calls Tryd.prog 34 #[.agg A] w fun e w' => e = .returned (.string (hexB S)) ∧ w.grownBy w' none := by
  go_enter Tryd.func34, Tryd.ntmps34
  go_wp2
  go_loopw [3, 4] (fun s t w' => ∃ (i : Nat) (l : ByteArray), i ≤ 32 ∧ t = .int .i64 i ∧ s = .string l ∧ Keep (l = hexB (S.take i)) ∧ Keep (Has w' w.heap.size (S.map bv) 36 ∧ w.grownBy w' none)) (fun _ t _ => 32 - (intOf t).toNat)
  case atStart => exact ⟨0, _, by omega, rfl, rfl, ⟨rfl⟩, ⟨by rw [hA.out]; exact ⟨Has.new _ _ _, World.grownBy_alloc _ _ _⟩⟩⟩
  case round =>
    obtain ⟨i, l, hi, rfl, rfl, hlq, hrel⟩ := hrel
    by_cases hli : i < 32
    · obtain ⟨x, hx⟩ : ∃ x, S.getD i 0 = x := ⟨_, rfl⟩
      have hc : wr.cell? ⟨w.heap.size, i, none⟩ = some (.int .u8 x.toNat) := by rw [← hx]; exact hrel.out.1.cellv _ _ (get_map bv S 0 i (by omega))
      have HX : Keep (S.getD i 0 = x) := ⟨hx⟩
      have hb := x.toNat_lt
      clear hx
      obtain ⟨q, hq⟩ : ∃ q, x.toNat / 16 = q := ⟨_, rfl⟩
      obtain ⟨p, hp⟩ : ∃ p, x.toNat % 16 = p := ⟨_, rfl⟩
      have hq' : (x.toNat : Int) / 16 = (q : Int) := by omega
      have hp' : (x.toNat : Int) % 16 = (p : Int) := by omega
      have q0 : (0 : Int) ≤ (q : Int) := by omega
      have q1 : (q : Int) + 1 ≤ 16 := by omega
      have q2 : (q : Int) ≤ (q : Int) + 1 := by omega
      have p0 : (0 : Int) ≤ (p : Int) := by omega
      have p1 : (p : Int) + 1 ≤ 16 := by omega
      have p2 : (p : Int) ≤ (p : Int) + 1 := by omega
      have wq := u8w (q : Int) q0 (by omega)
      have wq1 := u8w ((q : Int) + 1) (by omega) (by omega)
      have wp := u8w (p : Int) p0 (by omega)
      have wp1 := u8w ((p : Int) + 1) (by omega) (by omega)
      obtain ⟨e1, he1⟩ : ∃ e, digits.extract q (q + 1) = e := ⟨_, rfl⟩
      obtain ⟨e2, he2⟩ : ∃ e, digits.extract p (p + 1) = e := ⟨_, rfl⟩
      have HE : Keep (l ++ e1 ++ e2 = hexB (S.take (i + 1))) := ⟨by
        rw [← he1, ← he2, dig_at q (by omega), dig_at p (by omega), ← hq, ← hp, hlq.out]
        exact hexB_step S i (by omega) x HX.out⟩
      have hls : l.size = 2 * i := by rw [hlq.out, hexB_size, List.length_take]; omega
      have hs1 : e1.size = 1 := by rw [← he1, dig_at q (by omega)]; rfl
      have hs2 : e2.size = 1 := by rw [← he2, dig_at p (by omega)]; rfl
      have ha1 := str_add l e1 (by omega)
      have ha2 := str_add (l ++ e1) e2 (by rw [ByteArray.size_append]; omega)
      clear hq hp hls hs1 hs2
      unfold digits at he1 he2
      go_wp2
      go_quiet (fail)
      go_wp2
      refine ⟨⟨i + 1, _, by omega, by go_num, rfl, HE, ?_⟩, ?_⟩
      · exact ⟨hrel.out.1, hrel.out.2.trans (gr_drewN _ _ _)⟩
      · simp [intOf]; omega
    · have HE : Keep (l = hexB S ∧ w.grownBy wr none) := ⟨by
        have hi32 : i = 32 := by omega
        have h := hlq.out
        rw [hi32, List.take_of_length_le (by omega)] at h
        exact ⟨h, hrel.out.2⟩⟩
      clear hlq hrel
      go_wp2
      go_ret
      exact ⟨by rw [← HE.out.1]; rfl, HE.out.2⟩
end Go.Proofs.YtabiomfgmdnikaaDoor
