import Derived.Test.YtldnpebnpbahjaaGreatDoorX18
import Derived.Test.YtldnpebnpbahjaaGreatDoorX22
set_option maxRecDepth 100000
set_option maxHeartbeats 8000000
namespace Go.Proofs.YtldnpebnpbahjaaGreatDoor.Pk.Sn
open Go Go.RowKit Go.Proofs.Tryz
structure Rf where
  nm : ByteArray
  sc : ByteArray
  nc : ByteArray
  sa : Bool
  num : Nat
  pl : Int
  key : ByteArray
  sq : Nat
  la : Nat
  mo : Nat
  V : Vw
  a : Option Addr
  c : Nat
  has : Bool
def Rf.cs (R : Rf) : List Value := [.string R.nm, .string R.sc, .string R.nc, .bool R.sa, uv R.num, iv R.pl, .string R.key, uv R.sq, uv R.la, uv R.mo] ++ (R.V.cs R.a R.c ++ [.bool R.has])
theorem rplaying_c (rb : Nat) (R : Rf) (w : World) (hh : Has w rb R.cs 103) :
    CRt 28 #[pa rb 0] w (.tuple (if R.num = 0 then #[.int .u64 0, iv 0, .bool false] else #[uv R.num, iv R.pl, .bool true])) := by
  have c4 : w.cell? ⟨rb, 4, none⟩ = some (uv R.num) := hh.cellv 4 _ rfl; have c5 : w.cell? ⟨rb, 5, none⟩ = some (iv R.pl) := hh.cellv 5 _ rfl; by_cases hz : R.num = 0
  · rw [if_pos hz]; (have q1 : (R.num == 0) = true := by simp [hz]); (have q2 : ((R.num : Int) == 0) = true := by simp [hz]); clear hz; go_enter func28, ntmps28; go_wp2_with fail; go_ret3; exact ⟨rfl, World.grownBy.refl _ _⟩
  · rw [if_neg hz]; (have q1 : (R.num == 0) = false := by simp [hz]); (have q2 : ((R.num : Int) == 0) = false := by simp [hz]); clear hz; go_enter func28, ntmps28; go_wp2_with fail; refine region_Y (S := fun w' => w.grownBy w' none) [] (by kernel_rfl) ?_; have hHeld := gr_drew w none; refine yq 0 rfl ?_; refine yq 1 rfl ?_; refine yq 2 rfl ?_; refine yk 3 rfl ?_ (fun w hSw => by have k0 := hSw.cell c4 (by simp); go_simp; first | done | (with_reducible rfl)); refine yq 4 rfl ?_; refine yq 5 rfl ?_; refine yq 6 rfl ?_; refine yk 7 rfl ?_ (fun w hSw => by have k0 := hSw.cell c5 (by simp); go_simp; first | done | (with_reducible rfl)); simp only [Act.put, uz]; refine yo 8 (fun K hK => ?_) rfl; go_simp; refine hK.out _ _ (fun h => h) ?_; clear hK K; refine yo 9 (fun K hK => ?_) rfl; go_simp; refine hK.out _ _ (fun h => h) ?_; clear hK K; refine yo 10 (fun K hK => ?_) rfl; go_simp; refine hK.out _ _ (fun h => h) ?_; clear hK K; refine yd ?_; go_wp2_with fail; go_ret3; exact ⟨rfl, hHeld⟩
theorem reight_c (n : Nat) (w : World) :
    CRt 57 #[.int .u64 (n : Int)] w (.string (eiB n)) := by
  go_enter func57, ntmps57; go_wp2_with fail
  go_loopw [3, 4] (fun v t w' => ∃ i : Nat, i ≤ 8 ∧ t = .int .i64 (56 - 8 * (i : Int)) ∧ Kp (Row w' v ((Mac.len8 n).take i)) ∧ Kp (w.grownBy w' none ∧ ∀ k, v.ownBlock = some k → w.heap.size ≤ k)) (fun _ t _ => (intOf t + 8).toNat)
  case atStart => exact ⟨0, by omega, rfl, ⟨⟨by simp, .inl ⟨rfl, rfl⟩⟩⟩, ⟨World.grownBy.refl _ _, fun k e => by cases e⟩⟩
  case round =>
    obtain ⟨i, hi, rfl, hr, hg⟩ := hrel; by_cases hli : i < 8
    · obtain ⟨sh, hsh⟩ : ∃ sh : Nat, 56 - 8 * i = sh := ⟨_, rfl⟩; (have hz : (56 : Int) - 8 * (i : Int) = (sh : Int) := by omega); (have hs64 : sh < 64 := by omega); rw [hz]; obtain ⟨b, hb⟩ : ∃ b, UInt8.ofNat (n / 2 ^ sh) = b := ⟨_, rfl⟩
      have hb2 : (n : Int) / 2 ^ sh % 256 = (b.toNat : Int) := by
        rw [← hb]; simp
      have hnx : (Mac.len8 n).take i ++ [b] = (Mac.len8 n).take (i + 1) := by
        rw [List.take_add_one, len8_get n i hli, hsh, hb]; rfl
      obtain ⟨v', w', hap, h2, h3, h4⟩ := app_byte hr.out b (by rw [List.length_take]; omega); rw [hnx] at h2; have HW : Kp (Row w' v' ((Mac.len8 n).take (i + 1))) := ⟨h2⟩
      have HG : Kp (w.grownBy w' none ∧ ∀ k, v'.ownBlock = some k → w.heap.size ≤ k) := by
        refine ⟨?_, fun k e => ?_⟩
        · rcases hv : u3.ownBlock with _ | g
          · rw [hv] at h3; exact hg.out.1.trans h3
          · rw [hv] at h3; exact gr_new hg.out.1 h3 (hg.out.2 g hv)
        · rcases h4 with q | ⟨k', q1, q2⟩
          · exact hg.out.2 k (by rw [← q]; exact e)
          · rw [q1] at e; injection e with e; have := hg.out.1.size; omega
      have hap2 := Kp.mk hap; have hge : decide ((0 : Int) ≤ (sh : Int)) = true := decide_eq_true (by omega); clear hb hnx h2 h3 h4 hr
      go_wp2_with (first
        | (with_reducible show wpList _ _ _ ({ dst := some 16, op := _, type := _, pos := _, after := _, guard := _ } :: _) _ _
           refine wpList_append_run _ rfl (.tmp 9) (.tmp 15) _ rfl _ _ rfl rfl hap2.out ?_))
      refine ⟨⟨i + 1, by omega, by (congr 1; omega), HW, HG⟩, ?_⟩; simp [intOf]; omega
    · (obtain rfl : i = 8 := by omega); have h8 : (Mac.len8 n).take 8 = Mac.len8 n := rfl; have hr2 := hr.out; rw [h8] at hr2; obtain ⟨a, c, hv, ha, hat⟩ := Row.shape hr2; have hlen : (Mac.len8 n).length = 8 := rfl; rw [hlen] at hv; have hane : a ≠ none := fun e => by have := ha e; cases this
      obtain ⟨ad, rfl⟩ : ∃ ad, a = some ad := by
        cases a with
        | none => exact absurd rfl hane
        | some ad => exact ⟨ad, rfl⟩
      have hcv2 : (convert 60 9 (.slice (some ad) 8 c)).run prog wr = .ok (.string (eiB n)) wr := by
        have := run_convert_bytes_back (P := prog) wr 60 9 5 ad c (Mac.len8 n) under28 (by kernel_rfl) (by kernel_rfl) (fun j hj => hat ad rfl j _ (List.getElem?_eq_getElem hj)); exact this
      subst hv; clear hr hr2 ha hat hane h8; go_wp2_with fail; go_ret; exact ⟨rfl, hg.out.1⟩
end Go.Proofs.YtldnpebnpbahjaaGreatDoor.Pk.Sn
