import Derived.Test.YtldnpebnpbahjaaGreatDoorCB0
import Derived.Test.YtldnpebnpbahjaaGreatDoorX36
import Derived.Test.YtldnpebnpbahjaaGreatDoorCAA
/- how a client comes to its session, over lists -/
namespace Go.Proofs.YtldnpebnpbahjaaGreatDoor.Pk.Sn
open Go Go.RowKit

def annB : ByteArray := { data := #[97, 110, 110] }
def cokB : ByteArray := txB { data := #[99, 111, 111, 107, 105, 101] } 32
def salB : ByteArray := txB { data := #[115, 97, 108, 116] } 16
def cooD (nc : ByteArray) : Dg := { Dg.zero 2 with nonce := nc, epoch := 7, cookie := cokB }
def welD (nc : ByteArray) (n : Nat) : Dg := { Dg.zero 4 with nonce := nc, session := n, player := 3, salt := salB }
/-- a client that said hello -/
def saidC (sc nc : ByteArray) : Cl := ⟨annB, sc, nc, 54, 0, 0, nob, 0, 0, 0, nob⟩
/-- the key of the laws' session -/
def begK (sc nc : ByteArray) (n : Nat) : ByteArray := keyB sc nc salB n
/-- a client that has its session -/
def begC (sc nc : ByteArray) (n : Nat) : Cl := ⟨annB, sc, nc, 168, n, 3, begK sc nc n, 0, 0, n, nob⟩
theorem said_st (sc nc : ByteArray) : (saidC sc nc).st = 54 := rfl

theorem cok_size : cokB.size = 32 := txB_size _ _
theorem sal_size : salB.size = 16 := txB_size _ _
theorem i0 : -9223372036854775808 ≤ (0 : Int) ∧ (0 : Int) < 9223372036854775808 := by omega
theorem coo_fine (nc : ByteArray) : (cooD nc).fine := ⟨by show (-9223372036854775808 : Int) ≤ 2 ∧ (2 : Int) < 9223372036854775808; omega, by show 7 < 18446744073709551616; omega, by show 0 < 18446744073709551616; omega, i0, by show 0 < 18446744073709551616; omega, i0, i0⟩
theorem coo_small {nc : ByteArray} (h : nc.size = 16) : (cooD nc).small := ⟨by show nc.size ≤ _; omega, by show cokB.size ≤ _; rw [cok_size]; omega, by show (0 : Nat) ≤ _; omega, by show (0 : Nat) ≤ _; omega, by show (0 : Nat) ≤ _; omega, by show (0 : Nat) ≤ _; omega⟩
theorem wel_fine (nc : ByteArray) {n : Nat} (h : n < 18446744073709551616) : (welD nc n).fine := ⟨by show (-9223372036854775808 : Int) ≤ 4 ∧ (4 : Int) < 9223372036854775808; omega, by show 0 < 18446744073709551616; omega, h, by show (-9223372036854775808 : Int) ≤ 3 ∧ (3 : Int) < 9223372036854775808; omega, by show 0 < 18446744073709551616; omega, i0, i0⟩
theorem wel_small {nc : ByteArray} (h : nc.size = 16) (n : Nat) : (welD nc n).small := ⟨by show nc.size ≤ _; omega, by show (0 : Nat) ≤ _; omega, by show (0 : Nat) ≤ _; omega, by show salB.size ≤ _; rw [sal_size]; omega, by show (0 : Nat) ≤ _; omega, by show (0 : Nat) ≤ _; omega⟩
theorem ann_chk : Na.chk annB = 0 := by decide +kernel
theorem ann_new {sc nc : ByteArray} (h1 : sc.size = 32) (h2 : nc.size = 16) : newE annB sc nc = 0 := by
  unfold newE
  rw [if_neg (by rw [ann_chk]; simp), if_neg (by omega), if_neg (by omega)]
theorem hel_S (sc nc : ByteArray) (h : nc.size = 16) : helS (newS annB sc nc) = (ba (enc (helD (saidC sc nc))).1, 0, saidC sc nc) := by
  unfold helS
  rw [if_neg (by show ¬ (0 : Nat) ≠ 0; simp)]
  have := (hel_code (hel_fine (newS annB sc nc)) rfl h).1
  rw [this]; rfl
theorem hel_dec (sc nc : ByteArray) (h : nc.size = 16) : dec (enc (helD (saidC sc nc))).1 = (helD (saidC sc nc), 0) ∧ (enc (helD (saidC sc nc))).1.length = 96 := by
  have hc := hel_code (hel_fine (saidC sc nc)) rfl h
  refine ⟨?_, hc.2⟩
  rw [dec_enc _ (hel_fine _) hc.1, on1 _ rfl]
  rfl
theorem enc_le (d : Dg) : (enc d).1.length ≤ 1200 := by
  unfold enc
  split
  · simp
  · exact finish_le _
def conX (nc x : ByteArray) : Dg := { Dg.zero 3 with nonce := nc, epoch := 7, cookie := cokB, name := annB, tag := x }
theorem coo_dec (nc : ByteArray) (h : nc.size = 16) : (enc (cooD nc)).2 = 0 ∧ dec (enc (cooD nc)).1 = (cooD nc, 0) := by
  have hc := coo_code (coo_fine nc) rfl h cok_size
  refine ⟨hc, ?_⟩
  rw [dec_enc _ (coo_fine _) hc, on2 _ rfl]
  rfl
/-- the cookie is echoed -/
theorem hea_coo (sc nc : ByteArray) (h : nc.size = 16) : heaS (saidC sc nc) (ba (enc (cooD nc)).1) = ((sealD (conD (saidC sc nc) (cooD nc)) sc).1, 0, saidC sc nc) := by
  unfold heaS
  rw [show sl (ba (enc (cooD nc)).1) = (enc (cooD nc)).1 from sl_mk _, (coo_dec nc h).2, if_neg (by simp), if_neg (by show ¬ ((2 : Int) = 1 ∨ (2 : Int) = 3 ∨ (2 : Int) = 5); omega)]
  unfold nxtS
  rw [if_pos (said_st sc nc)]
  show greS (saidC sc nc) _ (cooD nc) = _
  rw [gre_2 (show (cooD nc).nonce = (saidC sc nc).nc from rfl) rfl]
  have : (sealD (conD (saidC sc nc) (cooD nc)) sc).2 = 0 := con_code (con_fine (coo_fine nc)) rfl h cok_size (by show annB.size ≤ 24; decide)
  show ((sealD (conD (saidC sc nc) (cooD nc)) sc).1, (sealD (conD (saidC sc nc) (cooD nc)) sc).2, _) = _
  rw [this]
theorem con_good (sc nc : ByteArray) (h : nc.size = 16) : ∃ x : ByteArray, dec (sl (sealD (conD (saidC sc nc) (cooD nc)) sc).1) = (conX nc x, 0) ∧ sealed (sealD (conD (saidC sc nc) (cooD nc)) sc).1 sc = true ∧ (sealD (conD (saidC sc nc) (cooD nc)) sc).1.size ≤ 1200 := by
  have : (sealD (conD (saidC sc nc) (cooD nc)) sc).2 = 0 := con_code (con_fine (coo_fine nc)) rfl h cok_size (by show annB.size ≤ 24; decide)
  obtain ⟨x, h1, h2, h3, _⟩ := seal_good (con_fine (C := saidC sc nc) (coo_fine nc)) this
  exact ⟨x, by rw [h1, on3 _ rfl]; rfl, h2, h3⟩
theorem wel_yes (nc K : ByteArray) {n : Nat} (h : nc.size = 16) (hn : n < 18446744073709551616) : (sealD (welD nc n) K).2 = 0 := wel_code (wel_fine nc hn) rfl h sal_size (by show (0 : Int) ≤ 3 ∧ (3 : Int) ≤ 255; omega)
/-- what the welcome is heard as -/
theorem wel_dec (nc K : ByteArray) {n : Nat} (h : nc.size = 16) (hn : n < 18446744073709551616) : ∃ x : ByteArray, dec (sl (sealD (welD nc n) K).1) = ((welD nc n).wear x, 0) ∧ sealed (sealD (welD nc n) K).1 K = true ∧ (sealD (welD nc n) K).1.size ≤ 1200 := by
  obtain ⟨x, h1, h2, h3, _⟩ := seal_good (wel_fine nc hn) (wel_yes nc K h hn)
  exact ⟨x, by rw [h1, on4 _ rfl]; rfl, h2, h3⟩
theorem hea_wel (sc nc : ByteArray) {n : Nat} (h : nc.size = 16) (hn : n < 18446744073709551616) (h0 : n ≠ 0) : heaS (saidC sc nc) (sealD (welD nc n) (begK sc nc n)).1 = (nob, 0, begC sc nc n) := by
  obtain ⟨x, h1, h2, _⟩ := wel_dec nc (begK sc nc n) h hn
  unfold heaS
  rw [h1, if_neg (by simp), if_neg (by show ¬ ((4 : Int) = 1 ∨ (4 : Int) = 3 ∨ (4 : Int) = 5); omega)]
  unfold nxtS
  rw [if_pos (said_st sc nc)]
  show greS (saidC sc nc) _ ((welD nc n).wear x) = _
  rw [gre_3 (show ((welD nc n).wear x).nonce = (saidC sc nc).nc from rfl) rfl]
  have e : begS (saidC sc nc) (sealD (welD nc n) (begK sc nc n)).1 ((welD nc n).wear x) = (begC sc nc n, 0) := by
    unfold begS
    rw [if_neg (show ¬ ((welD nc n).wear x).session ≤ (saidC sc nc).mx from (by show ¬ n ≤ 0; omega))]
    have hk : keyB (saidC sc nc).sc (saidC sc nc).nc ((welD nc n).wear x).salt ((welD nc n).wear x).session = begK sc nc n := rfl
    rw [hk, h2, if_neg (by simp)]
    rfl
  rw [e]
theorem beg_ok {sc nc : ByteArray} (h1 : sc.size = 32) (h2 : nc.size = 16) {n : Nat} (hn : n < 18446744073709551616) : (begC sc nc n).ok :=
  ⟨by show annB.size ≤ 24; decide, h1, h2, by show (begK sc nc n).size ≤ 32; exact Nat.le_of_eq (keyB_size _ _ _ _), hn, by show (-9223372036854775808 : Int) ≤ 3 ∧ (3 : Int) < 9223372036854775808; omega, by show (0 : Nat) < _; omega, hn, by show (0 : Nat) ≤ _; omega, .inr (.inr rfl)⟩
theorem said_ok {sc nc : ByteArray} (h1 : sc.size = 32) (h2 : nc.size = 16) : (saidC sc nc).ok :=
  ⟨by show annB.size ≤ 24; decide, h1, h2, by show (0 : Nat) ≤ 32; omega, by show (0 : Nat) < _; omega, i0, by show (0 : Nat) < _; omega, by show (0 : Nat) < _; omega, by show (0 : Nat) ≤ _; omega, .inr (.inl rfl)⟩
end Go.Proofs.YtldnpebnpbahjaaGreatDoor.Pk.Sn
