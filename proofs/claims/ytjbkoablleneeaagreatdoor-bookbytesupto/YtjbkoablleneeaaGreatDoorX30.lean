import Derived.Test.YtjbkoablleneeaaGreatDoorX29
import Derived.Test.YtjbkoablleneeaaGreatDoorX22
/- alive -/
namespace Go.Proofs.YtjbkoablleneeaaGreatDoor.Pk
open Go Go.RowKit

theorem tk_ok (t : Nat) (h : t < 18446744073709551616) : (tk t).Ok := ⟨(by decide : (-9223372036854775808 : Int) ≤ 3), (by decide : (3 : Int) < 9223372036854775808), h, (by decide : (0 : Nat) < 18446744073709551616), (by decide : (-9223372036854775808 : Int) ≤ 0), (by decide : (0 : Int) < 9223372036854775808), (by decide : (0 : Nat) < 18446744073709551616)⟩
def b39 : List UInt8 := magic ++ (be 4 1 ++ encs [tk 0])
theorem body39 : wBody [tk 0] = some b39 := by
  rw [wBody_eq [tk 0] (by intro e he; rw [List.mem_singleton.1 he]; exact tk_ok 0 (by decide)) (by decide), if_pos]
  · rfl
  · intro e he
    rw [List.mem_singleton.1 he]
    exact ⟨by decide, by decide, by decide, by decide, by decide, by decide, by decide⟩
theorem b39_len : b39.length = 39 := by
  have : (encs [tk 0]).length = 31 := by
    have e : encs [tk 0] = (tk 0).enc ++ [] := rfl
    rw [e, List.append_nil, enc_len]; rfl
  rw [b39, List.length_append, List.length_append, be_len, this]; rfl
theorem gd01 : Gd [0, 1] 2 := fun x hx => by
  match x, hx with
  | 0, _ => rfl
  | 1, _ => rfl
theorem bad1 : ¬ Gd [1] 1 := fun q => by have := q 0 (by decide); cases this
set_option maxRecDepth 100000 in
set_option maxHeartbeats 16000000 in
theorem alive_c (w : World) (hwk : Wk w) :
    Calls Tryz.prog 6 #[] w fun e w' => e = .returned (.bool true) ∧ w.grownBy w' none := by
  have HW := Keep.mk hwk
  have H0 : Has (w.alloc (.cells #[Value.int IntKind.i64 3, Value.int IntKind.u64 0, Value.int IntKind.u64 0, Value.int IntKind.i64 0, Value.string { data := #[] }, Value.string { data := #[] }, Value.int IntKind.u64 0, Value.string { data := #[] }, Value.int IntKind.i64 3, Value.int IntKind.u64 1, Value.int IntKind.u64 0, Value.int IntKind.i64 0, Value.string { data := #[] }, Value.string { data := #[] }, Value.int IntKind.u64 0, Value.string { data := #[] }] 35)) w.heap.size (ens ([0, 1].map tk)) 35 := Has.newA w #[Value.int IntKind.i64 3, Value.int IntKind.u64 0, Value.int IntKind.u64 0, Value.int IntKind.i64 0, Value.string { data := #[] }, Value.string { data := #[] }, Value.int IntKind.u64 0, Value.string { data := #[] }, Value.int IntKind.i64 3, Value.int IntKind.u64 1, Value.int IntKind.u64 0, Value.int IntKind.i64 0, Value.string { data := #[] }, Value.string { data := #[] }, Value.int IntKind.u64 0, Value.string { data := #[] }] 35
  have HL1 := Keep.mk (labels_c [0, 1] w.heap.size 2 _ H0 rfl (by decide))
  have HL2 : Keep (∀ W : World, Calls Tryz.prog 16 #[.slice (some ⟨W.heap.size, 0, none⟩) 1 1] (W.alloc (.cells #[Value.int IntKind.i64 3, Value.int IntKind.u64 1, Value.int IntKind.u64 0, Value.int IntKind.i64 0, Value.string { data := #[] }, Value.string { data := #[] }, Value.int IntKind.u64 0, Value.string { data := #[] }] 35)) fun e w' => e = .returned (.tuple #[.slice none 0 0, iv 190]) ∧ W.grownBy w' none) := ⟨fun W => by
    refine (labels_c [1] W.heap.size 1 _ (Has.newA W #[Value.int IntKind.i64 3, Value.int IntKind.u64 1, Value.int IntKind.u64 0, Value.int IntKind.i64 0, Value.string { data := #[] }, Value.string { data := #[] }, Value.int IntKind.u64 0, Value.string { data := #[] }] 35) rfl (by decide)).mono ?_
    rintro e w' ⟨g, _, q⟩
    exact ⟨q bad1, (World.grownBy_alloc _ _ _).trans g⟩⟩
  have HSV : Keep (ba (wrS Sha.sha [tk 0]) = ba (b39 ++ Sha.sha b39) ∧ werr (wBody [tk 0]) = 0) := ⟨by rw [wrS_eq, body39]; exact ⟨rfl, rfl⟩⟩
  have HWR : Keep (∀ W : World, Wk W → Calls Tryz.prog 8 #[.slice (some ⟨W.heap.size, 0, none⟩) 1 1] (W.alloc (.cells #[Value.int IntKind.i64 3, Value.int IntKind.u64 0, Value.int IntKind.u64 0, Value.int IntKind.i64 0, Value.string { data := #[] }, Value.string { data := #[] }, Value.int IntKind.u64 0, Value.string { data := #[] }] 35)) fun e w' => e = .returned (.tuple #[.string (ba (b39 ++ Sha.sha b39)), iv 0]) ∧ W.grownBy w' none) := ⟨fun W hk => by
    have hh : Has (W.alloc (.cells #[Value.int IntKind.i64 3, Value.int IntKind.u64 0, Value.int IntKind.u64 0, Value.int IntKind.i64 0, Value.string { data := #[] }, Value.string { data := #[] }, Value.int IntKind.u64 0, Value.string { data := #[] }] 35)) W.heap.size (en (tk 0)) 35 := Has.newA W #[Value.int IntKind.i64 3, Value.int IntKind.u64 0, Value.int IntKind.u64 0, Value.int IntKind.i64 0, Value.string { data := #[] }, Value.string { data := #[] }, Value.int IntKind.u64 0, Value.string { data := #[] }] 35
    have hE : Es (W.alloc (.cells #[Value.int IntKind.i64 3, Value.int IntKind.u64 0, Value.int IntKind.u64 0, Value.int IntKind.i64 0, Value.string { data := #[] }, Value.string { data := #[] }, Value.int IntKind.u64 0, Value.string { data := #[] }] 35)) (some ⟨W.heap.size, 0, none⟩) 1 1 [tk 0] := ⟨rfl, Nat.le_refl _, fun _ => ⟨_, 0, rfl, fun j e he i v hv => by
      match j, he with
      | 0, he =>
        obtain rfl : tk 0 = e := by simpa using he
        rw [Nat.zero_mul, Nat.zero_add]
        exact hh.cellv i v hv
      | j + 1, he => simp at he⟩⟩
    refine (write_c _ 1 1 [tk 0] _ hE (by intro e he; rw [List.mem_singleton.1 he]; exact tk_ok 0 (by decide)) ((hk.kept (World.grownBy_alloc _ _ _)).k) (by decide) (by decide)).mono ?_
    rintro e w' ⟨rfl, g⟩
    exact ⟨by rw [HSV.out.1, HSV.out.2], (World.grownBy_alloc _ _ _).trans g⟩⟩
  have HRD : Keep (∀ W : World, Kc W → Calls Tryz.prog 11 #[.string (ba (b39 ++ Sha.sha b39))] W fun e w' => ∃ v, e = .returned (.tuple #[v, iv 0]) ∧ Rw w' W.heap.size v [tk 0] ∧ W.grownBy w' none) := ⟨fun W hk => by
    have h1 := read_c (b39 ++ Sha.sha b39) W hk (by rw [List.length_append, sha_len, b39_len]; decide)
    rw [rd_wr Sha.sha sha_len [tk 0] (by intro e he; rw [List.mem_singleton.1 he]; exact tk_ok 0 (by decide)) (by decide) b39 body39] at h1
    exact h1⟩
  have hsz : (ba (b39 ++ Sha.sha b39)).size = 71 := by rw [ba_size, List.length_append, sha_len, b39_len]
  generalize ba (b39 ++ Sha.sha b39) = SB at HWR HRD hsz
  clear H0 hwk HSV
  go_enter Tryz.func6, Tryz.ntmps6
  go_wp2_with fail
  refine HL1.out.mono ?_
  rintro e w1 ⟨g1, q1, _⟩
  obtain ⟨v, rfl, hr⟩ := q1 gd01
  obtain ⟨g, c, rfl, hcl⟩ := own_any hr (by decide)
  have HG1 := Keep.mk ((World.grownBy_alloc w (.cells #[Value.int IntKind.i64 3, Value.int IntKind.u64 0, Value.int IntKind.u64 0, Value.int IntKind.i64 0, Value.string { data := #[] }, Value.string { data := #[] }, Value.int IntKind.u64 0, Value.string { data := #[] }, Value.int IntKind.i64 3, Value.int IntKind.u64 1, Value.int IntKind.u64 0, Value.int IntKind.i64 0, Value.string { data := #[] }, Value.string { data := #[] }, Value.int IntKind.u64 0, Value.string { data := #[] }] 35) none).trans g1)
  have cA : w1.cell? ⟨g, 0, none⟩ = some (iv 3) := (hcl 0 _ rfl).1
  have cB : w1.cell? ⟨g, 7, none⟩ = some (.slice none 0 0) := (hcl 7 _ rfl).1
  clear hr hcl g1 q1 HL1
  go_wp2_with fail
  refine (HL2.out w1).mono ?_
  rintro e w2 ⟨rfl, g2⟩
  have HG2 := Keep.mk (HG1.out.trans g2)
  clear g2 HG1 HL2 cA cB
  go_wp2_with fail
  refine (HWR.out w2 (HW.out.kept HG2.out)).mono ?_
  rintro e w3 ⟨rfl, g3⟩
  have HG3 := Keep.mk (HG2.out.trans g3)
  clear g3 HG2 HWR
  go_wp2_with fail
  refine (HRD.out w3 (HW.out.kept HG3.out).k).mono ?_
  rintro e w4 ⟨v4, rfl, r4, g4⟩
  have HG4 := Keep.mk (HG3.out.trans g4)
  obtain ⟨a4, c4, e4, es4, _⟩ := r4.es
  obtain ⟨B4, o4, rfl, _⟩ := es4.at_ (by decide)
  have cc : w4.cell? ⟨B4, o4, none⟩ = some (iv 3) := by
    have := es4.cells (i := 0) (x := tk 0) rfl 0 _ rfl
    rw [Nat.zero_mul, Nat.add_zero] at this
    exact this
  have e4' : v4 = .slice (some ⟨B4, o4, none⟩) 1 c4 := e4
  subst e4'
  clear g4 HG3 HRD r4 es4 e4
  go_wp2_with fail
  go_ret
  exact ⟨by simp, HG4.out⟩
theorem alive_all : ∀ W : World, Wk W → Calls Tryz.prog 6 #[] W fun e w' => e = .returned (.bool true) ∧ W.grownBy w' none := alive_c
end Go.Proofs.YtjbkoablleneeaaGreatDoor.Pk

