import Derived.Test.YtplcicbpkbamnabGreatDoorX34
import Derived.Test.YtplcicbpkbamnabGreatDoorX35
import Derived.Test.YtplcicbpkbamnabGreatDoorX37
import Derived.Test.YtplcicbpkbamnabGreatDoorX29
import Derived.Test.YtplcicbpkbamnabGreatDoorX38
/- LobbyPlays: plays, call by call -/
namespace Go.Proofs.YtplcicbpkbamnabGreatDoor.Lo
open Go Go.RowKit Go.Maps

/-- the two lobbies, alike and fine -/
structure Bt (X : Lb) (Y : Rl) : Prop where
  rel : Rel X Y
  ok : LbOk X
  up : Up X
  len : Y.S.length < 900000
  mks : ∀ x ∈ Y.S, x.L.length < 900
  nm : ∀ a ∈ X.A, a.nm.size ≤ 1048576
  idle : X.idle ≤ 100000
/-- what the world holds from the start -/
structure Wc (w0 : World) : Prop where
  n : Na.Kc w0
  k : Kc w0
  r : RK w0
  h : 4 ≤ w0.heap.size
/-- a call's texts are short -/
structure OpS (o : Opr) : Prop where
  ok : OpOk o
  nm : o.nm.size ≤ 1048576
  b : o.b.size ≤ 1048576
  c : o.c.size ≤ 1048576
/-- what plays answers -/
def PlQ (w0 : World) (lb kb : Nat) (_X : Lb) (Y : Rl) (X' : Lb) (l : List As) (e : Ending) (W' : World) : Prop :=
  e = .returned (.bool true) ∧ ∃ Y', Sep w0 W' (lobA lb X' :: rlobA kb Y' :: l) ∧ Rel X' Y' ∧ Y'.S.length ≤ Y.S.length + 1 ∧ ∀ m, (∀ x ∈ Y.S, x.L.length ≤ m) → ∀ x ∈ Y'.S, x.L.length ≤ m + 1
theorem drop3 {w0 W : World} {a b c : As} {l : List As} (h : Sep w0 W (a :: b :: c :: l)) : Sep w0 W (b :: a :: l) := h.swap.third.tail
theorem mup {Y Y' : Rl} (h : ∀ m, (∀ x ∈ Y.S, x.L.length ≤ m) → ∀ x ∈ Y'.S, x.L.length ≤ m) : ∀ m, (∀ x ∈ Y.S, x.L.length ≤ m) → ∀ x ∈ Y'.S, x.L.length ≤ m + 1 := fun m hm x hx => Nat.le_succ_of_le (h m hm x hx)
theorem snt_form (X : Lb) (k : Nat) : ∃ (a : Nat) (b : Int), sntS X k = .tuple #[uv a, iv b] := by
  unfold sntS
  cases fds X k with
  | none => exact ⟨_, _, rfl⟩
  | some s => exact ⟨_, _, rfl⟩
set_option maxRecDepth 100000 in
set_option maxHeartbeats 16000000 in
theorem play_8 (w0 W : World) (l : List As) (lb kb : Nat) (X : Lb) (Y : Rl) (o : Opr) (hk : o.kd = 8) (h : Sep w0 W (lobA lb X :: rlobA kb Y :: l)) (bt : Bt X Y) (os : OpS o) (wc : Wc w0) :
    Calls Tryz.prog 7 #[pt lb, pt kb, .agg (opv o).toArray] W (PlQ w0 lb kb X Y (sntX X o.ses) l) := by
  have S1 := h.newBox (opv o).toArray 40
  obtain ⟨W1, hW1⟩ : ∃ W1, W.alloc (.cells (opv o).toArray 40) = W1 := ⟨_, rfl⟩
  obtain ⟨ob, hob⟩ : ∃ ob, W.heap.size = ob := ⟨_, rfl⟩
  rw [hW1, hob] at S1
  change Sep w0 W1 (boxA ob (opv o) 40 :: lobA lb X :: rlobA kb Y :: l) at S1
  have hlen : Y.S.length ≤ 1000000 := by have := bt.len; omega
  have hob' := S1.boxGet k0m
  have hkc : ∀ W' l', Sep w0 W' l' → Na.Kc W' := fun W' l' hh => wc.n.kept hh.g
  have c6 : W1.cell? ⟨ob, 6, none⟩ = some (uv o.ses) := hob'.cellv 6 _ rfl
  have c0 : W1.cell? ⟨ob, 0, none⟩ = some (iv 8) := by rw [← hk]; exact hob'.cellv 0 _ rfl
  have hL := sent_c w0 W1 _ lb X o.ses S1.swap bt.ok os.ok.ses
  have HR : Keep (∀ W', Sep w0 W' (lobA lb (sntX X o.ses) :: boxA ob (opv o) 40 :: rlobA kb Y :: l) → (W'.cell? ⟨ob, 6, none⟩ = some (uv o.ses)) ∧ Calls Tryz.prog 39 #[pt kb, uv o.ses] W' fun e W'' => e = .returned (sntS X o.ses) ∧ ∃ Y', Sep w0 W'' (lobA lb (sntX X o.ses) :: rlobA kb Y' :: l) ∧ Rel (sntX X o.ses) Y' ∧ Y'.S.length ≤ Y.S.length + 1 ∧ ∀ m, (∀ x ∈ Y.S, x.L.length ≤ m) → ∀ x ∈ Y'.S, x.L.length ≤ m + 1) := ⟨fun W' hh => ⟨(hh.boxGet k1m).cellv 6 _ rfl, (rsent_c w0 W' _ kb X Y o.ses hh.third bt.rel hlen).mono fun e W'' ⟨he, Y', q1, q2, q3, q4⟩ => ⟨he, Y', drop3 q1, q2, by omega, mup q4⟩⟩⟩
  obtain ⟨va, vb, hv⟩ := snt_form X o.ses
  rw [hv] at hL HR
  clear h hv S1 hob' bt os wc hkc hlen hk
  generalize (opv o).toArray = ov at hW1 ⊢
  go_enter Tryz.func7, Tryz.ntmps7
  go_wp2_with fail
  refine hL.mono ?_
  rintro e w2 ⟨rfl, S2⟩
  obtain ⟨d6, hC⟩ := HR.out w2 S2
  clear hL S2 HR hob c6 c0 hW1
  go_wp2_with fail
  refine hC.mono ?_
  rintro e w3 ⟨rfl, hF⟩
  have HF := Keep.mk hF
  clear hC hF
  go_wp2_with fail
  go_ret
  exact ⟨by simp, HF.out⟩
set_option maxRecDepth 100000 in
set_option maxHeartbeats 16000000 in
theorem play_10 (w0 W : World) (l : List As) (lb kb : Nat) (X : Lb) (Y : Rl) (o : Opr) (hk : o.kd = 10) (h : Sep w0 W (lobA lb X :: rlobA kb Y :: l)) (bt : Bt X Y) (os : OpS o) (wc : Wc w0) :
    Calls Tryz.prog 7 #[pt lb, pt kb, .agg (opv o).toArray] W (PlQ w0 lb kb X Y (X) l) := by
  have S1 := h.newBox (opv o).toArray 40
  obtain ⟨W1, hW1⟩ : ∃ W1, W.alloc (.cells (opv o).toArray 40) = W1 := ⟨_, rfl⟩
  obtain ⟨ob, hob⟩ : ∃ ob, W.heap.size = ob := ⟨_, rfl⟩
  rw [hW1, hob] at S1
  change Sep w0 W1 (boxA ob (opv o) 40 :: lobA lb X :: rlobA kb Y :: l) at S1
  have hlen : Y.S.length ≤ 1000000 := by have := bt.len; omega
  have hob' := S1.boxGet k0m
  have hkc : ∀ W' l', Sep w0 W' l' → Na.Kc W' := fun W' l' hh => wc.n.kept hh.g
  have c6 : W1.cell? ⟨ob, 6, none⟩ = some (uv o.ses) := hob'.cellv 6 _ rfl
  have c0 : W1.cell? ⟨ob, 0, none⟩ = some (iv 10) := by rw [← hk]; exact hob'.cellv 0 _ rfl
  have hL := key_c w0 W1 _ lb X o.ses S1.swap bt.ok os.ok.ses
  have HR : Keep (∀ W', Sep w0 W' (lobA lb (X) :: boxA ob (opv o) 40 :: rlobA kb Y :: l) → (W'.cell? ⟨ob, 6, none⟩ = some (uv o.ses)) ∧ Calls Tryz.prog 42 #[pt kb, uv o.ses] W' fun e W'' => e = .returned (.tuple #[.string (keyS X o.ses), .bool (fds X o.ses).isSome]) ∧ ∃ Y', Sep w0 W'' (lobA lb (X) :: rlobA kb Y' :: l) ∧ Rel (X) Y' ∧ Y'.S.length ≤ Y.S.length + 1 ∧ ∀ m, (∀ x ∈ Y.S, x.L.length ≤ m) → ∀ x ∈ Y'.S, x.L.length ≤ m + 1) := ⟨fun W' hh => ⟨(hh.boxGet k1m).cellv 6 _ rfl, (rkey_c w0 W' _ kb X Y o.ses hh.third bt.rel hlen).mono fun e W'' ⟨he, hw⟩ => ⟨he, Y, by rw [hw]; exact drop3 hh.third, bt.rel, by omega, mup fun m hm => hm⟩⟩⟩
  clear h S1 hob' bt os wc hkc hlen hk
  generalize (opv o).toArray = ov at hW1 ⊢
  generalize keyS X o.ses = ky at hL HR
  generalize (fds X o.ses).isSome = yn at hL HR
  go_enter Tryz.func7, Tryz.ntmps7
  go_wp2_with fail
  refine hL.mono ?_
  rintro e w2 ⟨rfl, S2⟩
  obtain ⟨d6, hC⟩ := HR.out w2 S2
  clear hL S2 HR hob c6 c0 hW1
  go_wp2_with fail
  refine hC.mono ?_
  rintro e w3 ⟨rfl, hF⟩
  have HF := Keep.mk hF
  clear hC hF
  go_wp2_with fail
  go_ret
  exact ⟨by simp, HF.out⟩
set_option maxRecDepth 100000 in
set_option maxHeartbeats 16000000 in
theorem play_11 (w0 W : World) (l : List As) (lb kb : Nat) (X : Lb) (Y : Rl) (o : Opr) (hk : o.kd = 11) (h : Sep w0 W (lobA lb X :: rlobA kb Y :: l)) (bt : Bt X Y) (os : OpS o) (wc : Wc w0) :
    Calls Tryz.prog 7 #[pt lb, pt kb, .agg (opv o).toArray] W (PlQ w0 lb kb X Y (X) l) := by
  have S1 := h.newBox (opv o).toArray 40
  obtain ⟨W1, hW1⟩ : ∃ W1, W.alloc (.cells (opv o).toArray 40) = W1 := ⟨_, rfl⟩
  obtain ⟨ob, hob⟩ : ∃ ob, W.heap.size = ob := ⟨_, rfl⟩
  rw [hW1, hob] at S1
  change Sep w0 W1 (boxA ob (opv o) 40 :: lobA lb X :: rlobA kb Y :: l) at S1
  have hlen : Y.S.length ≤ 1000000 := by have := bt.len; omega
  have hob' := S1.boxGet k0m
  have hkc : ∀ W' l', Sep w0 W' l' → Na.Kc W' := fun W' l' hh => wc.n.kept hh.g
  have c5 : W1.cell? ⟨ob, 5, none⟩ = some (.string o.nm) := hob'.cellv 5 _ rfl
  have c0 : W1.cell? ⟨ob, 0, none⟩ = some (iv 11) := by rw [← hk]; exact hob'.cellv 0 _ rfl
  have hL := secret_c w0 W1 _ lb X o.nm S1.swap bt.ok (hkc _ _ S1) os.ok.nm
  have HR : Keep (∀ W', Sep w0 W' (lobA lb (X) :: boxA ob (opv o) 40 :: rlobA kb Y :: l) → (W'.cell? ⟨ob, 5, none⟩ = some (.string o.nm)) ∧ Calls Tryz.prog 44 #[pt kb, .string o.nm] W' fun e W'' => e = .returned (.tuple #[.string (secS X o.nm), .bool (fdI X.A o.nm).isSome]) ∧ ∃ Y', Sep w0 W'' (lobA lb (X) :: rlobA kb Y' :: l) ∧ Rel (X) Y' ∧ Y'.S.length ≤ Y.S.length + 1 ∧ ∀ m, (∀ x ∈ Y.S, x.L.length ≤ m) → ∀ x ∈ Y'.S, x.L.length ≤ m + 1) := ⟨fun W' hh => ⟨(hh.boxGet k1m).cellv 5 _ rfl, (rsec_c w0 W' _ kb X Y o.nm hh.third bt.rel os.nm (acOf_nm bt.rel.a bt.nm) (by have := bt.ok.a2; rw [bt.rel.a, List.length_map] at this; exact this)).mono fun e W'' ⟨he, q1⟩ => ⟨he, Y, drop3 q1, bt.rel, by omega, mup fun m hm => hm⟩⟩⟩
  clear h S1 hob' bt os wc hkc hlen hk
  generalize (opv o).toArray = ov at hW1 ⊢
  generalize secS X o.nm = ky at hL HR
  generalize (fdI X.A o.nm).isSome = yn at hL HR
  go_enter Tryz.func7, Tryz.ntmps7
  go_wp2_with fail
  refine hL.mono ?_
  rintro e w2 ⟨rfl, S2⟩
  obtain ⟨d5, hC⟩ := HR.out w2 S2
  clear hL S2 HR hob c5 c0 hW1
  go_wp2_with fail
  refine hC.mono ?_
  rintro e w3 ⟨rfl, hF⟩
  have HF := Keep.mk hF
  clear hC hF
  go_wp2_with fail
  go_ret
  exact ⟨by simp, HF.out⟩
end Go.Proofs.YtplcicbpkbamnabGreatDoor.Lo

