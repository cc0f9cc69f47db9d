import Derived.Test.YtkdjcknikhgfkabGreatDoorX10
import Derived.Test.YtkdjcknikhgfkabGreatDoorX21
import Derived.Test.YtkdjcknikhgfkabGreatDoorX24
import Derived.Test.YtkdjcknikhgfkabGreatDoorX26
import Derived.Test.YtkdjcknikhgfkabGreatDoorX4
import Derived.Deep.DeepCutAuto
/- the reference's Encode of kind 6 -/
namespace Go.Proofs.YtkdjcknikhgfkabGreatDoor.Pk
open Go Go.RowKit
set_option maxRecDepth 100000 in
theorem mid_has (w : World) (a c : Obj) (l : List Value) (t : TypeId) : Has (((w.alloc a).alloc (.cells l.toArray t)).alloc c) (w.heap.size + 1) l t := by
  have h := (Has.new (w.alloc a) l t).alloc c
  rwa [World.size_alloc] at h
set_option maxRecDepth 100000 in
theorem gr_three (w : World) (a b c : Obj) : w.grownBy (((w.alloc a).alloc b).alloc c) none := ((World.grownBy_alloc _ _ _).trans (World.grownBy_alloc _ _ _)).trans (World.grownBy_alloc _ _ _)
set_option maxRecDepth 100000 in
set_option maxHeartbeats 4000000 in
theorem length_any (n : Nat) (w : World) (hn : n < 18446744073709551616) :
    Calls Tryz.prog 64 #[.int .u64 n] w fun e w' => e = .returned (.string ⟨(Mac.len8 n).toArray⟩) ∧ w.grownBy w' none := by
  have hmk := make28 8 (by decide)
  have HZ : Keep (∀ W : World, Has (W.alloc (.cells ((List.replicate 8 (0 : UInt8)).map bv).toArray 5)) W.heap.size ((List.replicate 8 (0 : UInt8)).map bv) 5) := ⟨fun W => Has.new _ _ _⟩
  generalize ((List.replicate 8 (0 : UInt8)).map bv).toArray = Z at hmk HZ
  have hmk' : ∀ W : World, (Instr.makeSlice 73 (.int .i64 8) (.int .i64 8)).run Tryz.prog W = .ok (.slice (some ⟨W.heap.size, 0, none⟩) 8 8) (W.alloc (.cells Z 5)) := hmk
  clear hmk
  go_enter Tryz.func64, Tryz.ntmps64
  go_wp2_with fail
  go_loopw [0, 4] (fun nv t w' => ∃ j : Nat, j ≤ 8 ∧ t = .int .i64 (7 - (j : Int)) ∧ nv = .int .u64 ((n / 2 ^ (8 * j) : Nat) : Int) ∧ Keep (LG w w' n j)) (fun _ t _ => (intOf t + 1).toNat)
  case atStart => exact ⟨0, by omega, rfl, by simp, ⟨HZ.out _, World.grownBy_alloc _ _ _⟩⟩
  case round =>
    obtain ⟨j, hj, rfl, rfl, hrel⟩ := hrel
    by_cases hlj : j < 8
    · obtain ⟨i, hi⟩ : ∃ i : Nat, i + j = 7 := ⟨7 - j, by omega⟩
      obtain ⟨m, hm⟩ : ∃ m, n / 2 ^ (8 * j) = m := ⟨_, rfl⟩
      obtain ⟨v, hv⟩ : ∃ v, UInt8.ofNat m = v := ⟨_, rfl⟩
      have hm2 : m / 256 = n / 2 ^ (8 * (j + 1)) := by
        rw [← hm, Nat.div_div_eq_div_mul, Nat.mul_add, Nat.pow_add]
      have HM : Keep (m / 256 = n / 2 ^ (8 * (j + 1))) := ⟨hm2⟩
      have hmn : m < 18446744073709551616 := by rw [← hm]; exact Nat.lt_of_le_of_lt (Nat.div_le_self _ _) hn
      have ei : 7 - j = i := by omega
      have e7 : (7 : Int) - (j : Int) = (i : Int) := by omega
      have hv1 : (m : Int) % 256 = (v.toNat : Int) := by rw [← hv]; simp
      have hv2 : (v.toNat : Int) % 256 = (v.toNat : Int) := by have := v.toNat_lt; omega
      have hf := hrel.out.r.frozen i
      have hil : i < 8 := by omega
      obtain ⟨y0, hc⟩ : ∃ y, wr.cell? ⟨w.heap.size, i, none⟩ = some y := Option.isSome_iff_exists.1 (hrel.out.r.there i 1 (by rw [List.length_map, l8R_len n j hj]; omega) 0 (by decide)).1
      have H2 : Keep (LG w (wr.setCell ⟨w.heap.size, i, none⟩ (.int .u8 v.toNat)) n (j + 1)) := ⟨by
        have := hrel.out.r.setCell i (bv v)
        rw [← List.map_set, ← hv, ← hm, ← ei, l8R_step n j hlj, hm, hv, ei] at this
        exact this, gr_new hrel.out.g (gr_set _ _ _ _) (Nat.le_refl _)⟩
      rw [hm, e7]
      clear hrel hv hm hm2
      go_wp2
      refine ⟨⟨j + 1, by omega, by congr 1; omega, ?_, H2⟩, ?_⟩
      · rw [← HM.out]; rfl
      · simp only [intOf]; omega
    · obtain rfl : j = 8 := by omega
      have hbe : BytesOf wr (some ⟨w.heap.size, 0, none⟩) 8 8 (Mac.len8 n) := by
        have h := hrel.out.r
        exact ⟨rfl, Nat.le_refl _, fun _ => ⟨_, 0, rfl, fun j z hz => by rw [Nat.zero_add]; exact h.cellv j _ (by rw [List.getElem?_map, show l8R n 8 = Mac.len8 n from rfl, hz]; rfl)⟩⟩
      have hcv := cvt_back _ _ _ _ _ hbe (by simp)
      have H9 : Keep (w.grownBy wr none) := ⟨hrel.out.g⟩
      clear hrel hbe
      go_wp2
      go_ret
      exact ⟨rfl, H9.out⟩
set_option maxRecDepth 100000 in
theorem gr_two (w : World) (a b : Obj) : w.grownBy ((w.alloc a).alloc b) none := (World.grownBy_alloc _ _ _).trans (World.grownBy_alloc _ _ _)
set_option maxHeartbeats 16000000 in
set_option maxRecDepth 100000 in
theorem rfits_6 (d : Dg) (w : World) (hk : d.kind = 6) :
    Calls Tryz.prog 63 #[dv d] w fun e w' => e = .returned (.bool (decide (d.tag.size = 32))) ∧ w.grownBy w' none := by
  unfold dv
  rw [hk]
  generalize d.nonce = nonce
  generalize d.epoch = epoch
  generalize d.cookie = cookie
  generalize d.name = name
  generalize d.session = session
  generalize d.player = player
  generalize d.salt = salt
  generalize d.seq = seq
  generalize d.thr = thr
  generalize d.turn = turn
  generalize d.fire = fire
  generalize d.boost = boost
  generalize d.data = data
  generalize d.tag = tag
  clear hk
  by_cases c0 : tag.size = 32
  case neg =>
    rw [decide_eq_false (show ¬ (tag.size = 32) from fun q => c0 (by omega))]
    have s_tag : ((tag.size : Int) != 32) = true := by simp; omega
    have s2_tag : decide ((tag.size : Int) = 32) = false := decide_eq_false (by omega)
    have s3_tag : ((tag.size : Int) == 32) = false := by simp; omega
    go_enter Tryz.func63, Tryz.ntmps63
    go_wp2_with fail
    go_ret
    exact ⟨rfl, gr_two w _ _⟩
  rw [decide_eq_true (show tag.size = 32 from by omega)]
  have s_tag : (tag.size : Int) = 32 := by omega
  go_enter Tryz.func63, Tryz.ntmps63
  go_wp2_with fail
  go_ret
  exact ⟨rfl, gr_two w _ _⟩
set_option maxRecDepth 100000 in
theorem fitsS1 (x : Int) : fitsS x 1 ↔ -128 ≤ x ∧ x ≤ 127 := by
  unfold fitsS
  have e : ((256 ^ (1 : Int).toNat : Nat) : Int) = 256 := by decide
  constructor
  · rintro ⟨_, h⟩
    rw [e] at h; omega
  · intro h
    exact ⟨by decide, by rw [e]; omega⟩
set_option maxRecDepth 100000 in
theorem fitsU1 (x : Int) (h : -9223372036854775808 ≤ x ∧ x < 9223372036854775808) : fitsU (u64 x) 1 ↔ 0 ≤ x ∧ x ≤ 255 := by
  unfold fitsU
  have e : (256 ^ (1 : Int).toNat : Nat) = 256 := by decide
  constructor
  · rintro ⟨_, q⟩
    rw [e] at q; unfold u64 at q; omega
  · intro q
    exact ⟨by decide, by rw [e]; unfold u64; omega⟩
set_option maxRecDepth 100000 in
theorem len8_be (n : Nat) : (⟨(Mac.len8 n).toArray⟩ : ByteArray) = ba (be 8 n) := by
  have e : Mac.len8 n = be 8 n := by simp [Mac.len8, be]
  rw [e]
set_option maxRecDepth 100000 in
theorem rlen_c (n : Nat) (w : World) (hn : n < 18446744073709551616) :
    Calls Tryz.prog 64 #[.int .u64 n] w fun e w' => e = .returned (.string (ba (be 8 n))) ∧ w.grownBy w' none := by
  have h := length_any n w hn
  rw [len8_be n] at h; exact h
set_option maxRecDepth 100000 in
theorem cvt_new (k : UInt8) (z : Int) (hz : z = (k.toNat : Int)) (W : World) : (convert 73 9 (.slice (some ⟨W.heap.size, 0, none⟩) 1 1)).run Tryz.prog (W.alloc (.cells #[.int .u8 z] 5)) = .ok (.string (ba [k])) (W.alloc (.cells #[.int .u8 z] 5)) := by
  subst hz
  have h := Has.newA W #[.int .u8 (k.toNat : Int)] 5
  exact cvt_cells (W.alloc (.cells #[.int .u8 (k.toNat : Int)] 5)) (some ⟨W.heap.size, 0, none⟩) 1 [k] (fun e => by cases e) (fun ad e j x hx => by
    obtain rfl := Option.some.inj e
    match j, hx with
    | 0, rfl =>
      rw [show ((⟨W.heap.size, 0, none⟩ : Addr).add 0) = ⟨W.heap.size, 0, none⟩ from rfl, h.cellv 0 _ rfl])
set_option maxRecDepth 100000 in
theorem be1 (x : Int) (h : 0 ≤ x ∧ x ≤ 255) : be 1 (u64 x) = [UInt8.ofNat x.toNat] := by
  have e : u64 x = x.toNat := by unfold u64; omega
  rw [e]; simp [be]
set_option maxRecDepth 100000 in
theorem cvt_has (k : UInt8) (z : Int) (hz : z = (k.toNat : Int)) (b : Nat) (W : World) (h : Has W b [.int .u8 z] 5) : (convert 73 9 (.slice (some ⟨b, 0, none⟩) 1 1)).run Tryz.prog W = .ok (.string (ba [k])) W := by
  subst hz
  exact cvt_cells W (some ⟨b, 0, none⟩) 1 [k] (fun e => by cases e) (fun ad e j x hx => by
    obtain rfl := Option.some.inj e
    match j, hx with
    | 0, rfl =>
      rw [show ((⟨b, 0, none⟩ : Addr).add 0) = ⟨b, 0, none⟩ from rfl, h.cellv 0 _ rfl])
set_option maxHeartbeats 16000000 in
set_option maxRecDepth 100000 in
theorem renc_6 (d : Dg) (hf : d.fine) (hs : d.small) (w : World) (hk : d.kind = 6) :
    Calls Tryz.prog 37 #[dv d] w fun e w' => e = .returned (.tuple #[.string (ba (enc d).1), .int .i64 (enc d).2]) ∧ w.grownBy w' none := by
  obtain ⟨du, hdu, hdr⟩ := under26
  have h0 : ¬ fieldsL d.kind = [] := fieldsL_some (by omega)
  have hFI := fun W => rfits_6 d W hk
  obtain ⟨w0, hw0⟩ : ∃ q, w.alloc (.cells d.cells.toArray 67) = q := ⟨_, rfl⟩
  obtain ⟨h1, g1⟩ := alloc_has hw0
  have HC : Keep (Has w0 w.heap.size d.cells 67 ∧ w.grownBy w0 none) := ⟨h1, g1⟩
  have q1 : w.alloc (.cells #[.int .i64 d.kind, .string d.nonce, .int .u64 d.epoch, .string d.cookie, .string d.name, .int .u64 d.session, .int .i64 d.player, .string d.salt, .int .u64 d.seq, .int .i64 d.thr, .int .i64 d.turn, .bool d.fire, .bool d.boost, .string d.data, .string d.tag] 67) = w0 := hw0
  have c0 : w0.cell? ⟨w.heap.size, 0, none⟩ = some (.int .i64 6) := by rw [← hk]; exact h1.cellv 0 _ rfl
  clear hw0 h1 g1
  by_cases hc : d.tag.size = 32
  · have hfit : ∀ f ∈ fieldsL d.kind, fitF d f := by
      rw [hk]
      intro f hm
      simp only [fieldsL, reduceIte, Int.reduceEq, List.mem_cons, List.not_mem_nil, or_false] at hm
      rcases hm with rfl | rfl | rfl | rfl
      · exact hf.s
      · exact hf.q
      · exact trivial
      · exact hc
    have he : enc d = if 1200 < (headL d ++ bytesF d (fieldsL d.kind)).length then ([], 72) else (headL d ++ bytesF d (fieldsL d.kind), 0) := by rw [enc_is d hf, if_neg h0, if_pos hfit]
    have HFI : Keep (∀ W, Calls Tryz.prog 63 #[.agg d.cells.toArray] W fun e w' => e = .returned (.bool true) ∧ W.grownBy w' none) := ⟨fun W => by have := hFI W; rw [decide_eq_true hc] at this; exact this⟩
    clear hFI hfit h0
    obtain ⟨X1, hX1⟩ : ∃ x, ba [(6 : UInt8)] = x := ⟨_, rfl⟩
    have hcv : ∀ W : World, (convert 73 9 (.slice (some ⟨W.heap.size, 0, none⟩) 1 1)).run Tryz.prog (W.alloc (.cells #[.int .u8 6] 5)) = .ok (.string X1) (W.alloc (.cells #[.int .u8 6] 5)) := fun W => by rw [← hX1]; exact cvt_new 6 6 rfl W
    obtain ⟨L1, hL1⟩ : ∃ x, ba (be 8 d.session) = x := ⟨_, rfl⟩
    obtain ⟨L2, hL2⟩ : ∃ x, ba (be 8 d.seq) = x := ⟨_, rfl⟩
    obtain ⟨A0, hA0⟩ : ∃ x, mgB ++ X1 = x := ⟨_, rfl⟩
    obtain ⟨A1, hA1⟩ : ∃ x, A0 ++ L1 = x := ⟨_, rfl⟩
    obtain ⟨A2, hA2⟩ : ∃ x, A1 ++ L2 = x := ⟨_, rfl⟩
    obtain ⟨A3, hA3⟩ : ∃ x, A2 ++ d.data = x := ⟨_, rfl⟩
    obtain ⟨A4, hA4⟩ : ∃ x, A3 ++ d.tag = x := ⟨_, rfl⟩
    have z0 : A0.size = 4 := by rw [← hA0, ByteArray.size_append, ← hX1]; rfl
    have zL1 : L1.size = 8 := by rw [← hL1, ba_size, be_len]
    have zL2 : L2.size = 8 := by rw [← hL2, ba_size, be_len]
    have z1 : A1.size = A0.size + L1.size := by rw [← hA1, ByteArray.size_append]
    have z2 : A2.size = A1.size + L2.size := by rw [← hA2, ByteArray.size_append]
    have z3 : A3.size = A2.size + d.data.size := by rw [← hA3, ByteArray.size_append]
    have z4 : A4.size = A3.size + d.tag.size := by rw [← hA4, ByteArray.size_append]
    have y_data := hs.dt
    have y_tag := hs.t
    have b0 : ∀ W, (Op.stringOp .add { data := #[74, 48, 49] } X1).run Tryz.prog W = .ok (.string A0) W := fun W => by rw [← hA0]; exact addS mgB X1 (by rw [← hX1]; decide) W
    have b1 : ∀ W, (Op.stringOp .add A0 L1).run Tryz.prog W = .ok (.string A1) W := fun W => by rw [← hA1]; exact addS A0 L1 (by omega) W
    have b2 : ∀ W, (Op.stringOp .add A1 L2).run Tryz.prog W = .ok (.string A2) W := fun W => by rw [← hA2]; exact addS A1 L2 (by omega) W
    have b3 : ∀ W, (Op.stringOp .add A2 d.data).run Tryz.prog W = .ok (.string A3) W := fun W => by rw [← hA3]; exact addS A2 d.data (by omega) W
    have b4 : ∀ W, (Op.stringOp .add A3 d.tag).run Tryz.prog W = .ok (.string A4) W := fun W => by rw [← hA4]; exact addS A3 d.tag (by omega) W
    have hsl : headL d ++ bytesF d (fieldsL d.kind) = sl A4 := by
      rw [← hA4, ← hA3, ← hA2, ← hA1, ← hA0, ← hL1, ← hL2, ← hX1]
      rw [sl_app, sl_app, sl_app, sl_app, sl_app, hk]
      rw [show sl (ba [(6 : UInt8)]) = [6] from sl_mk _, show sl (ba (be 8 d.session)) = be 8 d.session from sl_mk _, show sl (ba (be 8 d.seq)) = be 8 d.seq from sl_mk _]
      simp only [fieldsL, bytesF, List.map_cons, List.map_nil, List.flatten_cons, List.flatten_nil, reduceIte, Int.reduceEq, lyB, List.append_assoc, List.append_nil, headL, hk]
      rfl
    rw [hsl, sl_len] at he
    have HE := Keep.mk he
    have HA : Keep (ba (sl A4) = A4) := ⟨sl_back A4⟩
    have HR1 : Keep (∀ W, Calls Tryz.prog 64 #[.int .u64 d.session] W fun e w' => e = .returned (.string L1) ∧ W.grownBy w' none) := ⟨fun W => by rw [← hL1]; exact rlen_c d.session W hf.s⟩
    have HR2 : Keep (∀ W, Calls Tryz.prog 64 #[.int .u64 d.seq] W fun e w' => e = .returned (.string L2) ∧ W.grownBy w' none) := ⟨fun W => by rw [← hL2]; exact rlen_c d.seq W hf.q⟩
    have HZ : Keep (A4.size ≤ 9223372036854775807) := ⟨by omega⟩
    clear he hsl hX1 hL1 hL2 hA0 hA1 hA2 hA3 hA4 z0 z1 z2 z3 z4 zL1 zL2 y_data y_tag hc hf hs
    have HKK := Keep.mk hk
    clear hk
    unfold dv
    rcases Nat.lt_or_ge 1200 A4.size with hl | hl
    case' inl => have hd1 : decide ((1200 : Int) < (A4.size : Int)) = true := decide_eq_true (by omega)
    case' inr => have hd1 : decide ((1200 : Int) < (A4.size : Int)) = false := decide_eq_false (by omega)
    case' inl => have hd2 : (1200 : Int) < (A4.size : Int) := by omega
    case' inr => have hd2 : ¬ (1200 : Int) < (A4.size : Int) := by omega
    case' inl => have hex : enc d = ([], 72) := by rw [HE.out, if_pos hl]
    case' inr => have hex : enc d = (sl A4, 0) := by rw [HE.out, if_neg (by omega)]
    all_goals
      have HEX := Keep.mk hex
      clear hex HE
      go_enter Tryz.func37, Tryz.ntmps37
      go_wp2_with (refine wpList_load_mid rfl 67 _ rfl _ _ rfl d.cells _ (HC.out.1).range hdu hdr info26 ?_)
      refine (HFI.out _).mono ?_
      rintro e' w1 ⟨rfl, gn⟩
      have HC1 : Keep (Has w1 w.heap.size d.cells 67 ∧ w.grownBy w1 none) := ⟨(HC.out.1).kept gn (by simp), (HC.out.2).trans gn⟩
      clear gn
      have k0 : w1.cell? ⟨w.heap.size, 0, none⟩ = some (.int .i64 6) := by rw [← HKK.out]; exact HC1.out.1.cellv 0 _ rfl
      obtain ⟨w2, hw2⟩ : ∃ q, w1.alloc (.cells #[.int .u8 6] 5) = q := ⟨_, rfl⟩
      have HC2 : Keep (Has w2 w.heap.size d.cells 67 ∧ w.grownBy w2 none) := ⟨by rw [← hw2]; exact HC1.out.1.alloc _, by rw [← hw2]; exact HC1.out.2.trans (World.grownBy_alloc _ _ _)⟩
      have hcv1 := hcv w1
      rw [hw2] at hcv1
      have n2 : w2.cell? ⟨w.heap.size, 1, none⟩ = some (.string d.nonce) := HC2.out.1.cellv 1 _ rfl
      have k2 : w2.cell? ⟨w.heap.size, 0, none⟩ = some (.int .i64 6) := by rw [← HKK.out]; exact HC2.out.1.cellv 0 _ rfl
      go_wp2_with fail
      clear hcv1 hw2 k0 c0 q1 HC1
      have HH : Keep (Has w2.drew w.heap.size d.cells 67 ∧ w.grownBy w2.drew none) := ⟨HC2.out.1.kept (gr_drew _ none) (by simp), HC2.out.2.trans (gr_drew _ _)⟩
      refine wp_region_held_drew (S := fun w' => Has w' w.heap.size d.cells 67 ∧ w.grownBy w' none) (by kernel_rfl) HH.out (fun hHeld => ?_)
      refine wpAnyH_take (i := 0) (oi := _) (v := ?_) rfl (by kernel_rfl) (by kernel_rfl) (by kernel_rfl) (fun _ _ _ h => h) (Or.inl ⟨by rfl, ?_⟩) (by assumption) ?_
      rotate_left
      · (intro w hSw; go_simp; first | done | (with_reducible rfl))
      simp only [Act.put, List.getElem_toArray, List.getElem_cons_zero, List.setIfInBounds_toArray, List.set_cons_zero, List.set_cons_succ]
      refine wpAnyH_take (i := 1) (oi := _) (v := ?_) rfl (by kernel_rfl) (by kernel_rfl) (by kernel_rfl) (fun _ _ _ h => h) (Or.inl ⟨by rfl, ?_⟩) (by assumption) ?_
      rotate_left
      · (intro w hSw; go_simp; first | done | (with_reducible rfl))
      simp only [Act.put, List.getElem_toArray, List.getElem_cons_succ, List.getElem_cons_zero, List.setIfInBounds_toArray, List.set_cons_zero, List.set_cons_succ]
      refine wpAnyH_take (i := 2) (oi := _) (v := ?_) rfl (by kernel_rfl) (by kernel_rfl) (by kernel_rfl) (fun _ _ _ h => h) (Or.inl ⟨by rfl, ?_⟩) (by assumption) ?_
      rotate_left
      · (intro w hSw; have x1 := hSw.1.cellv 5 _ rfl; clear hSw; go_simp; first | done | (with_reducible rfl))
      simp only [Act.put, List.getElem_toArray, List.getElem_cons_succ, List.getElem_cons_zero, List.setIfInBounds_toArray, List.set_cons_zero, List.set_cons_succ]
      refine wpAnyH_take (i := 5) (oi := _) (v := ?_) rfl (by kernel_rfl) (by kernel_rfl) (by kernel_rfl) (fun _ _ _ h => h) (Or.inl ⟨by rfl, ?_⟩) (by assumption) ?_
      rotate_left
      · (intro w hSw; go_simp; first | done | (with_reducible rfl))
      simp only [Act.put, List.getElem_toArray, List.getElem_cons_succ, List.getElem_cons_zero, List.setIfInBounds_toArray, List.set_cons_zero, List.set_cons_succ]
      refine wpAnyH_take (i := 6) (oi := _) (v := ?_) rfl (by kernel_rfl) (by kernel_rfl) (by kernel_rfl) (fun _ _ _ h => h) (Or.inl ⟨by rfl, ?_⟩) (by assumption) ?_
      rotate_left
      · (intro w hSw; have x1 := hSw.1.cellv 8 _ rfl; clear hSw; go_simp; first | done | (with_reducible rfl))
      simp only [Act.put, List.getElem_toArray, List.getElem_cons_succ, List.getElem_cons_zero, List.setIfInBounds_toArray, List.set_cons_zero, List.set_cons_succ]
      refine wpAnyH_ready (rs := [3]) (by kernel_rfl) (by simp) ?_
      refine AllReadyH.cons rfl (fun K hK => ?_) AllReadyH.nil
      go_simp
      refine (HR1.out _).mono ?_
      rintro e' w3 ⟨rfl, gn⟩
      have HS1 : Keep (Has w3 w.heap.size d.cells 67 ∧ w.grownBy w3 none) := ⟨HH.out.1.kept gn (by simp), HH.out.2.trans gn⟩
      clear gn
      refine hK.out _ _ HS1.out (fun hHeld => ?_)
      clear hK K
      refine wpAnyH_take (i := 4) (oi := _) (v := ?_) rfl (by kernel_rfl) (by kernel_rfl) (by kernel_rfl) (fun _ _ _ h => h) (Or.inl ⟨by rfl, ?_⟩) (by assumption) ?_
      rotate_left
      · (intro w hSw; go_simp; first | done | (with_reducible rfl))
      simp only [Act.put, List.getElem_toArray, List.getElem_cons_succ, List.getElem_cons_zero, List.setIfInBounds_toArray, List.set_cons_zero, List.set_cons_succ]
      refine wpAnyH_ready (rs := [7]) (by kernel_rfl) (by simp) ?_
      refine AllReadyH.cons rfl (fun K hK => ?_) AllReadyH.nil
      go_simp
      refine (HR2.out _).mono ?_
      rintro e' w4 ⟨rfl, gn⟩
      have HS2 : Keep (Has w4 w.heap.size d.cells 67 ∧ w.grownBy w4 none) := ⟨HS1.out.1.kept gn (by simp), HS1.out.2.trans gn⟩
      clear gn
      refine hK.out _ _ HS2.out (fun hHeld => ?_)
      clear hK K
      refine wpAnyH_take (i := 8) (oi := _) (v := ?_) rfl (by kernel_rfl) (by kernel_rfl) (by kernel_rfl) (fun _ _ _ h => h) (Or.inl ⟨by rfl, ?_⟩) (by assumption) ?_
      rotate_left
      · (intro w hSw; go_simp; first | done | (with_reducible rfl))
      simp only [Act.put, List.getElem_toArray, List.getElem_cons_succ, List.getElem_cons_zero, List.setIfInBounds_toArray, List.set_cons_zero, List.set_cons_succ]
      refine wpAnyH_take (i := 9) (oi := _) (v := ?_) rfl (by kernel_rfl) (by kernel_rfl) (by kernel_rfl) (fun _ _ _ h => h) (Or.inl ⟨by rfl, ?_⟩) (by assumption) ?_
      rotate_left
      · (intro w hSw; go_simp; first | done | (with_reducible rfl))
      simp only [Act.put, List.getElem_toArray, List.getElem_cons_succ, List.getElem_cons_zero, List.setIfInBounds_toArray, List.set_cons_zero, List.set_cons_succ]
      refine wpAnyH_done (by kernel_rfl) ?_ _
      have k5 : w4.cell? ⟨w.heap.size, 0, none⟩ = some (.int .i64 6) := by rw [← HKK.out]; exact HS2.out.1.cellv 0 _ rfl
      have t5 : w4.cell? ⟨w.heap.size, 14, none⟩ = some (.string d.tag) := HS2.out.1.cellv 14 _ rfl
      have t6 : w4.cell? ⟨w.heap.size, 13, none⟩ = some (.string d.data) := HS2.out.1.cellv 13 _ rfl
      go_wp2_with fail
      go_ret2
      rw [HEX.out]
      first
        | exact ⟨rfl, HS2.out.2⟩
        | (rw [HA.out]; exact ⟨rfl, HS2.out.2⟩)
  · have he : enc d = ([], 73) := by
      rw [enc_is d hf, if_neg h0, if_neg (fun q => hc (by rw [hk] at q; exact q .tag (by simp [fieldsL])))]
    have HFI : Keep (∀ W, Calls Tryz.prog 63 #[.agg d.cells.toArray] W fun e w' => e = .returned (.bool false) ∧ W.grownBy w' none) := ⟨fun W => by have := hFI W; rw [decide_eq_false hc] at this; exact this⟩
    rw [he]
    have HKK := Keep.mk hk
    clear hFI he h0 hc hk hf hs
    unfold dv
    go_enter Tryz.func37, Tryz.ntmps37
    go_wp2_with (refine wpList_load_mid rfl 67 _ rfl _ _ rfl d.cells _ (HC.out.1).range hdu hdr info26 ?_)
    refine (HFI.out _).mono ?_
    rintro e' w1 ⟨rfl, gn⟩
    have HG : Keep (w.grownBy w1 none) := ⟨HC.out.2.trans gn⟩
    clear gn
    go_wp2_with fail
    go_ret2
    exact ⟨rfl, HG.out⟩
end Go.Proofs.YtkdjcknikhgfkabGreatDoor.Pk
