import Derived.Test.YtjbkoablleneeaaGreatDoorX14
/- book.take, takeLong -/
namespace Go.Proofs.YtjbkoablleneeaaGreatDoor.Pk
open Go Go.RowKit

set_option maxRecDepth 100000 in
set_option maxHeartbeats 4000000 in
theorem rText_c (rb B : Nat) (st : RS) (w : World) (h : RAt w rb B st) :
    Calls Tryz.prog 107 #[.pointer (some ⟨rb, 0, none⟩)] w fun e w' => e = .returned (.string ⟨(rText st).1.toArray⟩) ∧ RDid w w' rb B (rText st).2 := by
  have HH : Keep (RAt w rb B st) := ⟨h⟩
  clear h
  go_enter Tryz.func107, Tryz.ntmps107
  go_wp2_with fail
  refine (rNumber_c rb B st 1 w HH.out).mono ?_
  rintro e w1 ⟨rfl, d1⟩
  obtain ⟨k, hk⟩ : ∃ k, (rNum st 1).1 = k := ⟨_, rfl⟩
  obtain ⟨st1, hst1⟩ : ∃ q, (rNum st 1).2 = q := ⟨_, rfl⟩
  have hkl : k < 256 := by rw [← hk]; exact rNum_lt1 st
  have HT : Keep (rText st = rTake st1 k) := ⟨by unfold rText; rw [hk, hst1]⟩
  rw [hst1] at d1
  rw [hk]
  have HD : Keep (RDid w w1 rb B st1) := ⟨d1⟩
  have HW : Keep (IntKind.i64.wrap (k : Int) = (k : Int)) := ⟨wi _ (by omega) (by omega)⟩
  clear d1 HH hk hst1
  go_wp2_with fail
  try rw [HW.out]
  refine (rBytes_c rb B st1 k w1 HD.out.a).mono ?_
  rintro e w2 ⟨rfl, d2⟩
  have HE : Keep (RDid w w2 rb B (rText st).2) := ⟨by rw [HT.out]; exact HD.out.trans d2⟩
  clear d2 HD
  go_wp2
  go_ret
  exact ⟨by rw [HT.out]; rfl, HE.out⟩
set_option maxRecDepth 100000 in
set_option maxHeartbeats 4000000 in
theorem rDone_c (rb B : Nat) (st : RS) (w : World) (h : RAt w rb B st) :
    Calls Tryz.prog 67 #[.pointer (some ⟨rb, 0, none⟩)] w fun e w' => e = .returned (.int .i64 (rDone st)) ∧ w' = w := by
  obtain ⟨⟨a, c, h1, _⟩, _⟩ := h
  have c0 : w.cell? ⟨rb, 0, none⟩ = some (.slice a st.1.length c) := h1.cellv 0 _ rfl
  have c1 : w.cell? ⟨rb, 1, none⟩ = some (.int .i64 st.2) := h1.cellv 1 _ rfl
  clear h1
  unfold rDone
  by_cases hl : 0 < st.1.length
  · rw [if_pos hl]
    have hl2 : (0 : Int) < (st.1.length : Nat) := by omega
    go_enter Tryz.func67, Tryz.ntmps67
    go_wp2
    go_ret
    exact ⟨rfl, rfl⟩
  · rw [if_neg hl]
    have hl2 : ¬ (0 : Int) < (st.1.length : Nat) := by omega
    go_enter Tryz.func67, Tryz.ntmps67
    go_wp2
    go_ret
    exact ⟨rfl, rfl⟩
theorem rNum_lt2 (st : RS) : (rNum st 2).1 < 65536 := by
  have h1 := val_lt (rNumL st 2).1
  have h2 : (rNumL st 2).1.length ≤ 2 := by
    unfold rNumL
    split
    · have := rTake_len st 2; omega
    · simp
  have h3 : 256 ^ (rNumL st 2).1.length ≤ 256 ^ 2 := Nat.pow_le_pow_right (by omega) h2
  show val (rNumL st 2).1 < 65536
  omega
set_option maxRecDepth 100000 in
set_option maxHeartbeats 4000000 in
theorem takeLong_c (rb B : Nat) (st s6 s7 : RS) (g : Nat) (f : List UInt8) (w : World) (h : RAt w rb B st) (h6 : rNum st 2 = (g, s6)) (h7 : rTake s6 (g : Nat) = (f, s7)) :
    Calls Tryz.prog 108 #[.pointer (some ⟨rb, 0, none⟩)] w fun e w' => e = .returned (.string (ba f)) ∧ RDid w w' rb B s7 := by
  have HH : Keep (RAt w rb B st) := ⟨h⟩
  have hg : g < 65536 := by have := rNum_lt2 st; rw [h6] at this; exact this
  have H67 := Keep.mk (And.intro h6 h7)
  clear h h6 h7
  go_enter Tryz.func108, Tryz.ntmps108
  go_wp2_with fail
  refine (rNumber_c rb B st 2 w HH.out).mono ?_
  rintro e w1 ⟨rfl, d1⟩
  rw [H67.out.1] at d1 ⊢
  have HD : Keep (RDid w w1 rb B s6) := ⟨d1⟩
  have HW : Keep (IntKind.i64.wrap (g : Int) = (g : Int)) := ⟨wi _ (by omega) (by omega)⟩
  clear d1 HH
  dsimp only
  go_wp2_with fail
  try rw [HW.out]
  refine (rBytes_c rb B s6 g w1 HD.out.a).mono ?_
  rintro e w2 ⟨rfl, d2⟩
  rw [H67.out.2] at d2 ⊢
  have HE : Keep (RDid w w2 rb B s7) := ⟨HD.out.trans d2⟩
  clear d2 HD
  dsimp only
  go_wp2
  go_ret
  exact ⟨rfl, HE.out⟩
/-- where take stands -/
structure Tk (w W : World) (rb B : Nat) (st : RS) (cs : List Value) : Prop where
  d : RDid w W rb B st
  r : ∃ zs, zs.length = 8 ∧ Has W w.heap.size zs 35
  x : Has W (w.heap.size + 1) cs 35
  l1 : rb < w.heap.size
  l2 : B < w.heap.size
theorem Tk.step {w W W' : World} {rb B : Nat} {st st' : RS} {cs : List Value} (h : Tk w W rb B st cs) (d : RDid W W' rb B st') : Tk w W' rb B st' cs := by
  obtain ⟨zs, hz, hr⟩ := h.r
  have l1 := h.l1
  exact ⟨h.d.trans d, ⟨zs, hz, hr.fr d.f (by omega)⟩, h.x.fr d.f (by omega), h.l1, h.l2⟩
theorem Tk.put {w W : World} {rb B : Nat} {st : RS} {cs : List Value} (h : Tk w W rb B st cs) (i : Nat) (v : Value) : Tk w (W.setCell ⟨w.heap.size + 1, i, none⟩ v) rb B st (cs.set i v) := by
  obtain ⟨zs, hz, hr⟩ := h.r
  have l1 := h.l1
  have l2 := h.l2
  have f : Fr (fun i => i = w.heap.size + 1) W (W.setCell ⟨w.heap.size + 1, i, none⟩ v) := Fr.ofSome (gr_set _ _ _ _) rfl
  exact ⟨⟨h.d.a.fr f (by omega) (by omega), h.d.f.then f (fun j hj => .inr (by omega))⟩, ⟨zs, hz, hr.fr f (by omega)⟩, h.x.setCell i v, h.l1, h.l2⟩
set_option maxRecDepth 100000 in
set_option maxHeartbeats 8000000 in
theorem take_c (rb B : Nat) (st : RS) (w : World) (h : RAt w rb B st) :
    Calls Tryz.prog 66 #[.pointer (some ⟨rb, 0, none⟩)] w fun e w' => e = .returned (.agg (en (rEnt st).1).toArray) ∧ RDid w w' rb B (rEnt st).2 := by
  obtain ⟨a, s1, b, s2, c, s3, d, s4, n, s5, g, s6, f, s7, q, s8, j, s9, k, s10, h1, h2, h3, h4, h5, h6, h7, h8, h9, h10, h11⟩ := rEnt_split st
  have ha : a < 256 := by have := rNum_lt1 st; rw [h1] at this; exact this
  have hd : d < 256 := by have := rNum_lt1 s3; rw [h4] at this; exact this
  have HQ := Keep.mk (And.intro h1 (And.intro h2 (And.intro h3 (And.intro h4 (And.intro h5 (And.intro h6 (And.intro h7 (And.intro h8 (And.intro h9 h10)))))))))
  rw [h11]
  clear h1 h2 h3 h4 h5 h6 h7 h8 h9 h10 h11
  have H0 : Keep (∀ Z : Array Value, Z.size = 8 → Tk w ((w.alloc (.cells Z 35)).alloc (.cells Z 35)) rb B st Z.toList) := ⟨fun Z hZ => by
    have g : w.grownBy ((w.alloc (.cells Z 35)).alloc (.cells Z 35)) none := (World.grownBy_alloc _ _ _).trans (World.grownBy_alloc _ _ _)
    have l1 : rb < w.heap.size := by obtain ⟨⟨a, c, h1, _⟩, _⟩ := h; exact h1.lt
    refine ⟨(RDid.refl h).grown g, ⟨Z.toList, by simpa using hZ, (Has.newA _ _ _).alloc _⟩, ?_, l1, h.lt⟩
    have := Has.newA (w.alloc (.cells Z 35)) Z 35
    rw [heap1] at this
    exact this⟩
  obtain ⟨d35, u35, r35⟩ := under35
  clear h
  go_enter Tryz.func66, Tryz.ntmps66
  go_wp2_with fail
  have H1 := Keep.mk (H0.out #[Value.int IntKind.i64 0, Value.int IntKind.u64 0, Value.int IntKind.u64 0, Value.int IntKind.i64 0, Value.string { data := #[] }, Value.string { data := #[] }, Value.int IntKind.u64 0, Value.string { data := #[] }] rfl)
  clear H0
  refine (rNumber_c rb B st 1 _ H1.out.d.a).mono ?_
  rintro e w1 ⟨rfl, d1⟩
  rw [HQ.out.1] at d1 ⊢
  dsimp only at d1 ⊢
  have J1 := Keep.mk (H1.out.step d1)
  clear d1 H1
  have hx0 := J1.out.x.cellv 0 _ rfl
  have fx0 := J1.out.x.frozen 0
  have H2 := Keep.mk (J1.out.put 0 (Value.int IntKind.i64 (a : Nat)))
  go_wp2_with fail
  clear hx0 fx0 J1
  refine (rNumber_c rb B s1 8 _ H2.out.d.a).mono ?_
  rintro e w2 ⟨rfl, d2⟩
  rw [HQ.out.2.1] at d2 ⊢
  dsimp only at d2 ⊢
  have J2 := Keep.mk (H2.out.step d2)
  clear d2 H2
  have hx1 := J2.out.x.cellv 1 _ rfl
  have fx1 := J2.out.x.frozen 1
  have H3 := Keep.mk (J2.out.put 1 (Value.int IntKind.u64 (b : Nat)))
  go_wp2_with fail
  clear hx1 fx1 J2
  refine (rNumber_c rb B s2 8 _ H3.out.d.a).mono ?_
  rintro e w3 ⟨rfl, d3⟩
  rw [HQ.out.2.2.1] at d3 ⊢
  dsimp only at d3 ⊢
  have J3 := Keep.mk (H3.out.step d3)
  clear d3 H3
  have hx2 := J3.out.x.cellv 2 _ rfl
  have fx2 := J3.out.x.frozen 2
  have H4 := Keep.mk (J3.out.put 2 (Value.int IntKind.u64 (c : Nat)))
  go_wp2_with fail
  clear hx2 fx2 J3
  refine (rNumber_c rb B s3 1 _ H4.out.d.a).mono ?_
  rintro e w4 ⟨rfl, d4⟩
  rw [HQ.out.2.2.2.1] at d4 ⊢
  dsimp only at d4 ⊢
  have J4 := Keep.mk (H4.out.step d4)
  clear d4 H4
  have hx3 := J4.out.x.cellv 3 _ rfl
  have fx3 := J4.out.x.frozen 3
  have H5 := Keep.mk (J4.out.put 3 (Value.int IntKind.i64 (d : Nat)))
  go_wp2_with fail
  clear hx3 fx3 J4
  refine (rText_c rb B s4 _ H5.out.d.a).mono ?_
  rintro e w5 ⟨rfl, d5⟩
  rw [HQ.out.2.2.2.2.1] at d5 ⊢
  dsimp only at d5 ⊢
  have J5 := Keep.mk (H5.out.step d5)
  clear d5 H5
  have hx4 := J5.out.x.cellv 4 _ rfl
  have fx4 := J5.out.x.frozen 4
  have H6 := Keep.mk (J5.out.put 4 (Value.string (ba n)))
  go_wp2_with fail
  clear hx4 fx4 J5
  refine (takeLong_c rb B s5 s6 s7 g f _ H6.out.d.a HQ.out.2.2.2.2.2.1 HQ.out.2.2.2.2.2.2.1).mono ?_
  rintro e w6 ⟨rfl, d6⟩
  have J6 := Keep.mk (H6.out.step d6)
  clear d6 H6
  have hx5 := J6.out.x.cellv 5 _ rfl
  have fx5 := J6.out.x.frozen 5
  have H7 := Keep.mk (J6.out.put 5 (Value.string (ba f)))
  go_wp2_with fail
  clear hx5 fx5 J6
  refine (rNumber_c rb B s7 8 _ H7.out.d.a).mono ?_
  rintro e w7 ⟨rfl, d7⟩
  rw [HQ.out.2.2.2.2.2.2.2.1] at d7 ⊢
  dsimp only at d7 ⊢
  have J7 := Keep.mk (H7.out.step d7)
  clear d7 H7
  have hx6 := J7.out.x.cellv 6 _ rfl
  have fx6 := J7.out.x.frozen 6
  have H8 := Keep.mk (J7.out.put 6 (Value.int IntKind.u64 (q : Nat)))
  go_wp2_with fail
  clear hx6 fx6 J7
  refine (takeLong_c rb B s8 s9 s10 j k _ H8.out.d.a HQ.out.2.2.2.2.2.2.2.2.1 HQ.out.2.2.2.2.2.2.2.2.2).mono ?_
  rintro e w8 ⟨rfl, d8⟩
  have J8 := Keep.mk (H8.out.step d8)
  clear d8 H8
  have hx7 := J8.out.x.cellv 7 _ rfl
  have fx7 := J8.out.x.frozen 7
  have H9 := Keep.mk (J8.out.put 7 (Value.string (ba k)))
  have H : Keep (Tk w (w8.setCell ⟨w.heap.size + 1, 7, none⟩ (Value.string (ba k))) rb B s10 (en ⟨(a : Nat), b, c, (d : Nat), n, f, q, k⟩)) := H9
  obtain ⟨zs, hz, hr⟩ := H.out.r
  have HZ := Keep.mk (And.intro hz hr)
  clear H9 J8 hz hr
  obtain ⟨E, hE⟩ : ∃ E : En, E = ⟨(a : Nat), b, c, (d : Nat), n, f, q, k⟩ := ⟨_, rfl⟩
  rw [← hE] at H
  have HEE := Keep.mk hE
  clear hE
  go_wp2_with (first
    | (refine wpList_load_mid rfl 35 _ rfl _ _ rfl (en E) _ H.out.x.range u35 r35 size35 ?_)
    | (refine wpList_store_mid rfl 35 _ _ rfl _ _ _ rfl rfl (HZ.out.2.there 0 _ (by rw [HZ.out.1]; exact Nat.le_refl 8)) (info35 E) (one35 E) ?_))
  have hf : Fr (fun i => i = w.heap.size) (w8.setCell ⟨w.heap.size + 1, 7, none⟩ (Value.string (ba k))) ((w8.setCell ⟨w.heap.size + 1, 7, none⟩ (Value.string (ba k))).setCells w.heap.size 0 (en E)) := Fr.ofSome (gr_sets _ _ _ _) rfl
  refine ret_cell (b := w.heap.size) (cs := en E) (t := 35) rfl rfl ?_ u35 r35 size35 rfl ⟨by rw [HEE.out], ?_, ?_⟩
  · exact HZ.out.2.setAll _ (by rw [HZ.out.1]; rfl)
  · have l1 := H.out.l1
    have l2 := H.out.l2
    exact H.out.d.a.fr hf (by omega) (by omega)
  · exact H.out.d.f.then hf (fun j hj => .inr (by omega))
end Go.Proofs.YtjbkoablleneeaaGreatDoor.Pk

