import Derived.Test.YtldnpebnpbahjaaGreatDoorSnA
import Derived.Laws.MakeOwn
/- the parts of a view: how they are taken -/
namespace Go.Proofs.YtldnpebnpbahjaaGreatDoor.Pk.Sn
open Go Go.RowKit

theorem fr_frozen {S : Nat → Prop} {w w' : World} {b o : Nat} {v : Value} (f : Fr S w w') (hs : ¬ S b) (h : w.cell? ⟨b, o, none⟩ = some v) (hz : w.frozen? ⟨b, o, none⟩ = false) : w'.frozen? ⟨b, o, none⟩ = false := by
  have hb : b < w.heap.size := by
    refine Nat.lt_of_not_le (fun q => ?_)
    unfold World.cell? at h
    rw [Array.getElem?_eq_none q] at h
    cases h
  unfold World.frozen? at hz ⊢
  rw [f.block b hb hs]; exact hz
theorem set_cell_ne {w : World} {b o c k : Nat} {v z : Value} (hn : b ≠ c) (h : w.cell? ⟨b, o, none⟩ = some v) : (w.setCell ⟨c, k, none⟩ z).cell? ⟨b, o, none⟩ = some v :=
  fr_cell (S := fun i => i = c) (Fr.ofSome (gr_set w c k z) rfl) hn h
/-- what is written of a part that was taken -/
def Mk.t (m : Mk) (W w1 : World) (x : Lv) (v : Value) : Prop :=
  match m with
  | .C => ∃ (n g : Nat) (cs : List Value), x = .num (n : Nat) ∧ v = .slice (some ⟨g, 0, none⟩) n n ∧ W.heap.size ≤ g ∧ Has w1 g cs 98 ∧ cs.length = n * 5
  | m => m.r x v
/-- what the take of a part does -/
def TakeC (w : World) (lo hi : Nat) (m : Mk) (b o n : Nat) (c : Array Value) : Prop :=
  Ent n ∧ ∀ (W : World) (rb B : Nat) (st : RS) (z : Value), Kpt lo hi w W → (rb < lo ∨ hi ≤ rb) → (b < lo ∨ hi ≤ b) → b ≠ rb → W.cell? ⟨b, o, none⟩ = some z → W.frozen? ⟨b, o, none⟩ = false → RAt W rb B st →
    Calls Tryz.prog n (#[pa rb 0] ++ c) W fun e w' => e = .returned (.tuple #[]) ∧ ∃ w1 v, RDid W w1 rb B (takeK m.kd st).2 ∧ m.t W w1 (takeK m.kd st).1 v ∧ w' = w1.setCell ⟨b, o, none⟩ v
theorem TakeC.kept {w w' : World} {lo hi lo' hi' : Nat} {m : Mk} {b o n : Nat} {c : Array Value} (h : TakeC w lo hi m b o n c) (k : Kpt lo hi w w') (h1 : lo' ≤ lo) (h2 : hi ≤ hi') : TakeC w' lo' hi' m b o n c :=
  ⟨h.1, fun W rb B st z hk q1 q2 => h.2 W rb B st z (k.trans (hk.mono h1 h2)) (by omega) (by omega)⟩
set_option maxHeartbeats 8000000 in
set_option maxRecDepth 100000 in
theorem rText_c (rb B : Nat) (st : RS) (w : World) (h : RAt w rb B st) :
    Calls Tryz.prog 220 #[.pointer (some ⟨rb, 0, none⟩)] w fun e w' => e = .returned (.string ⟨(rText st).1.toArray⟩) ∧ RDid w w' rb B (rText st).2 := by
  have HH : Keep (RAt w rb B st) := ⟨h⟩
  clear h
  go_enter Tryz.func220, Tryz.ntmps220
  go_wp2_with fail
  refine (rNumber_c rb B st 1 w HH.out).mono ?_
  rintro e w1 ⟨rfl, d1⟩
  obtain ⟨k, hk⟩ : ∃ k, (rNum st 1).1 = k := ⟨_, rfl⟩
  obtain ⟨st1, hst1⟩ : ∃ q, (rNum st 1).2 = q := ⟨_, rfl⟩
  have hkl : k < 256 := by rw [← hk]; exact rNum_lt1 st
  have HT : Keep (rText st = rTake st1 k) := ⟨by unfold rText; rw [hk, hst1]⟩
  rw [hst1] at d1
  rw [hk]
  have HD : Keep (RDid w w1 rb B st1) := ⟨d1⟩
  have HW : Keep (IntKind.i64.wrap (k : Int) = (k : Int)) := ⟨wi _ (by omega) (by omega)⟩
  clear d1 HH hk hst1
  go_wp2_with fail
  try rw [HW.out]
  refine (rBytes_c rb B st1 k w1 HD.out.a).mono ?_
  rintro e w2 ⟨rfl, d2⟩
  have HE : Keep (RDid w w2 rb B (rText st).2) := ⟨by rw [HT.out]; exact HD.out.trans d2⟩
  clear d2 HD
  go_wp2
  go_ret
  exact ⟨by rw [HT.out]; rfl, HE.out⟩
set_option maxHeartbeats 8000000 in
set_option maxRecDepth 100000 in
theorem rDone_c (rb B : Nat) (st : RS) (w : World) (h : RAt w rb B st) :
    Calls Tryz.prog 95 #[.pointer (some ⟨rb, 0, none⟩)] w fun e w' => e = .returned (.int .i64 (rDone st)) ∧ w' = w := by
  obtain ⟨⟨a, c, h1, _⟩, _⟩ := h
  have c0 : w.cell? ⟨rb, 0, none⟩ = some (.slice a st.1.length c) := h1.cellv 0 _ rfl
  have c1 : w.cell? ⟨rb, 1, none⟩ = some (.int .i64 st.2) := h1.cellv 1 _ rfl
  clear h1
  unfold rDone
  by_cases hl : 0 < st.1.length
  · rw [if_pos hl]
    have hl2 : (0 : Int) < (st.1.length : Nat) := by omega
    go_enter Tryz.func95, Tryz.ntmps95
    go_wp2
    go_ret
    exact ⟨rfl, rfl⟩
  · rw [if_neg hl]
    have hl2 : ¬ (0 : Int) < (st.1.length : Nat) := by omega
    go_enter Tryz.func95, Tryz.ntmps95
    go_wp2
    go_ret
    exact ⟨rfl, rfl⟩
set_option maxHeartbeats 8000000 in
set_option maxRecDepth 100000 in
theorem takU (w : World) (lo hi b o bt bp bs : Nat) (h1 : Has w bt [fv 187] 248) (h2 : Has w bp [pa b o] 190) (h3 : Has w bs [iv 8] 3) (q1 : lo ≤ bt ∧ bt < hi) (q2 : lo ≤ bp ∧ bp < hi) (q3 : lo ≤ bs ∧ bs < hi) : TakeC w lo hi .U b o 235 #[pa bt 0, pa bs 0, pa bp 0] := by
  refine ⟨fun _ _ => by kernel_rfl, fun W rb B st z hk hr hb hn hz hf ha => ?_⟩
  show Calls Tryz.prog 235 #[pa rb 0, pa bt 0, pa bs 0, pa bp 0] W _
  have HS : Keep (W.drew.cell? ⟨bt, 0, none⟩ = some (fv 187) ∧ W.drew.cell? ⟨bp, 0, none⟩ = some (pa b o) ∧ W.drew.cell? ⟨bs, 0, none⟩ = some (iv 8)) := ⟨(hk.has h1 q1.1 q1.2).cellv 0 _ rfl, (hk.has h2 q2.1 q2.2).cellv 0 _ rfl, (hk.has h3 q3.1 q3.2).cellv 0 _ rfl⟩
  have HA : Keep (RAt W.drew rb B st) := ⟨ha.kept (gr_drew _ _)⟩
  have HN : Keep (¬ bt = rb ∧ ¬ bp = rb ∧ ¬ bs = rb) := ⟨by omega, by omega, by omega⟩
  have HM : Keep (bt ≠ b ∧ bp ≠ b ∧ bs ≠ b) := ⟨by omega, by omega, by omega⟩
  have HB := Keep.mk hn
  have HC : Keep (W.drew.cell? ⟨b, o, none⟩ = some z ∧ W.drew.frozen? ⟨b, o, none⟩ = false) := ⟨hz, hf⟩
  have hen := en187
  skip
  clear h1 h2 h3 q3 q1 q2 hk hz hf hr hb hn ha
  go_enter Tryz.func235, Tryz.ntmps235
  go_wp2_with fail
  refine region_Y (S := fun w' => w'.cell? ⟨bt, 0, none⟩ = some (fv 187) ∧ w'.cell? ⟨bp, 0, none⟩ = some (pa b o) ∧ w'.cell? ⟨bs, 0, none⟩ = some (iv 8)) [] (by kernel_rfl) ?_
  have hHeld := HS.out
  refine wpAnyY_take (i := 0) (oi := _) (v := ?_) rfl (by kernel_rfl) (by kernel_rfl) (by kernel_rfl) (by kernel_rfl) (by kernel_rfl) (fun _ _ _ h => h) (Or.inl ⟨by rfl, ?_⟩) (by assumption) ?_
  rotate_left
  · (intro w hSw; obtain ⟨x1, x2, x3⟩ := hSw; go_simp; first | done | (with_reducible rfl))
  simp only [Act.put, List.getElem_toArray, List.getElem_cons_zero, List.setIfInBounds_toArray, List.set_cons_zero, List.set_cons_succ]
  refine wpAnyY_take (i := 1) (oi := _) (v := ?_) rfl (by kernel_rfl) (by kernel_rfl) (by kernel_rfl) (by kernel_rfl) (by kernel_rfl) (fun _ _ _ h => h) (Or.inl ⟨by rfl, ?_⟩) (by assumption) ?_
  rotate_left
  · (intro w hSw; obtain ⟨x1, x2, x3⟩ := hSw; go_simp; first | done | (with_reducible rfl))
  simp only [Act.put, List.getElem_toArray, List.getElem_cons_succ, List.getElem_cons_zero, List.setIfInBounds_toArray, List.set_cons_zero, List.set_cons_succ]
  refine wpAnyY_pure (i := 2) (oi := _) (v := ?_) rfl (by kernel_rfl) (by kernel_rfl) (by kernel_rfl) (by kernel_rfl) (fun _ _ _ h => h) (Or.inl ⟨by rfl, ?_⟩) ?_
  rotate_left
  · (intro w hSw; go_simp; first | done | (with_reducible rfl))
  simp only [Act.put, List.getElem_toArray, List.getElem_cons_succ, List.getElem_cons_zero, List.setIfInBounds_toArray, List.set_cons_zero, List.set_cons_succ]
  refine wpAnyY_take (i := 3) (oi := _) (v := ?_) rfl (by kernel_rfl) (by kernel_rfl) (by kernel_rfl) (by kernel_rfl) (by kernel_rfl) (fun _ _ _ h => h) (Or.inl ⟨by rfl, ?_⟩) (by assumption) ?_
  rotate_left
  · (intro w hSw; obtain ⟨x1, x2, x3⟩ := hSw; go_simp; first | done | (with_reducible rfl))
  simp only [Act.put, List.getElem_toArray, List.getElem_cons_succ, List.getElem_cons_zero, List.setIfInBounds_toArray, List.set_cons_zero, List.set_cons_succ]
  refine wpAnyY_one (i := 4) (by kernel_rfl) rfl (fun K hK => ?_)
  go_simp
  refine (rNumber_c rb B st 8 _ HA.out).mono ?_
  rintro e w2 ⟨rfl, d2⟩
  refine hK.out _ _ (fun q => ⟨fr_cell d2.f HN.out.1 q.1, fr_cell d2.f HN.out.2.1 q.2.1, fr_cell d2.f HN.out.2.2 q.2.2⟩) ?_
  clear hK K
  have c2 := fr_cell d2.f HB.out HC.out.1
  have z2 := fr_frozen d2.f HB.out HC.out.1 HC.out.2
  have HD := Keep.mk ((RDid.ahead (gr_drew _ _) d2 : RDid W w2 rb B _))
  clear d2
  refine wpAnyY_pure (i := 5) (oi := _) (v := ?_) rfl (by kernel_rfl) (by kernel_rfl) (by kernel_rfl) (by kernel_rfl) (fun _ _ _ h => h) (Or.inl ⟨by rfl, ?_⟩) ?_
  rotate_left
  · (intro w hSw; go_simp; first | done | (with_reducible rfl))
  simp only [Act.put, List.getElem_toArray, List.getElem_cons_succ, List.getElem_cons_zero, List.setIfInBounds_toArray, List.set_cons_zero, List.set_cons_succ]
  refine wpAnyY_one (i := 6) (by kernel_rfl) rfl (fun K hK => ?_)
  go_simp
  refine hK.out _ _ (fun q => ⟨set_cell_ne HM.out.1 q.1, set_cell_ne HM.out.2.1 q.2.1, set_cell_ne HM.out.2.2 q.2.2⟩) ?_
  clear hK K c2 z2
  refine wpAnyY_done (by kernel_rfl) ?_ _
  go_wp2_with fail
  go_end0
  exact ⟨rfl, w2, uv ((rNum st 8).1 : Nat), HD.out, ⟨_, rfl, rfl⟩, rfl⟩
set_option maxHeartbeats 8000000 in
set_option maxRecDepth 100000 in
theorem takI (w : World) (lo hi b o bt bp bs : Nat) (h1 : Has w bt [fv 187] 248) (h2 : Has w bp [pa b o] 193) (h3 : Has w bs [iv 1] 3) (q1 : lo ≤ bt ∧ bt < hi) (q2 : lo ≤ bp ∧ bp < hi) (q3 : lo ≤ bs ∧ bs < hi) : TakeC w lo hi .I b o 237 #[pa bt 0, pa bs 0, pa bp 0] := by
  refine ⟨fun _ _ => by kernel_rfl, fun W rb B st z hk hr hb hn hz hf ha => ?_⟩
  show Calls Tryz.prog 237 #[pa rb 0, pa bt 0, pa bs 0, pa bp 0] W _
  have HS : Keep (W.drew.cell? ⟨bt, 0, none⟩ = some (fv 187) ∧ W.drew.cell? ⟨bp, 0, none⟩ = some (pa b o) ∧ W.drew.cell? ⟨bs, 0, none⟩ = some (iv 1)) := ⟨(hk.has h1 q1.1 q1.2).cellv 0 _ rfl, (hk.has h2 q2.1 q2.2).cellv 0 _ rfl, (hk.has h3 q3.1 q3.2).cellv 0 _ rfl⟩
  have HA : Keep (RAt W.drew rb B st) := ⟨ha.kept (gr_drew _ _)⟩
  have HN : Keep (¬ bt = rb ∧ ¬ bp = rb ∧ ¬ bs = rb) := ⟨by omega, by omega, by omega⟩
  have HM : Keep (bt ≠ b ∧ bp ≠ b ∧ bs ≠ b) := ⟨by omega, by omega, by omega⟩
  have HB := Keep.mk hn
  have HC : Keep (W.drew.cell? ⟨b, o, none⟩ = some z ∧ W.drew.frozen? ⟨b, o, none⟩ = false) := ⟨hz, hf⟩
  have hen := en187
  have hyw : IntKind.i64.wrap (((rNum st 1).1 : Nat) : Int) = (((rNum st 1).1 : Nat) : Int) := by have := rNum_lt1 st; exact wi _ (by omega) (by omega)
  clear h1 h2 h3 q3 q1 q2 hk hz hf hr hb hn ha
  go_enter Tryz.func237, Tryz.ntmps237
  go_wp2_with fail
  refine region_Y (S := fun w' => w'.cell? ⟨bt, 0, none⟩ = some (fv 187) ∧ w'.cell? ⟨bp, 0, none⟩ = some (pa b o) ∧ w'.cell? ⟨bs, 0, none⟩ = some (iv 1)) [] (by kernel_rfl) ?_
  have hHeld := HS.out
  refine wpAnyY_take (i := 0) (oi := _) (v := ?_) rfl (by kernel_rfl) (by kernel_rfl) (by kernel_rfl) (by kernel_rfl) (by kernel_rfl) (fun _ _ _ h => h) (Or.inl ⟨by rfl, ?_⟩) (by assumption) ?_
  rotate_left
  · (intro w hSw; obtain ⟨x1, x2, x3⟩ := hSw; go_simp; first | done | (with_reducible rfl))
  simp only [Act.put, List.getElem_toArray, List.getElem_cons_zero, List.setIfInBounds_toArray, List.set_cons_zero, List.set_cons_succ]
  refine wpAnyY_take (i := 1) (oi := _) (v := ?_) rfl (by kernel_rfl) (by kernel_rfl) (by kernel_rfl) (by kernel_rfl) (by kernel_rfl) (fun _ _ _ h => h) (Or.inl ⟨by rfl, ?_⟩) (by assumption) ?_
  rotate_left
  · (intro w hSw; obtain ⟨x1, x2, x3⟩ := hSw; go_simp; first | done | (with_reducible rfl))
  simp only [Act.put, List.getElem_toArray, List.getElem_cons_succ, List.getElem_cons_zero, List.setIfInBounds_toArray, List.set_cons_zero, List.set_cons_succ]
  refine wpAnyY_pure (i := 2) (oi := _) (v := ?_) rfl (by kernel_rfl) (by kernel_rfl) (by kernel_rfl) (by kernel_rfl) (fun _ _ _ h => h) (Or.inl ⟨by rfl, ?_⟩) ?_
  rotate_left
  · (intro w hSw; go_simp; first | done | (with_reducible rfl))
  simp only [Act.put, List.getElem_toArray, List.getElem_cons_succ, List.getElem_cons_zero, List.setIfInBounds_toArray, List.set_cons_zero, List.set_cons_succ]
  refine wpAnyY_take (i := 3) (oi := _) (v := ?_) rfl (by kernel_rfl) (by kernel_rfl) (by kernel_rfl) (by kernel_rfl) (by kernel_rfl) (fun _ _ _ h => h) (Or.inl ⟨by rfl, ?_⟩) (by assumption) ?_
  rotate_left
  · (intro w hSw; obtain ⟨x1, x2, x3⟩ := hSw; go_simp; first | done | (with_reducible rfl))
  simp only [Act.put, List.getElem_toArray, List.getElem_cons_succ, List.getElem_cons_zero, List.setIfInBounds_toArray, List.set_cons_zero, List.set_cons_succ]
  refine wpAnyY_one (i := 4) (by kernel_rfl) rfl (fun K hK => ?_)
  go_simp
  refine (rNumber_c rb B st 1 _ HA.out).mono ?_
  rintro e w2 ⟨rfl, d2⟩
  refine hK.out _ _ (fun q => ⟨fr_cell d2.f HN.out.1 q.1, fr_cell d2.f HN.out.2.1 q.2.1, fr_cell d2.f HN.out.2.2 q.2.2⟩) ?_
  clear hK K
  have c2 := fr_cell d2.f HB.out HC.out.1
  have z2 := fr_frozen d2.f HB.out HC.out.1 HC.out.2
  have HD := Keep.mk ((RDid.ahead (gr_drew _ _) d2 : RDid W w2 rb B _))
  clear d2
  refine wpAnyY_pure (i := 5) (oi := _) (v := ?_) rfl (by kernel_rfl) (by kernel_rfl) (by kernel_rfl) (by kernel_rfl) (fun _ _ _ h => h) (Or.inl ⟨by rfl, ?_⟩) ?_
  rotate_left
  · (intro w hSw; go_simp; first | done | (with_reducible rfl))
  simp only [Act.put, List.getElem_toArray, List.getElem_cons_succ, List.getElem_cons_zero, List.setIfInBounds_toArray, List.set_cons_zero, List.set_cons_succ]
  refine wpAnyY_pure (i := 6) (oi := _) (v := ?_) rfl (by kernel_rfl) (by kernel_rfl) (by kernel_rfl) (by kernel_rfl) (fun _ _ _ h => h) (Or.inl ⟨by rfl, ?_⟩) ?_
  rotate_left
  · (intro w hSw; go_simp; first | done | (with_reducible rfl))
  simp only [Act.put, List.getElem_toArray, List.getElem_cons_succ, List.getElem_cons_zero, List.setIfInBounds_toArray, List.set_cons_zero, List.set_cons_succ]
  refine wpAnyY_one (i := 7) (by kernel_rfl) rfl (fun K hK => ?_)
  go_simp
  refine hK.out _ _ (fun q => ⟨set_cell_ne HM.out.1 q.1, set_cell_ne HM.out.2.1 q.2.1, set_cell_ne HM.out.2.2 q.2.2⟩) ?_
  clear hK K c2 z2
  refine wpAnyY_done (by kernel_rfl) ?_ _
  go_wp2_with fail
  go_end0
  exact ⟨rfl, w2, iv ((rNum st 1).1 : Nat), HD.out, ⟨_, rfl, rfl⟩, rfl⟩
set_option maxHeartbeats 8000000 in
set_option maxRecDepth 100000 in
theorem takL (w : World) (lo hi b o bt bp bs : Nat) (h1 : Has w bt [fv 216] 254) (h2 : Has w bp [pa b o] 233) (h3 : Has w bs [iv 8] 3) (q1 : lo ≤ bt ∧ bt < hi) (q2 : lo ≤ bp ∧ bp < hi) (q3 : lo ≤ bs ∧ bs < hi) : TakeC w lo hi .S b o 239 #[pa bt 0, pa bs 0, pa bp 0] := by
  refine ⟨fun _ _ => by kernel_rfl, fun W rb B st z hk hr hb hn hz hf ha => ?_⟩
  show Calls Tryz.prog 239 #[pa rb 0, pa bt 0, pa bs 0, pa bp 0] W _
  have HS : Keep (W.drew.cell? ⟨bt, 0, none⟩ = some (fv 216) ∧ W.drew.cell? ⟨bp, 0, none⟩ = some (pa b o) ∧ W.drew.cell? ⟨bs, 0, none⟩ = some (iv 8)) := ⟨(hk.has h1 q1.1 q1.2).cellv 0 _ rfl, (hk.has h2 q2.1 q2.2).cellv 0 _ rfl, (hk.has h3 q3.1 q3.2).cellv 0 _ rfl⟩
  have HA : Keep (RAt W.drew rb B st) := ⟨ha.kept (gr_drew _ _)⟩
  have HN : Keep (¬ bt = rb ∧ ¬ bp = rb ∧ ¬ bs = rb) := ⟨by omega, by omega, by omega⟩
  have HM : Keep (bt ≠ b ∧ bp ≠ b ∧ bs ≠ b) := ⟨by omega, by omega, by omega⟩
  have HB := Keep.mk hn
  have HC : Keep (W.drew.cell? ⟨b, o, none⟩ = some z ∧ W.drew.frozen? ⟨b, o, none⟩ = false) := ⟨hz, hf⟩
  have hen := en216
  skip
  clear h1 h2 h3 q3 q1 q2 hk hz hf hr hb hn ha
  go_enter Tryz.func239, Tryz.ntmps239
  go_wp2_with fail
  refine region_Y (S := fun w' => w'.cell? ⟨bt, 0, none⟩ = some (fv 216) ∧ w'.cell? ⟨bp, 0, none⟩ = some (pa b o) ∧ w'.cell? ⟨bs, 0, none⟩ = some (iv 8)) [] (by kernel_rfl) ?_
  have hHeld := HS.out
  refine wpAnyY_take (i := 0) (oi := _) (v := ?_) rfl (by kernel_rfl) (by kernel_rfl) (by kernel_rfl) (by kernel_rfl) (by kernel_rfl) (fun _ _ _ h => h) (Or.inl ⟨by rfl, ?_⟩) (by assumption) ?_
  rotate_left
  · (intro w hSw; obtain ⟨x1, x2, x3⟩ := hSw; go_simp; first | done | (with_reducible rfl))
  simp only [Act.put, List.getElem_toArray, List.getElem_cons_zero, List.setIfInBounds_toArray, List.set_cons_zero, List.set_cons_succ]
  refine wpAnyY_take (i := 1) (oi := _) (v := ?_) rfl (by kernel_rfl) (by kernel_rfl) (by kernel_rfl) (by kernel_rfl) (by kernel_rfl) (fun _ _ _ h => h) (Or.inl ⟨by rfl, ?_⟩) (by assumption) ?_
  rotate_left
  · (intro w hSw; obtain ⟨x1, x2, x3⟩ := hSw; go_simp; first | done | (with_reducible rfl))
  simp only [Act.put, List.getElem_toArray, List.getElem_cons_succ, List.getElem_cons_zero, List.setIfInBounds_toArray, List.set_cons_zero, List.set_cons_succ]
  refine wpAnyY_pure (i := 2) (oi := _) (v := ?_) rfl (by kernel_rfl) (by kernel_rfl) (by kernel_rfl) (by kernel_rfl) (fun _ _ _ h => h) (Or.inl ⟨by rfl, ?_⟩) ?_
  rotate_left
  · (intro w hSw; go_simp; first | done | (with_reducible rfl))
  simp only [Act.put, List.getElem_toArray, List.getElem_cons_succ, List.getElem_cons_zero, List.setIfInBounds_toArray, List.set_cons_zero, List.set_cons_succ]
  refine wpAnyY_take (i := 3) (oi := _) (v := ?_) rfl (by kernel_rfl) (by kernel_rfl) (by kernel_rfl) (by kernel_rfl) (by kernel_rfl) (fun _ _ _ h => h) (Or.inl ⟨by rfl, ?_⟩) (by assumption) ?_
  rotate_left
  · (intro w hSw; obtain ⟨x1, x2, x3⟩ := hSw; go_simp; first | done | (with_reducible rfl))
  simp only [Act.put, List.getElem_toArray, List.getElem_cons_succ, List.getElem_cons_zero, List.setIfInBounds_toArray, List.set_cons_zero, List.set_cons_succ]
  refine wpAnyY_one (i := 4) (by kernel_rfl) rfl (fun K hK => ?_)
  go_simp
  refine (rSigned_c rb B st 8 _ HA.out).mono ?_
  rintro e w2 ⟨rfl, d2⟩
  refine hK.out _ _ (fun q => ⟨fr_cell d2.f HN.out.1 q.1, fr_cell d2.f HN.out.2.1 q.2.1, fr_cell d2.f HN.out.2.2 q.2.2⟩) ?_
  clear hK K
  have c2 := fr_cell d2.f HB.out HC.out.1
  have z2 := fr_frozen d2.f HB.out HC.out.1 HC.out.2
  have HD := Keep.mk ((RDid.ahead (gr_drew _ _) d2 : RDid W w2 rb B _))
  clear d2
  refine wpAnyY_pure (i := 5) (oi := _) (v := ?_) rfl (by kernel_rfl) (by kernel_rfl) (by kernel_rfl) (by kernel_rfl) (fun _ _ _ h => h) (Or.inl ⟨by rfl, ?_⟩) ?_
  rotate_left
  · (intro w hSw; go_simp; first | done | (with_reducible rfl))
  simp only [Act.put, List.getElem_toArray, List.getElem_cons_succ, List.getElem_cons_zero, List.setIfInBounds_toArray, List.set_cons_zero, List.set_cons_succ]
  refine wpAnyY_one (i := 6) (by kernel_rfl) rfl (fun K hK => ?_)
  go_simp
  refine hK.out _ _ (fun q => ⟨set_cell_ne HM.out.1 q.1, set_cell_ne HM.out.2.1 q.2.1, set_cell_ne HM.out.2.2 q.2.2⟩) ?_
  clear hK K c2 z2
  refine wpAnyY_done (by kernel_rfl) ?_ _
  go_wp2_with fail
  go_end0
  exact ⟨rfl, w2, iv (rSig st 8).1, HD.out, ⟨_, rfl, rfl⟩, rfl⟩
set_option maxHeartbeats 8000000 in
set_option maxRecDepth 100000 in
theorem takN (w : World) (lo hi b o bt bp bs : Nat) (h1 : Has w bt [fv 216] 254) (h2 : Has w bp [pa b o] 193) (h3 : Has w bs [iv 8] 3) (q1 : lo ≤ bt ∧ bt < hi) (q2 : lo ≤ bp ∧ bp < hi) (q3 : lo ≤ bs ∧ bs < hi) : TakeC w lo hi .S b o 241 #[pa bt 0, pa bs 0, pa bp 0] := by
  refine ⟨fun _ _ => by kernel_rfl, fun W rb B st z hk hr hb hn hz hf ha => ?_⟩
  show Calls Tryz.prog 241 #[pa rb 0, pa bt 0, pa bs 0, pa bp 0] W _
  have HS : Keep (W.drew.cell? ⟨bt, 0, none⟩ = some (fv 216) ∧ W.drew.cell? ⟨bp, 0, none⟩ = some (pa b o) ∧ W.drew.cell? ⟨bs, 0, none⟩ = some (iv 8)) := ⟨(hk.has h1 q1.1 q1.2).cellv 0 _ rfl, (hk.has h2 q2.1 q2.2).cellv 0 _ rfl, (hk.has h3 q3.1 q3.2).cellv 0 _ rfl⟩
  have HA : Keep (RAt W.drew rb B st) := ⟨ha.kept (gr_drew _ _)⟩
  have HN : Keep (¬ bt = rb ∧ ¬ bp = rb ∧ ¬ bs = rb) := ⟨by omega, by omega, by omega⟩
  have HM : Keep (bt ≠ b ∧ bp ≠ b ∧ bs ≠ b) := ⟨by omega, by omega, by omega⟩
  have HB := Keep.mk hn
  have HC : Keep (W.drew.cell? ⟨b, o, none⟩ = some z ∧ W.drew.frozen? ⟨b, o, none⟩ = false) := ⟨hz, hf⟩
  have hen := en216
  skip
  clear h1 h2 h3 q3 q1 q2 hk hz hf hr hb hn ha
  go_enter Tryz.func241, Tryz.ntmps241
  go_wp2_with fail
  refine region_Y (S := fun w' => w'.cell? ⟨bt, 0, none⟩ = some (fv 216) ∧ w'.cell? ⟨bp, 0, none⟩ = some (pa b o) ∧ w'.cell? ⟨bs, 0, none⟩ = some (iv 8)) [] (by kernel_rfl) ?_
  have hHeld := HS.out
  refine wpAnyY_take (i := 0) (oi := _) (v := ?_) rfl (by kernel_rfl) (by kernel_rfl) (by kernel_rfl) (by kernel_rfl) (by kernel_rfl) (fun _ _ _ h => h) (Or.inl ⟨by rfl, ?_⟩) (by assumption) ?_
  rotate_left
  · (intro w hSw; obtain ⟨x1, x2, x3⟩ := hSw; go_simp; first | done | (with_reducible rfl))
  simp only [Act.put, List.getElem_toArray, List.getElem_cons_zero, List.setIfInBounds_toArray, List.set_cons_zero, List.set_cons_succ]
  refine wpAnyY_take (i := 1) (oi := _) (v := ?_) rfl (by kernel_rfl) (by kernel_rfl) (by kernel_rfl) (by kernel_rfl) (by kernel_rfl) (fun _ _ _ h => h) (Or.inl ⟨by rfl, ?_⟩) (by assumption) ?_
  rotate_left
  · (intro w hSw; obtain ⟨x1, x2, x3⟩ := hSw; go_simp; first | done | (with_reducible rfl))
  simp only [Act.put, List.getElem_toArray, List.getElem_cons_succ, List.getElem_cons_zero, List.setIfInBounds_toArray, List.set_cons_zero, List.set_cons_succ]
  refine wpAnyY_pure (i := 2) (oi := _) (v := ?_) rfl (by kernel_rfl) (by kernel_rfl) (by kernel_rfl) (by kernel_rfl) (fun _ _ _ h => h) (Or.inl ⟨by rfl, ?_⟩) ?_
  rotate_left
  · (intro w hSw; go_simp; first | done | (with_reducible rfl))
  simp only [Act.put, List.getElem_toArray, List.getElem_cons_succ, List.getElem_cons_zero, List.setIfInBounds_toArray, List.set_cons_zero, List.set_cons_succ]
  refine wpAnyY_take (i := 3) (oi := _) (v := ?_) rfl (by kernel_rfl) (by kernel_rfl) (by kernel_rfl) (by kernel_rfl) (by kernel_rfl) (fun _ _ _ h => h) (Or.inl ⟨by rfl, ?_⟩) (by assumption) ?_
  rotate_left
  · (intro w hSw; obtain ⟨x1, x2, x3⟩ := hSw; go_simp; first | done | (with_reducible rfl))
  simp only [Act.put, List.getElem_toArray, List.getElem_cons_succ, List.getElem_cons_zero, List.setIfInBounds_toArray, List.set_cons_zero, List.set_cons_succ]
  refine wpAnyY_one (i := 4) (by kernel_rfl) rfl (fun K hK => ?_)
  go_simp
  refine (rSigned_c rb B st 8 _ HA.out).mono ?_
  rintro e w2 ⟨rfl, d2⟩
  refine hK.out _ _ (fun q => ⟨fr_cell d2.f HN.out.1 q.1, fr_cell d2.f HN.out.2.1 q.2.1, fr_cell d2.f HN.out.2.2 q.2.2⟩) ?_
  clear hK K
  have c2 := fr_cell d2.f HB.out HC.out.1
  have z2 := fr_frozen d2.f HB.out HC.out.1 HC.out.2
  have HD := Keep.mk ((RDid.ahead (gr_drew _ _) d2 : RDid W w2 rb B _))
  clear d2
  refine wpAnyY_pure (i := 5) (oi := _) (v := ?_) rfl (by kernel_rfl) (by kernel_rfl) (by kernel_rfl) (by kernel_rfl) (fun _ _ _ h => h) (Or.inl ⟨by rfl, ?_⟩) ?_
  rotate_left
  · (intro w hSw; go_simp; first | done | (with_reducible rfl))
  simp only [Act.put, List.getElem_toArray, List.getElem_cons_succ, List.getElem_cons_zero, List.setIfInBounds_toArray, List.set_cons_zero, List.set_cons_succ]
  refine wpAnyY_one (i := 6) (by kernel_rfl) rfl (fun K hK => ?_)
  go_simp
  refine hK.out _ _ (fun q => ⟨set_cell_ne HM.out.1 q.1, set_cell_ne HM.out.2.1 q.2.1, set_cell_ne HM.out.2.2 q.2.2⟩) ?_
  clear hK K c2 z2
  refine wpAnyY_done (by kernel_rfl) ?_ _
  go_wp2_with fail
  go_end0
  exact ⟨rfl, w2, iv (rSig st 8).1, HD.out, ⟨_, rfl, rfl⟩, rfl⟩
set_option maxHeartbeats 8000000 in
set_option maxRecDepth 100000 in
theorem takT (w : World) (lo hi b o bt bp : Nat) (h1 : Has w bt [fv 220] 251) (h2 : Has w bp [pa b o] 185) (q1 : lo ≤ bt ∧ bt < hi) (q2 : lo ≤ bp ∧ bp < hi) : TakeC w lo hi .T b o 222 #[pa bt 0, pa bp 0] := by
  refine ⟨fun _ _ => by kernel_rfl, fun W rb B st z hk hr hb hn hz hf ha => ?_⟩
  show Calls Tryz.prog 222 #[pa rb 0, pa bt 0, pa bp 0] W _
  have HS : Keep (W.drew.cell? ⟨bt, 0, none⟩ = some (fv 220) ∧ W.drew.cell? ⟨bp, 0, none⟩ = some (pa b o)) := ⟨(hk.has h1 q1.1 q1.2).cellv 0 _ rfl, (hk.has h2 q2.1 q2.2).cellv 0 _ rfl⟩
  have HA : Keep (RAt W.drew rb B st) := ⟨ha.kept (gr_drew _ _)⟩
  have HN : Keep (¬ bt = rb ∧ ¬ bp = rb) := ⟨by omega, by omega⟩
  have HM : Keep (bt ≠ b ∧ bp ≠ b) := ⟨by omega, by omega⟩
  have HB := Keep.mk hn
  have HC : Keep (W.drew.cell? ⟨b, o, none⟩ = some z ∧ W.drew.frozen? ⟨b, o, none⟩ = false) := ⟨hz, hf⟩
  have hen := en220
  skip
  clear h1 h2 q1 q2 hk hz hf hr hb hn ha
  go_enter Tryz.func222, Tryz.ntmps222
  go_wp2_with fail
  refine region_Y (S := fun w' => w'.cell? ⟨bt, 0, none⟩ = some (fv 220) ∧ w'.cell? ⟨bp, 0, none⟩ = some (pa b o)) [] (by kernel_rfl) ?_
  have hHeld := HS.out
  refine wpAnyY_take (i := 0) (oi := _) (v := ?_) rfl (by kernel_rfl) (by kernel_rfl) (by kernel_rfl) (by kernel_rfl) (by kernel_rfl) (fun _ _ _ h => h) (Or.inl ⟨by rfl, ?_⟩) (by assumption) ?_
  rotate_left
  · (intro w hSw; obtain ⟨x1, x2⟩ := hSw; go_simp; first | done | (with_reducible rfl))
  simp only [Act.put, List.getElem_toArray, List.getElem_cons_zero, List.setIfInBounds_toArray, List.set_cons_zero, List.set_cons_succ]
  refine wpAnyY_take (i := 1) (oi := _) (v := ?_) rfl (by kernel_rfl) (by kernel_rfl) (by kernel_rfl) (by kernel_rfl) (by kernel_rfl) (fun _ _ _ h => h) (Or.inl ⟨by rfl, ?_⟩) (by assumption) ?_
  rotate_left
  · (intro w hSw; obtain ⟨x1, x2⟩ := hSw; go_simp; first | done | (with_reducible rfl))
  simp only [Act.put, List.getElem_toArray, List.getElem_cons_succ, List.getElem_cons_zero, List.setIfInBounds_toArray, List.set_cons_zero, List.set_cons_succ]
  refine wpAnyY_pure (i := 2) (oi := _) (v := ?_) rfl (by kernel_rfl) (by kernel_rfl) (by kernel_rfl) (by kernel_rfl) (fun _ _ _ h => h) (Or.inl ⟨by rfl, ?_⟩) ?_
  rotate_left
  · (intro w hSw; go_simp; first | done | (with_reducible rfl))
  simp only [Act.put, List.getElem_toArray, List.getElem_cons_succ, List.getElem_cons_zero, List.setIfInBounds_toArray, List.set_cons_zero, List.set_cons_succ]
  refine wpAnyY_one (i := 3) (by kernel_rfl) rfl (fun K hK => ?_)
  go_simp
  refine (rText_c rb B st _ HA.out).mono ?_
  rintro e w2 ⟨rfl, d2⟩
  refine hK.out _ _ (fun q => ⟨fr_cell d2.f HN.out.1 q.1, fr_cell d2.f HN.out.2 q.2⟩) ?_
  clear hK K
  have c2 := fr_cell d2.f HB.out HC.out.1
  have z2 := fr_frozen d2.f HB.out HC.out.1 HC.out.2
  have HD := Keep.mk ((RDid.ahead (gr_drew _ _) d2 : RDid W w2 rb B _))
  clear d2
  refine wpAnyY_pure (i := 4) (oi := _) (v := ?_) rfl (by kernel_rfl) (by kernel_rfl) (by kernel_rfl) (by kernel_rfl) (fun _ _ _ h => h) (Or.inl ⟨by rfl, ?_⟩) ?_
  rotate_left
  · (intro w hSw; go_simp; first | done | (with_reducible rfl))
  simp only [Act.put, List.getElem_toArray, List.getElem_cons_succ, List.getElem_cons_zero, List.setIfInBounds_toArray, List.set_cons_zero, List.set_cons_succ]
  refine wpAnyY_one (i := 5) (by kernel_rfl) rfl (fun K hK => ?_)
  go_simp
  refine hK.out _ _ (fun q => ⟨set_cell_ne HM.out.1 q.1, set_cell_ne HM.out.2 q.2⟩) ?_
  clear hK K c2 z2
  refine wpAnyY_done (by kernel_rfl) ?_ _
  go_wp2_with fail
  go_end0
  exact ⟨rfl, w2, .string ⟨(rText st).1.toArray⟩, HD.out, ⟨⟨(rText st).1.toArray⟩, by rw [sl_mk]; rfl, rfl⟩, rfl⟩
set_option maxRecDepth 100000 in
theorem underSl : Tryz.prog.underlying 47 = some (.slice 98) := by kernel_rfl
set_option maxRecDepth 100000 in
theorem infoSn : ∃ i z, Tryz.prog.info? 98 = some i ∧ i.size = 5 ∧ i.bytes = 40 ∧ i.zero = some z := ⟨_, _, rfl, by kernel_rfl, by kernel_rfl, rfl⟩
theorem made_c (w : World) (k : Nat) (hk : k ≤ 255) : ∃ w' cs, (Instr.makeSlice 47 (.int .u64 (k : Int)) (.int .u64 (k : Int))).run Tryz.prog w = .ok (.slice (some ⟨w.heap.size, 0, none⟩) k k) w' ∧ Has w' w.heap.size cs 98 ∧ cs.length = k * 5 ∧ w.grownBy w' none ∧ w.heap.size ≤ w.heap.size := by
  obtain ⟨i, z, hi, h5, h40, hz⟩ := infoSn
  have hr := run_make (P := Tryz.prog) w 47 98 i z underSl hi hz .u64 .u64 k k (by omega) (by omega) (by rw [h40]; omega) (by omega)
  rw [Int.toNat_natCast, h5] at hr
  refine ⟨_, (madeCells z.cells (k * 5)).toList, hr, ?_, ?_, World.grownBy_alloc _ _ _, Nat.le_refl _⟩
  · exact Has.newA w _ 98
  · simp [madeCells]
set_option maxHeartbeats 8000000 in
set_option maxRecDepth 100000 in
theorem takC (w : World) (lo hi b o bp : Nat) (h2 : Has w bp [pa b o] 236) (q2 : lo ≤ bp ∧ bp < hi) : TakeC w lo hi .C b o 226 #[pa bp 0] := by
  refine ⟨fun _ _ => by kernel_rfl, fun W rb B st z hk hr hb hn hz hf ha => ?_⟩
  show Calls Tryz.prog 226 #[pa rb 0, pa bp 0] W _
  have HS : Keep (W.drew.cell? ⟨bp, 0, none⟩ = some (pa b o)) := ⟨(hk.has h2 q2.1 q2.2).cellv 0 _ rfl⟩
  have HA : Keep (RAt W.drew rb B st) := ⟨ha.kept (gr_drew _ _)⟩
  have HN : Keep (¬ bp = rb) := ⟨by omega⟩
  have HM : Keep (bp ≠ b) := ⟨by omega⟩
  have HB := Keep.mk hn
  have HC : Keep (W.drew.cell? ⟨b, o, none⟩ = some z ∧ W.drew.frozen? ⟨b, o, none⟩ = false) := ⟨hz, hf⟩
  clear h2 q2 hk hz hf hr hb hn ha
  go_enter Tryz.func226, Tryz.ntmps226
  go_wp2_with fail
  refine region_Y (S := fun w' => w'.cell? ⟨bp, 0, none⟩ = some (pa b o)) [] (by kernel_rfl) ?_
  have hHeld := HS.out
  refine wpAnyY_take (i := 0) (oi := _) (v := ?_) rfl (by kernel_rfl) (by kernel_rfl) (by kernel_rfl) (by kernel_rfl) (by kernel_rfl) (fun _ _ _ h => h) (Or.inl ⟨by rfl, ?_⟩) (by assumption) ?_
  rotate_left
  · (intro w hSw; have x1 := hSw; go_simp; first | done | (with_reducible rfl))
  simp only [Act.put, List.getElem_toArray, List.getElem_cons_zero, List.setIfInBounds_toArray, List.set_cons_zero, List.set_cons_succ]
  refine wpAnyY_pure (i := 1) (oi := _) (v := ?_) rfl (by kernel_rfl) (by kernel_rfl) (by kernel_rfl) (by kernel_rfl) (fun _ _ _ h => h) (Or.inl ⟨by rfl, ?_⟩) ?_
  rotate_left
  · (intro w hSw; go_simp; first | done | (with_reducible rfl))
  simp only [Act.put, List.getElem_toArray, List.getElem_cons_succ, List.getElem_cons_zero, List.setIfInBounds_toArray, List.set_cons_zero, List.set_cons_succ]
  refine wpAnyY_one (i := 2) (by kernel_rfl) rfl (fun K hK => ?_)
  go_simp
  refine (rNumber_c rb B st 1 _ HA.out).mono ?_
  rintro e w2 ⟨rfl, d2⟩
  refine hK.out _ _ (fun q => fr_cell d2.f HN.out q) ?_
  clear hK K
  have c2 := fr_cell d2.f HB.out HC.out.1
  have z2 := fr_frozen d2.f HB.out HC.out.1 HC.out.2
  have HD := Keep.mk ((RDid.ahead (gr_drew _ _) d2 : RDid W w2 rb B _))
  clear d2
  obtain ⟨k, hk⟩ : ∃ k, (rNum st 1).1 = k := ⟨_, rfl⟩
  rw [hk]
  have HK := Keep.mk hk
  clear hk
  have hk256 : k < 256 := by rw [← HK.out]; exact rNum_lt1 st
  obtain ⟨w3, cs, hmk, h3, hl3, g3, n3⟩ := made_c w2 k (by omega)
  refine wpAnyY_one (i := 3) (by kernel_rfl) rfl (fun K hK => ?_)
  have HMk := Keep.mk hmk
  go_simp
  refine hK.out _ _ (fun q => g3.cell q (by simp)) ?_
  clear hK K
  have c3 := g3.cell c2 (by simp)
  have z3 := fr_frozen (S := fun _ => False) (Fr.ofNone g3) (fun e => e) c2 z2
  have HE := Keep.mk (HD.out.grown g3)
  have HG := Keep.mk (And.intro n3 (And.intro h3 hl3))
  have HGr := Keep.mk (Nat.le_trans HD.out.f.size (Nat.le_refl _))
  clear hmk HMk g3 h3 hl3 c2 z2
  refine wpAnyY_pure (i := 4) (oi := _) (v := ?_) rfl (by kernel_rfl) (by kernel_rfl) (by kernel_rfl) (by kernel_rfl) (fun _ _ _ h => h) (Or.inl ⟨by rfl, ?_⟩) ?_
  rotate_left
  · (intro w hSw; go_simp; first | done | (with_reducible rfl))
  simp only [Act.put, List.getElem_toArray, List.getElem_cons_succ, List.getElem_cons_zero, List.setIfInBounds_toArray, List.set_cons_zero, List.set_cons_succ]
  refine wpAnyY_one (i := 5) (by kernel_rfl) rfl (fun K hK => ?_)
  go_simp
  refine hK.out _ _ (fun q => set_cell_ne HM.out q) ?_
  clear hK K c3 z3
  refine wpAnyY_done (by kernel_rfl) ?_ _
  go_wp2_with fail
  go_end0
  refine ⟨rfl, w3, .slice (some ⟨w2.heap.size, 0, none⟩) k k, HE.out, ⟨k, w2.heap.size, cs, ?_, rfl, HGr.out, HG.out.2.1, HG.out.2.2⟩, rfl⟩
  show Lv.num ((rNum st 1).1 : Nat) = _
  rw [HK.out]
end Go.Proofs.YtldnpebnpbahjaaGreatDoor.Pk.Sn
