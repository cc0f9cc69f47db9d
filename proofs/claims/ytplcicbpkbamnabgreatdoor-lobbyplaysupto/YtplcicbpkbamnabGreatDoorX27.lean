import Derived.Test.YtplcicbpkbamnabGreatDoorX24
import Derived.Test.YtplcicbpkbamnabGreatDoorX22
import Derived.Test.YtplcicbpkbamnabGreatDoorX26
import Derived.Test.YtplcicbpkbamnabGreatDoorX19
import Derived.Shelf.SlSortCmp.NoneTotal
/- lobby: Refill. -/
namespace Go.Proofs.YtplcicbpkbamnabGreatDoor.Lo
open Go Go.RowKit Go.Maps

/-- a session's bucket ticks -/
def tickE (X : Lb) (s : Se) : Se := { s with y := Bu.tk X.r X.u s.y 1 }
/-- the lobby behind Refill -/
def refX (X : Lb) : Lb := { X with S := X.S.map (tickE X) }
def rfS (X : Lb) (L : List (Nat × Nat)) (s : Se) : Se := if s.num ∈ Tb.keys L then s else tickE X s
def rfP (X : Lb) (P : List (Nat × Se)) (L : List (Nat × Nat)) : List (Nat × Se) := P.map fun p => (p.1, rfS X L p.2)
def rfX (X : Lb) (P : List (Nat × Se)) (L : List (Nat × Nat)) : Lb := { X with S := (rfP X P L).map (fun p => p.2) }
set_option maxRecDepth 100000 in
theorem rfS_num (X : Lb) (L : List (Nat × Nat)) (s : Se) : (rfS X L s).num = s.num := by
  unfold rfS; split <;> rfl
set_option maxRecDepth 100000 in
theorem rf_map (X : Lb) (P : List (Nat × Se)) (L : List (Nat × Nat)) : ((rfP X P L).map fun p => (p.2.num, p.1)) = P.map fun p => (p.2.num, p.1) := by
  unfold rfP
  rw [List.map_map]
  refine List.map_congr_left fun p _ => ?_
  simp only [Function.comp, rfS_num]
set_option maxRecDepth 100000 in
theorem rf_all (X : Lb) (P : List (Nat × Se)) : rfP X P (P.map fun p => (p.2.num, p.1)) = P := by
  unfold rfP
  refine (List.map_congr_left fun p hp => ?_).trans (List.map_id P)
  unfold rfS
  rw [if_pos (List.mem_map.2 ⟨(p.2.num, p.1), List.mem_map.2 ⟨p, hp, rfl⟩, rfl⟩)]
  rfl
set_option maxRecDepth 100000 in
theorem rf_end {X : Lb} {P : List (Nat × Se)} (hP : P.map (fun p => p.2) = X.S) : rfX X P [] = refX X := by
  unfold rfX refX rfP
  rw [List.map_map, ← hP, List.map_map]
  congr 1
set_option maxRecDepth 100000 in
theorem rf_step {X : Lb} {A C : List (Nat × Se)} {b : Nat} {s : Se} {L : List (Nat × Nat)} (hnd : ((A ++ (b, s) :: C).map fun p => p.2.num).Nodup) (hk : s.num ∈ Tb.keys L) : rfP X (A ++ (b, s) :: C) L = rfP X A L ++ (b, s) :: rfP X C L ∧ rfP X (A ++ (b, s) :: C) (Tb.rm L s.num) = rfP X A L ++ (b, tickE X s) :: rfP X C L := by
  have hne : ∀ p, p ∈ A ∨ p ∈ C → p.2.num ≠ s.num := by
    rw [List.map_append, List.map_cons, List.nodup_append] at hnd
    obtain ⟨_, h2, h3⟩ := hnd
    rintro p (hp | hp)
    · exact h3 _ (List.mem_map.2 ⟨p, hp, rfl⟩) _ (List.mem_cons_self ..)
    · exact fun e => (List.nodup_cons.1 h2).1 (by rw [← e]; exact List.mem_map.2 ⟨p, hp, rfl⟩)
  have same : ∀ Q : List (Nat × Se), (∀ p ∈ Q, p.2.num ≠ s.num) → rfP X Q (Tb.rm L s.num) = rfP X Q L := fun Q hQ => by
    unfold rfP
    refine List.map_congr_left fun p hp => ?_
    unfold rfS
    by_cases q : p.2.num ∈ Tb.keys L
    · rw [if_pos q, if_pos (keys_rm_iff.2 ⟨q, hQ p hp⟩)]
    · rw [if_neg q, if_neg (fun z => q (keys_rm_iff.1 z).1)]
  constructor
  · unfold rfP
    rw [List.map_append, List.map_cons]
    have : rfS X L s = s := by unfold rfS; rw [if_pos hk]
    rw [this]
  · have e : rfP X (A ++ (b, s) :: C) (Tb.rm L s.num) = rfP X A (Tb.rm L s.num) ++ (b, rfS X (Tb.rm L s.num) s) :: rfP X C (Tb.rm L s.num) := by
      unfold rfP; rw [List.map_append, List.map_cons]
    rw [e, same A (fun p hp => hne p (.inl hp)), same C (fun p hp => hne p (.inr hp))]
    have : rfS X (Tb.rm L s.num) s = tickE X s := by unfold rfS; rw [if_neg (fun z => (keys_rm_iff.1 z).2 rfl)]
    rw [this]
/-- one session's box in a lobby that is open, and back with another session of its number -/
theorem lob_box {w0 W : World} {l : List As} {lb r mb b : Nat} {X : Lb} {v : Value} {A C : List (Nat × Se)} {s : Se} (h : Sep w0 W (iterA r :: (lobL lb X (v, mb, A ++ (b, s) :: C) ++ l))) :
    ∃ hole, Sep w0 W (boxA b (sev X.r X.u s) 109 :: hole) ∧ ∀ W' s', s'.num = s.num → Sep w0 W' (boxA b (sev X.r X.u s') 109 :: hole) → Sep w0 W' (iterA r :: (lobL lb { X with S := (A ++ (b, s') :: C).map (fun p => p.2) } (v, mb, A ++ (b, s') :: C) ++ l)) := by
  let cs : List Value := [iv (X.most : Nat), uv X.idle, iv X.r, iv X.u, iv (16 * X.u), v, uv X.next, .map (some mb)]
  let bA : List As := A.map fun p => boxA p.1 (sev X.r X.u p.2) 109
  let bC : List As := C.map fun p => boxA p.1 (sev X.r X.u p.2) 109
  have hM : ∀ s' : Se, s'.num = s.num → ((A ++ (b, s') :: C).map fun p => (p.2.num, p.1)) = (A ++ (b, s) :: C).map fun p => (p.2.num, p.1) := fun s' e => by
    rw [List.map_append, List.map_append, List.map_cons, List.map_cons, e]
  have eB : ∀ s' : Se, ((A ++ (b, s') :: C).map fun p : Nat × Se => boxA p.1 (sev X.r X.u p.2) 109) = bA ++ boxA b (sev X.r X.u s') 109 :: bC := fun s' => by
    rw [List.map_append, List.map_cons]
  have h1 : Sep w0 W (([iterA r, pureA ((A ++ (b, s) :: C).map (fun p => p.2) = X.S), boxA lb cs 70, rowV 104 33 v X.A.length (acs X.A), mapA mb ((A ++ (b, s) :: C).map fun p => (p.2.num, p.1))] ++ bA) ++ boxA b (sev X.r X.u s) 109 :: (bC ++ l)) := by
    have h2 : Sep w0 W (iterA r :: pureA ((A ++ (b, s) :: C).map (fun p => p.2) = X.S) :: boxA lb cs 70 :: rowV 104 33 v X.A.length (acs X.A) :: mapA mb ((A ++ (b, s) :: C).map fun p => (p.2.num, p.1)) :: (((A ++ (b, s) :: C).map fun p : Nat × Se => boxA p.1 (sev X.r X.u p.2) 109) ++ l)) := h
    rw [eB s, List.append_assoc] at h2
    exact h2
  have h3 := fr1 _ h1
  refine ⟨_, h3, fun W' s' hn h4 => ?_⟩
  have h5 := bk1 _ h4
  have h6 : Sep w0 W' (iterA r :: pureA ((A ++ (b, s) :: C).map (fun p => p.2) = X.S) :: boxA lb cs 70 :: rowV 104 33 v X.A.length (acs X.A) :: mapA mb ((A ++ (b, s) :: C).map fun p => (p.2.num, p.1)) :: (bA ++ boxA b (sev X.r X.u s') 109 :: (bC ++ l))) := h5
  have h7 := h6.swap.tail
  have h8 := (Sep.know (p := (A ++ (b, s') :: C).map (fun p => p.2) = (A ++ (b, s') :: C).map (fun p => p.2)) h7 rfl).swap
  show Sep w0 W' (iterA r :: pureA _ :: boxA lb cs 70 :: rowV 104 33 v X.A.length (acs X.A) :: mapA mb ((A ++ (b, s') :: C).map fun p => (p.2.num, p.1)) :: (((A ++ (b, s') :: C).map fun p : Nat × Se => boxA p.1 (sev X.r X.u p.2) 109) ++ l))
  rw [hM s' hn, eB s', List.append_assoc]
  exact h8
set_option maxRecDepth 100000 in
set_option maxHeartbeats 8000000 in
theorem refill_c (w0 W : World) (l : List As) (lb : Nat) (X : Lb) (h : Sep w0 W (lobA lb X :: l)) (ok : LbOk X) :
    Calls Tryz.prog 36 #[pt lb] W fun e W' => e = .returned (.tuple #[]) ∧ Sep w0 W' (lobA lb (refX X) :: l) := by
  obtain ⟨⟨v, mb, P⟩, h⟩ := h.opn
  have hP : P.map (fun p => p.2) = X.S := h.fact k0m
  have c7 : W.cell? ⟨lb, 7, none⟩ = some (.map (some mb)) := (h.boxGet k1m).cellv 7 _ rfl
  have hM : MapIs W mb (P.map fun p => (p.2.num, p.1)) := h.mapGet k3m
  have hkeys : Tb.keys (P.map fun p => (p.2.num, p.1)) = X.S.map Se.num := by
    rw [← hP]; simp [Tb.keys, Function.comp_def]
  have HND : Keep ((Tb.keys (P.map fun p => (p.2.num, p.1))).Nodup) := ⟨by rw [hkeys]; exact ok.nd⟩
  have HND2 : Keep ((P.map fun p => p.2.num).Nodup) := ⟨by have := ok.nd; rw [← hP, List.map_map] at this; exact this⟩
  have HP := Keep.mk hP
  have HOK := Keep.mk ok
  have HS : Keep (Sep w0 W (lobL lb (rfX X P (P.map fun p => (p.2.num, p.1))) (v, mb, rfP X P (P.map fun p => (p.2.num, p.1))) ++ l)) := ⟨by
    have e : rfX X P (P.map fun p => (p.2.num, p.1)) = X := by unfold rfX; rw [rf_all, hP]
    rw [e, rf_all]; exact h⟩
  have HM := Keep.mk hM
  obtain ⟨M, hMM⟩ : ∃ M, (P.map fun p => (p.2.num, p.1)) = M := ⟨_, rfl⟩
  have HMM := Keep.mk hMM
  rw [hMM] at HM HND HS
  obtain ⟨r, hr⟩ : ∃ r, W.heap.size = r := ⟨_, rfl⟩
  clear h hP hM hkeys hMM ok
  go_enter Tryz.func36, Tryz.ntmps36
  go_wp2_with (first | (at_range; refine wpList_range_s _ rfl (.tmp 7) rfl mb M rfl HM.out HND.out ?_))
  intro w1 hrg g1 hs1
  have S1 := HS.out.iter g1 (by rw [hr]; exact hs1)
  rw [hr] at S1
  have HS1 := Keep.mk S1
  have HRG := Keep.mk hrg
  clear hrg g1 hs1 S1 HS HM c7 hr
  first | go_frame | go_wp2_with fail
  go_loopw [3] (fun _ wr => ∃ L, Keep (Rng wr mb r M L) ∧ Keep (Sep w0 wr (iterA r :: (lobL lb (rfX X P L) (v, mb, rfP X P L) ++ l)))) (fun _ wr => wr.rangeLeft mb r)
  case atStart => exact ⟨M, HRG, HS1⟩
  case round =>
    clear HRG HS1
    obtain ⟨L, hR, hS⟩ := hrel
    go_wp2_with (first | (at_next; refine wpList_next_s _ rfl (.tmp 8) rfl mb r M L rfl hR.out ?_ ?_))
    · intro hL
      have HFS : Keep (Sep w0 wr (lobA lb (refX X) :: l)) := ⟨by
        have := hS.out.tail
        rw [hL, rf_end HP.out] at this
        exact Sep.cls (lobL lb (refX X)) _ this⟩
      clear hL hR hS
      go_wp2_with fail
      go_end0
      exact ⟨rfl, HFS.out⟩
    · intro k b w2 hkb hk hR2 hlt hg2 hs2 hen
      have S2 := hS.out.iterTurn hg2 hs2
      obtain ⟨p, hp, hpe⟩ : ∃ p ∈ P, (p.2.num, p.1) = (k, b) := by
        have := hR.out.sub _ hkb
        obtain ⟨A, C, hAC, _⟩ := Tb.look_split this
        have hm : (k, b) ∈ M := by rw [hAC]; simp
        rw [← HMM.out] at hm
        obtain ⟨p, hp, e⟩ := List.mem_map.1 hm
        exact ⟨p, hp, e⟩
      obtain ⟨pb, s⟩ := p
      simp only [Prod.mk.injEq] at hpe
      obtain ⟨hsk, rfl⟩ := hpe
      subst hsk
      have hsm : s ∈ X.S := by rw [← HP.out]; exact List.mem_map.2 ⟨_, hp, rfl⟩
      obtain ⟨A, C, hAC⟩ := List.append_of_mem hp
      have hkL : s.num ∈ Tb.keys L := List.mem_map.2 ⟨_, hkb, rfl⟩
      obtain ⟨e1, e2⟩ := rf_step (X := X) (b := pb) (by rw [← hAC]; exact HND2.out) hkL
      rw [← hAC] at e1 e2
      have hfx : (rfP X P L).map (fun p => p.2) = (rfX X P L).S := rfl
      have S3 := S2
      rw [e1] at S3
      obtain ⟨hole, S4, hback⟩ := lob_box S3
      have hkl := (HOK.out.s s hsm).2.2.2.1
      have hbk := bko HOK.out hsm rfl rfl (S4.boxGet k0m)
      have hap := hR2.apart (S4.boxGet k0m)
      have hT := Bu.tick_c pb 42 _ X.r X.u s.y w2 hbk
      have hcn : w2.heap[pb]? ≠ none := by have := (S4.boxGet k0m); unfold Has at this; rw [this]; simp
      have HR2 := Keep.mk hR2
      have HLT := Keep.mk hlt
      have HAP := Keep.mk hap
      have HNX : Keep (∀ W', Has W' pb ((sev X.r X.u s).set (42 + 2) (.int .i64 (Bu.tk X.r X.u s.y 1))) 109 → w2.grownBy W' (some pb) → Sep w0 W' (iterA r :: (lobL lb (rfX X P (Tb.rm L s.num)) (v, mb, rfP X P (Tb.rm L s.num)) ++ l))) := ⟨fun W' hh g => by
        have es : (sev X.r X.u s).set (42 + 2) (.int .i64 (Bu.tk X.r X.u s.y 1)) = sev X.r X.u (tickE X s) := by
          rw [show 42 + 2 = 40 + 4 from rfl, sev_set hkl 4]
          rfl
        rw [es] at hh
        have := hback W' (tickE X s) rfl (S4.boxTurn hh g)
        rw [← e2] at this
        exact this⟩
      clear hR hS hkb hR2 hlt hg2 hs2 S2 S3 S4 hp e1 e2 hAC hbk hap hkl hsm hback hfx hkL hcn
      go_wp2_with fail
      refine hT.mono ?_
      rintro e w3 ⟨rfl, hh, g3⟩
      have HS3 := Keep.mk (HNX.out w3 hh g3)
      obtain ⟨q1, q2⟩ := HR2.out.kept g3 (fun e => HAP.out.1 (Option.some.inj e)) (fun e => HAP.out.2 (Option.some.inj e))
      have HR3 := Keep.mk q1
      have HL3 : Keep (w3.rangeLeft mb r < wr.rangeLeft mb r) := ⟨by rw [q2]; exact HLT.out⟩
      clear hT hh g3 q1 q2
      go_wp2_with fail
      exact ⟨⟨_, HR3, HS3⟩, HL3.out⟩
end Go.Proofs.YtplcicbpkbamnabGreatDoor.Lo

/- lobby: Join, whole; what stays so behind Refill; the numbers rise. -/
open Go Go.Proofs
namespace Go.Proofs.YtplcicbpkbamnabGreatDoor.Lo
set_option maxRecDepth 100000 in
theorem fdI_lt {A : List Ac} {nm : ByteArray} {a : Nat} (h : fdI A nm = some a) : a < A.length := by
  unfold fdI at h
  split at h
  · exact (List.findIdx?_eq_some_iff_findIdx_eq.1 h).1
  · cases h
set_option maxRecDepth 100000 in
theorem join_c (w0 W : World) (l : List As) (lb : Nat) (X : Lb) (fr nonce salt nm : ByteArray) (tick : Nat) (h : Sep w0 W (lobA lb X :: l)) (ok : LbOk X) (hk : Na.Kc W) (hkm : Kc w0) (hs : nm.size ≤ 281474976710656) (hnn : nonce.size ≤ 281474976710656) (hns : salt.size ≤ 281474976710656) (hnf : fr.size ≤ 281474976710656) (hxn : X.next < 1000000) :
    Calls Tryz.prog 14 #[pt lb, .string fr, .string nonce, .string salt, .string nm, uv tick] W fun e W' => e = .returned (.tuple #[.agg (((joiS X fr nonce salt nm tick).map lvc).getD z7).toArray, iv (joiC X nm)]) ∧ Sep w0 W' (lobA lb (joiX X fr nonce salt nm tick) :: l) := by
  cases hf : fdI X.A nm with
  | none =>
    have q := (joi_no hf fr nonce salt tick).2
    unfold joiX; rw [q]
    exact join_no w0 W l lb X fr nonce salt nm tick h ok hk hs hf
  | some a =>
    cases hp : plyS X a with
    | true =>
      have q := (joi_taken hf hp fr nonce salt tick).2
      unfold joiX; rw [q]
      exact join_taken w0 W l lb X fr nonce salt nm tick h ok hk hs a hf hp
    | false =>
      by_cases hl : X.most ≤ X.S.length
      · have q := (joi_full hf hp hl fr nonce salt tick).2
        unfold joiX; rw [q]
        exact join_full w0 W l lb X fr nonce salt nm tick h ok hk hs a hf hp hl
      · have q := joi_yes hf hp (Nat.lt_of_not_le hl) fr nonce salt tick
        unfold joiX; rw [q.2, q.1]
        have ha := fdI_lt hf
        exact join_yes w0 W l lb X fr nonce salt nm tick h ok hk hs a hf (X.A[a]) (List.getElem?_eq_getElem ha) hkm hnn hns hnf hp (Nat.lt_of_not_le hl) hxn
set_option maxRecDepth 100000 in
theorem LbOk.refill {X : Lb} (ok : LbOk X) : LbOk (refX X) := by
  have hr := ok.r
  refine ⟨ok.m1, ok.m2, ok.r, ok.a1, ok.a2, ok.n1, ok.n2, ?_, fun z hz => ?_, ?_⟩
  · show ((X.S.map (tickE X)).map Se.num).Nodup
    rw [List.map_map]; exact ok.nd
  · obtain ⟨z0, hz0, e⟩ := List.mem_map.1 hz
    subst e
    obtain ⟨a1, a2, a3, a4, a5, a6, a7, a8, a9, b1, b2, b3, b4⟩ := ok.s z0 hz0
    exact ⟨a1, a2, a3, a4, a5, a6, a7, a8, a9, b1, Bu.tk_lo (by have := hr; unfold Bu.okay at this; omega) (by have := hr; unfold Bu.okay at this; omega) b2 (by omega), Bu.tk_hi, b4⟩
  · show (X.S.map (tickE X)).length ≤ X.most
    rw [List.length_map]; exact ok.le
/-- the numbers rise -/
def Up (X : Lb) : Prop := (X.S.map Se.num).Pairwise (· < ·)
set_option maxRecDepth 100000 in
theorem Up.refill {X : Lb} (h : Up X) : Up (refX X) := by
  show ((X.S.map (tickE X)).map Se.num).Pairwise (· < ·)
  rw [List.map_map]; exact h
set_option maxRecDepth 100000 in
theorem Up.upd {X : Lb} {k : Nat} {s' : Se} (h : Up X) (hn : s'.num = k) : Up (upd X k s') := by
  show ((X.S.map fun s => if s.num = k then s' else s).map Se.num).Pairwise (· < ·)
  rw [nums_upd hn]; exact h
set_option maxRecDepth 100000 in
theorem Up.filter {X : Lb} (h : Up X) (q : Se → Bool) : Up { X with S := X.S.filter q } :=
  List.Pairwise.sublist ((List.filter_sublist (l := X.S)).map Se.num) h
set_option maxRecDepth 100000 in
theorem Up.sent {X : Lb} {k : Nat} (h : Up X) : Up (sntX X k) := by
  unfold sntX
  cases hf : fds X k with
  | none => exact h
  | some s => exact h.upd (fds_num hf).2
set_option maxRecDepth 100000 in
theorem Up.acp {X : Lb} {k q tick : Nat} {cmd : Bool} (h : Up X) : Up (acpX X k q cmd tick) := by
  unfold acpX
  cases hf : fds X k with
  | none => exact h
  | some s =>
    refine h.upd ?_
    unfold accE
    split
    · exact (fds_num hf).2
    · exact (fds_num hf).2
set_option maxRecDepth 100000 in
theorem Up.leave {X : Lb} {k : Nat} (h : Up X) : Up (levX X k) := by
  unfold levX
  cases hf : fds X k with
  | none => exact h
  | some s => exact h.filter _
set_option maxRecDepth 100000 in
theorem Up.join {X : Lb} (h : Up X) (ok : LbOk X) (fr nonce salt nm : ByteArray) (tick : Nat) : Up (joiX X fr nonce salt nm tick) := by
  unfold joiX
  cases hs : joiS X fr nonce salt nm tick with
  | none => exact h
  | some s =>
    have hn : s.num = X.next := by
      unfold joiS at hs
      split at hs
      · cases hs
      · split at hs
        · cases hs
        · split at hs
          · cases hs
          · cases hs; rfl
    show ((X.S ++ [s]).map Se.num).Pairwise (· < ·)
    rw [List.map_append, List.pairwise_append]
    refine ⟨h, by simp, fun a ha b hb => ?_⟩
    obtain ⟨z, hz, rfl⟩ := List.mem_map.1 ha
    simp only [List.map_cons, List.map_nil, List.mem_singleton] at hb
    rw [hb, hn]; exact (ok.s z hz).2.1
end Go.Proofs.YtplcicbpkbamnabGreatDoor.Lo

/- lobby: the order in which sessions are told. -/
namespace Go.Proofs.YtplcicbpkbamnabGreatDoor.Lo
open Go Go.RowKit Go.Maps Go.Shelf Go.Lib Go.Sort

set_option maxRecDepth 100000 in
theorem nan85 (a : Int) (W : World) : Calls Tryz.prog 110 #[.int .u64 a] W fun e w' => e = .returned (.bool false) ∧ w' = W := by
  go_enter Tryz.func110, Tryz.ntmps110
  go_wp2_with fail
  go_ret
  exact ⟨by simp, rfl⟩
set_option maxRecDepth 100000 in
set_option maxHeartbeats 4000000 in
theorem cmp73 (a b : Int) (W : World) : Calls Tryz.prog 87 #[.int .u64 a, .int .u64 b] W fun e w' => e = .returned (.int .i64 (Lib.compareInt a b)) ∧ w' = W := by
  by_cases h1 : a < b
  · have HE : Keep (Lib.compareInt a b = -1) := ⟨by unfold Lib.compareInt; simp [h1]⟩
    go_enter Tryz.func87, Tryz.ntmps87
    go_wp2_with (go_at_call 110; refine (nan85 _ _).mono ?_; rintro e w' ⟨rfl, rfl⟩)
    go_ret
    rw [HE.out]
    exact ⟨rfl, rfl⟩
  · by_cases h2 : b < a
    · have HE : Keep (Lib.compareInt a b = 1) := ⟨by unfold Lib.compareInt; simp [h1, h2]⟩
      go_enter Tryz.func87, Tryz.ntmps87
      go_wp2_with (go_at_call 110; refine (nan85 _ _).mono ?_; rintro e w' ⟨rfl, rfl⟩)
      go_ret
      rw [HE.out]
      exact ⟨rfl, rfl⟩
    · have HE : Keep (Lib.compareInt a b = 0) := ⟨by unfold Lib.compareInt; simp [h1, h2]⟩
      go_enter Tryz.func87, Tryz.ntmps87
      go_wp2_with (go_at_call 110; refine (nan85 _ _).mono ?_; rintro e w' ⟨rfl, rfl⟩)
      go_ret
      rw [HE.out]
      exact ⟨rfl, rfl⟩
instance : Inhabited Se := ⟨⟨0, 0, ⟨#[]⟩, ⟨#[]⟩, 0, 0, 0, 0, [], 0, 0, 0⟩⟩
/-- the order: by the numbers -/
def cfN (x y : Se) : Int := Lib.compareInt (x.num : Int) (y.num : Int)
set_option maxRecDepth 100000 in
theorem ltN (x y : Se) : ltOf cfN x y = decide (x.num < y.num) := by
  unfold ltOf cfN Lib.compareInt
  by_cases h1 : (x.num : Int) < y.num
  · simp [h1, show x.num < y.num by omega]
  · by_cases h2 : (y.num : Int) < x.num <;> simp [h1, h2] <;> omega
set_option maxRecDepth 100000 in
theorem swoN : SWO (ltOf cfN) where
  irrefl x := by rw [ltN]; simp
  trans x y z h1 h2 := by rw [ltN] at *; simp at *; omega
  ntrans x y z h1 h2 := by rw [ltN] at *; simp at *; omega
set_option maxRecDepth 100000 in
set_option maxHeartbeats 4000000 in
theorem closure72 (x y : Se) (W : World) : Calls Tryz.prog 86 #[.agg (lvc x).toArray, .agg (lvc y).toArray] W fun e w' => e = .returned (.int .i64 (cfN x y)) ∧ ∃ q os', w' = grow (W.drewN q) os' := by
  have hcon := fun W' => cmp73 (x.num : Int) (y.num : Int) W'
  show Calls Tryz.prog 86 #[.agg #[uv x.num, iv (x.pl : Nat), .string x.nm, .string x.fr, uv x.heard, uv x.high, uv x.sent], .agg #[uv y.num, iv (y.pl : Nat), .string y.nm, .string y.fr, uv y.heard, uv y.high, uv y.sent]] W _
  unfold cfN
  generalize Lib.compareInt (x.num : Int) (y.num : Int) = r at hcon ⊢
  go_enter Tryz.func86, Tryz.ntmps86
  go_wp2_with (go_at_call 87; refine (hcon _).mono ?_; rintro e w' ⟨rfl, rfl⟩)
  go_ret
  exact ⟨rfl, 0, _, by rw [alloc_eq_grow, alloc_eq_grow, grow_grow]; rfl⟩
set_option maxRecDepth 100000 in
theorem cmpLays72 (blk off size : Nat) (w : World) : CmpLays Tryz.prog 86 #[] lvc 7 cfN blk off size w :=
  fun _ _ _ _ x y => closure72 x y _
end Go.Proofs.YtplcicbpkbamnabGreatDoor.Lo

/- lobby: what is told is sorted by the numbers. -/
namespace Go.Proofs.YtplcicbpkbamnabGreatDoor.Lo
open Go Go.RowKit Go.Maps Go.Shelf Go.Lib Go.Sort

/-- the cells of what is told -/
def lvs (L : List Se) : List Value := L.flatMap lvc
set_option maxRecDepth 100000 in
theorem lvs_len (L : List Se) : (lvs L).length = L.length * 7 := by
  unfold lvs
  induction L with
  | nil => rfl
  | cons a r ih =>
    have e : (lvc a).length = 7 := rfl
    rw [List.flatMap_cons, List.length_append, ih, e, List.length_cons]; omega
set_option maxRecDepth 100000 in
theorem lvs_at : ∀ (L : List Se) (t : Nat), t < L.length * 7 → (lvs L)[t]! = (lvc (L.toArray[t / 7]!))[t % 7]!
  | [], t, h => by simp at h
  | a :: r, t, h => by
    have hl : (lvc a).length = 7 := rfl
    have e : lvs (a :: r) = lvc a ++ lvs r := by simp [lvs]
    rw [e]
    by_cases h7 : t < 7
    · rw [show t / 7 = 0 by omega, show t % 7 = t by omega]
      rw [List.getElem!_eq_getElem?_getD, List.getElem?_append_left (by omega), ← List.getElem!_eq_getElem?_getD]
      rfl
    · obtain ⟨u, rfl⟩ : ∃ u, t = u + 7 := ⟨t - 7, by omega⟩
      have hu : u < r.length * 7 := by rw [List.length_cons] at h; omega
      rw [show (u + 7) / 7 = u / 7 + 1 by omega, show (u + 7) % 7 = u % 7 by omega]
      rw [List.getElem!_eq_getElem?_getD, List.getElem?_append_right (by omega), hl, Nat.add_sub_cancel, ← List.getElem!_eq_getElem?_getD, lvs_at r u hu]
      simp
set_option maxRecDepth 100000 in
theorem flat_lvs (L : List Se) : flatK lvc 7 L.toArray = (lvs L).toArray := by
  refine ext_get! (by simp [lvs_len]) fun t ht => ?_
  have ht' : t < L.length * 7 := by simpa using ht
  rw [get_flatK _ _ _ t (by simpa using ht'), ← lvs_at L t ht']
  simp
set_option maxRecDepth 100000 in
theorem setMany_all (vs : List Value) (F : Array Value) (h : vs.length = F.size) : setMany F 0 vs = vs.toArray := by
  refine ext_get! (by simp [h]) fun t ht => ?_
  have ht' : t < F.size := by simpa using ht
  rw [get_setMany _ _ _ t ht', if_pos (by omega)]
  simp
set_option maxRecDepth 100000 in
theorem gr_grow (w : World) (os : Array Obj) : w.grownBy (grow w os) none :=
  ⟨rfl, rfl, rfl, by simp [grow], fun b hb _ => by simp [grow, Array.getElem?_append, hb]⟩
set_option maxRecDepth 100000 in
theorem gr_ahead (w : World) (n : Nat) : w.grownBy (Sort.ahead w n) none := ⟨rfl, rfl, rfl, Nat.le_refl _, fun _ _ _ => rfl⟩
set_option maxRecDepth 100000 in
theorem Sep.rowSets {w0 : World} {l : List As} {e : TypeId} {s g n c : Nat} : ∀ (vs : List Value) (A B : List Value) (W : World), vs.length = B.length → Sep w0 W (rowV e s (.slice (some ⟨g, 0, none⟩) n c) n (A ++ B) :: l) → Sep w0 (W.setCells g A.length vs) (rowV e s (.slice (some ⟨g, 0, none⟩) n c) n (A ++ vs) :: l)
  | [], A, B, W, hl, h => by
    obtain rfl : B = [] := List.eq_nil_of_length_eq_zero hl.symm
    exact h
  | v :: r, A, B, W, hl, h => by
    cases B with
    | nil => cases hl
    | cons b B =>
      have h2 := h.rowSet A.length v
      rw [List.set_append_right _ _ (Nat.le_refl _), Nat.sub_self, List.set_cons_zero] at h2
      rw [show A ++ v :: B = (A ++ [v]) ++ B by simp] at h2
      have h3 := Sep.rowSets r (A ++ [v]) B _ (by simpa using hl) h2
      rw [List.length_append, List.append_assoc] at h3
      exact h3
set_option maxRecDepth 100000 in
theorem sort_c (w0 W : World) (l : List As) (v : Value) (L : List Se) (hL : 0 < L.length) (hm : L.length ≤ 64) (h : Sep w0 W (rowV 49 7 v L.length (lvs L) :: l)) :
    Calls Tryz.prog 85 #[v, .func (.func 86) #[] #[]] W fun e W' => e = .returned (.tuple #[]) ∧ ∃ L', L'.Perm L ∧ (L'.map Se.num).Pairwise (· ≤ ·) ∧ Sep w0 W' (rowV 49 7 v L.length (lvs L') :: l) := by
  have ho := h.rowGet k0m
  obtain ⟨g, c, rfl, hc⟩ := own_any ho hL
  have hblk : g < W.heap.size := by
    obtain ⟨_, h2⟩ := ho
    rcases h2 with ⟨q, _⟩ | ⟨g', cap, cur, q, _, hh, _⟩
    · cases q
    · injection q with e1 e2 e3
      cases e1
      exact (Array.getElem?_eq_some_iff.1 hh).1
  have hH : HoldsK lvc 7 W g 0 L.toArray := by
    intro j hj
    rw [flat_lvs] at hj ⊢
    have hj' : j < (lvs L).length := by simpa using hj
    have := hc j (lvs L)[j] (List.getElem?_eq_getElem hj')
    rw [Nat.zero_add]
    simpa [hj'] using this
  have eg : ∀ args w, (callFunc 86 args).run Tryz.prog w = .ok (.enter 86 args) w := enters_of Tryz.func86 (by kernel_rfl) rfl
  have hcon := AnyQ.slices_SortFunc Tryz.sortLv 7 Tryz.isAgg49 Tryz.sizeOf49 lvc (fun _ => rfl) lvc_one cfN swoN 86 #[] g 0 c L.toArray W eg (cmpLays72 g 0 _ W) hH hblk (by simp; omega)
  change Calls Tryz.prog 85 _ _ _ at hcon
  simp only [List.size_toArray] at hcon
  refine hcon.mono ?_
  rintro e W' ⟨rfl, d', n, os, hp, hs, rfl⟩
  obtain ⟨hp1, _, hp2⟩ := hp
  have hd : d'.toList.length = L.length := by simpa using hp1
  have hpm : d'.toList.Perm L := by
    rw [show d'.extract 0 L.length = d' by rw [← hd]; simp, show L.toArray.extract 0 L.length = L.toArray by simp] at hp2
    exact hp2
  refine ⟨rfl, d'.toList, hpm, ?_, ?_⟩
  · rw [List.pairwise_map, List.pairwise_iff_getElem]
    intro i j hi hj hij
    have := hs i j (Nat.zero_le _) hij (by rw [← hd]; exact hj)
    rw [ltN] at this
    have hi' : i < d'.size := by simpa using hi
    have hj' : j < d'.size := by simpa using hj
    rw [getElem!_pos d' i hi', getElem!_pos d' j hj'] at this
    simp only [Array.getElem_toList]
    have := of_decide_eq_false this
    omega
  · have e1 : putRowK lvc 7 (Sort.ahead W n) g 0 d' = (Sort.ahead W n).setCells g 0 (lvs d'.toList) := by
      have q := setCells_putRow (Sort.ahead W n) g 0 (lvs d'.toList) 0 (flatK lvc 7 L.toArray) (by rw [lvs_len, size_flatK, hd]; simp)
      rw [putRow_self id (Sort.ahead W n) g 0 _ (holdsK_ahead lvc 7 W n g 0 _ hH), setMany_all _ _ (by rw [lvs_len, size_flatK, hd]; simp)] at q
      rw [Nat.add_zero] at q
      rw [q]
      show putRow id _ g 0 (flatK lvc 7 d') = _
      rw [← flat_lvs]
    have h2 := Sep.rowSets (lvs d'.toList) [] (lvs L) _ (by rw [lvs_len, lvs_len, hd]) (h.grown (gr_ahead W n))
    have h3 := h2.grown (gr_grow _ os)
    show Sep w0 (grow (putRowK lvc 7 (Sort.ahead W n) g 0 d') os) _
    rw [e1]
    exact h3
end Go.Proofs.YtplcicbpkbamnabGreatDoor.Lo

/- lobby: what tellThose needs. -/
namespace Go.Proofs.YtplcicbpkbamnabGreatDoor.Lo
open Go Go.RowKit Go.Maps

set_option maxRecDepth 100000 in
theorem strict_ext : ∀ (A B : List Se), (A.map Se.num).Pairwise (· < ·) → (B.map Se.num).Pairwise (· < ·) → (∀ s, s ∈ A ↔ s ∈ B) → A = B
  | [], [], _, _, _ => rfl
  | [], b :: B, _, _, h => by have := (h b).2 (List.mem_cons_self ..); cases this
  | a :: A, [], _, _, h => by have := (h a).1 (List.mem_cons_self ..); cases this
  | a :: A, b :: B, hA, hB, h => by
    rw [List.map_cons, List.pairwise_cons] at hA hB
    have lA : ∀ s ∈ A, a.num < s.num := fun s hs => hA.1 _ (List.mem_map.2 ⟨s, hs, rfl⟩)
    have lB : ∀ s ∈ B, b.num < s.num := fun s hs => hB.1 _ (List.mem_map.2 ⟨s, hs, rfl⟩)
    have e : a = b := by
      rcases List.mem_cons.1 ((h a).1 (List.mem_cons_self ..)) with q | q
      · exact q
      · rcases List.mem_cons.1 ((h b).2 (List.mem_cons_self ..)) with z | z
        · exact z.symm
        · have := lB a q; have := lA b z; omega
    subst e
    rw [strict_ext A B hA.2 hB.2 fun s => ⟨fun hs => ?_, fun hs => ?_⟩]
    · rcases List.mem_cons.1 ((h s).1 (List.mem_cons_of_mem _ hs)) with q | q
      · subst q; have := lA _ hs; omega
      · exact q
    · rcases List.mem_cons.1 ((h s).2 (List.mem_cons_of_mem _ hs)) with q | q
      · subst q; have := lB _ hs; omega
      · exact q
/-- sorted, without a number twice: it rises -/
theorem strict_of {A : List Se} (h : (A.map Se.num).Pairwise (· ≤ ·)) (hn : (A.map Se.num).Nodup) : (A.map Se.num).Pairwise (· < ·) :=
  h.imp₂ (fun _ _ h1 h2 => Nat.lt_of_le_of_ne h1 h2) hn
set_option maxRecDepth 100000 in
theorem under63 : Tryz.prog.underlying 43 = some (.slice 49) := by kernel_rfl
set_option maxRecDepth 100000 in
theorem info42b : ∃ i, Tryz.prog.info? 49 = some i ∧ i.size = 7 ∧ i.bytes = 72 ∧ i.zero = some (.agg z7.toArray) := by
  have h : (Tryz.prog.info? 49).map (fun i => (i.size, i.bytes, i.zero)) = some (7, 72, some (.agg z7.toArray)) := by kernel_rfl
  cases e : Tryz.prog.info? 49 with
  | none => rw [e] at h; cases h
  | some i =>
    rw [e] at h
    simp only [Option.map_some, Option.some.injEq, Prod.mk.injEq] at h
    exact ⟨i, rfl, h.1, h.2.1, h.2.2⟩
set_option maxRecDepth 100000 in
theorem bs7_run (w : World) : ∀ (cs : List Value), cs.length = 7 → (Instr.buildSlice 43 1 #[(0, .agg cs.toArray)]).run Tryz.prog w = .ok (.slice (some ⟨w.heap.size, 0, none⟩) 1 1) (w.alloc (.cells cs.toArray 49))
  | c0 :: c1 :: c2 :: c3 :: c4 :: c5 :: c6 :: [], _ => by kernel_rfl
/-- one told more -/
theorem Sep.app7 {w0 W : World} {l : List As} {v : Value} {G : List Se} (s : Se) (h : Sep w0 W (rowV 49 7 v G.length (lvs G) :: l)) (hm : G.length ≤ 64) :
    ∃ g c W', (Builtin.append_ #[43, 43] 43 #[v, .slice (some ⟨W.heap.size, 0, none⟩) 1 1]).run Tryz.prog (W.alloc (.cells (lvc s).toArray 49)) = .ok (.slice (some ⟨g, 0, none⟩) (G.length + 1) c) W' ∧ W.grownBy W' v.ownBlock ∧ Sep w0 W' (rowV 49 7 (.slice (some ⟨g, 0, none⟩) (G.length + 1) c) (G ++ [s]).length (lvs (G ++ [s])) :: l) := by
  obtain ⟨i, i1, i2, i3, i4⟩ := info42b
  obtain ⟨F, ⟨ho, rfl⟩, _, hu⟩ := h.use
  have hk := ho.kept (World.grownBy_alloc W (.cells (lvc s).toArray 49) none) (by cases v.ownBlock <;> simp)
  obtain ⟨v', w', r1, r2, r3, _, r5⟩ := run_append_own_at (P := Tryz.prog) (W.alloc (.cells (lvc s).toArray 49)) 0 43 43 49 i _ 7 72 under63 i1 i4 i2 i3 rfl (by decide) v G.length (lvs G) hk ⟨W.heap.size, 0, none⟩ 1 1 (lvc s) rfl (fun j u hu => by
      rw [Addr.add_mid, Nat.zero_add]; exact (Has.newA W (lvc s).toArray 49).cellv j u (by simpa using hu)) (lvc_one s) (by unfold maxLen; omega) (by omega) (Nat.zero_le _)
  obtain ⟨g, c, e1, _⟩ := own_any r2 (by omega)
  subst e1
  rw [heap1] at r5
  have gr := (World.grownBy_alloc W (.cells (lvc s).toArray 49) v.ownBlock).trans r3
  have el : lvs (G ++ [s]) = lvs G ++ lvc s := by simp [lvs]
  refine ⟨g, c, w', r1, gr, hu w' [_] ((Fr.of gr).mono (fun i hi => .inl hi)) (Loc.one (a := rowV _ _ _ _ _) _ ⟨by rw [el, List.length_append]; exact r2, rfl⟩ (fun i hi => ?_))⟩
  rcases r5 with q | q
  · exact .inl (by rw [← q]; exact hi)
  · rw [q] at hi
    injection hi with e
    exact .inr (by omega)
set_option maxRecDepth 100000 in
theorem row_apart {W : World} {mb r : Nat} {M L : List (Nat × Nat)} {e : TypeId} {s n : Nat} {v : Value} {xs : List Value} (h : Rng W mb r M L) (ho : W.ownsRow 0 e s v n xs) : some mb ≠ v.ownBlock ∧ some r ≠ v.ownBlock := by
  obtain ⟨_, h2⟩ := ho
  rcases h2 with ⟨rfl, _⟩ | ⟨g, cap, cur, rfl, _, hh, _⟩
  · exact ⟨nofun, nofun⟩
  · have := h.apart (tb := g) (cs := cur.toList) (t := e) (by unfold Has; simpa using hh)
    exact ⟨fun q => this.1 (Option.some.inj q), fun q => this.2 (Option.some.inj q)⟩
set_option maxRecDepth 100000 in
set_option maxHeartbeats 8000000 in
theorem tell_g0 (w0 W : World) (hg : w0.grownBy W none) (b : Nat) (r u : Int) (s : Se) (hb : Has W b (sev r u s) 109) (hn : s.nm.size ≤ 281474976710656) (hf : s.fr.size ≤ 281474976710656) :
    Calls Tryz.prog 53 #[pt b] W fun e W' => e = .returned (.agg (lvc s).toArray) ∧ w0.grownBy W' none := by
  obtain ⟨du, hdu, hdr⟩ := under42
  have S1' := (Sep.start hg).newBox z7.toArray 49
  have hb1 := hb.alloc (.cells z7.toArray 49)
  obtain ⟨W1, hW1⟩ : ∃ W1, W.alloc (.cells z7.toArray 49) = W1 := ⟨_, rfl⟩
  obtain ⟨rb, hrb⟩ : ∃ rb, W.heap.size = rb := ⟨_, rfl⟩
  rw [hW1, hrb] at S1'
  rw [hW1] at hb1
  change Sep w0 W1 [boxA rb z7 49] at S1'
  have RNG := Keep.mk (sev_lv hb1)
  have hL := live_c W1 s hn hf
  have HS1 := Keep.mk S1'
  have HL1 := Keep.mk (lvc_one s)
  have HL7 : Keep ((lvc s).length = 7) := ⟨rfl⟩
  obtain ⟨lv, hlv⟩ : ∃ lv, lvc s = lv := ⟨_, rfl⟩
  rw [hlv] at RNG HL1 HL7 hL ⊢
  unfold z7 at hW1
  clear hb hb1 S1' hn hf hlv hg
  go_enter Tryz.func53, Tryz.ntmps53
  go_wp2_with (first
    | (show wpList _ _ _ ({ dst := _, op := Op.load 49 _, type := _, pos := _, after := _, guard := _ } :: _) _ _
       refine wpList_load_mid rfl 49 _ rfl _ _ rfl _ _ RNG.out hdu hdr (by rw [HL7.out]; exact info42) ?_))
  refine hL.mono ?_
  rintro e w2 ⟨rfl, g2⟩
  have HS2 := Keep.mk (HS1.out.grown g2)
  have HRB := Keep.mk (HS2.out.boxGet k0m)
  clear hL g2 HS1 RNG hW1 hrb
  go_wp2_with (first
    | (show wpList _ _ _ ({ dst := _, op := Op.store 49 _ _, type := _, pos := _, after := _, guard := _ } :: _) _ _
       refine store_box _ rb z7 lv 49 rfl rfl rfl rfl HRB.out (by rw [HL7.out]; rfl) (by rw [HL7.out]; exact info42) HL1.out ?_))
  intro w7 hS7 g7
  have HS7 := Keep.mk (hS7 _ _ HS2.out)
  clear hS7 g7 HRB HS2
  go_wp2_with fail
  exact ret_c rfl rfl (HS7.out.boxGet k0m) hdu hdr (by rw [HL7.out]; exact info42) rfl ⟨rfl, HS7.out.g⟩
set_option maxRecDepth 100000 in
theorem tell_g (W : World) (b : Nat) (r u : Int) (s : Se) (hb : Has W b (sev r u s) 109) (hn : s.nm.size ≤ 281474976710656) (hf : s.fr.size ≤ 281474976710656) :
    Calls Tryz.prog 53 #[pt b] W fun e W' => e = .returned (.agg (lvc s).toArray) ∧ W.grownBy W' none := tell_g0 W W (World.grownBy.refl W _) b r u s hb hn hf
end Go.Proofs.YtplcicbpkbamnabGreatDoor.Lo

/- lobby: tellThose. -/
namespace Go.Proofs.YtplcicbpkbamnabGreatDoor.Lo
open Go Go.RowKit Go.Maps

set_option maxRecDepth 100000 in
theorem sort_all (w0 W : World) (l : List As) (v : Value) (L : List Se) (hm : L.length ≤ 64) (h : Sep w0 W (rowV 49 7 v L.length (lvs L) :: l)) :
    Calls Tryz.prog 85 #[v, .func (.func 86) #[] #[]] W fun e W' => e = .returned (.tuple #[]) ∧ ∃ L', L'.Perm L ∧ (L'.map Se.num).Pairwise (· ≤ ·) ∧ Sep w0 W' (rowV 49 7 v L.length (lvs L') :: l) := by
  by_cases hL : 0 < L.length
  · exact sort_c w0 W l v L hL hm h
  · obtain rfl : L = [] := List.eq_nil_of_length_eq_zero (by omega)
    obtain ⟨a, c, rfl⟩ := own_zero (h.rowGet k0m)
    refine (AnyF.slices_SortFunc_none Tryz.sortLv a c _ W).mono ?_
    rintro e W' ⟨rfl, rfl⟩
    exact ⟨rfl, [], List.Perm.refl _, List.Pairwise.nil, h⟩
/-- what is told so far, while L is still to come -/
structure Got (P : List (Nat × Se)) (q : Se → Bool) (L : List (Nat × Nat)) (G : List Se) : Prop where
  mem : ∀ s, s ∈ G ↔ ∃ b, (b, s) ∈ P ∧ s.num ∉ Tb.keys L ∧ q s = true
  nd : (G.map Se.num).Nodup
  len : G.length + L.length ≤ 32
set_option maxRecDepth 100000 in
theorem Got.start {P : List (Nat × Se)} {q : Se → Bool} {M : List (Nat × Nat)} (h : (P.map fun p => (p.2.num, p.1)) = M) (hl : M.length ≤ 32) : Got P q M [] := by
  refine ⟨fun s => ⟨nofun, ?_⟩, List.nodup_nil, by simpa using hl⟩
  rintro ⟨b, hb, hn, _⟩
  refine absurd ?_ hn
  rw [← h]
  exact List.mem_map.2 ⟨(s.num, b), List.mem_map.2 ⟨_, hb, rfl⟩, rfl⟩
set_option maxRecDepth 100000 in
theorem Got.done {X : Lb} {P : List (Nat × Se)} {q : Se → Bool} {G : List Se} (hP : P.map (fun p => p.2) = X.S) (up : Up X) (h : Got P q [] G) (L' : List Se) (hp : L'.Perm G) (hs : (L'.map Se.num).Pairwise (· ≤ ·)) : L' = X.S.filter q := by
  refine strict_ext _ _ (strict_of hs ((hp.map Se.num).nodup_iff.2 h.nd)) (up.filter q) fun s => ?_
  rw [hp.mem_iff, h.mem, List.mem_filter, ← hP]
  constructor
  · rintro ⟨b, hb, _, hq⟩
    exact ⟨List.mem_map.2 ⟨_, hb, rfl⟩, hq⟩
  · rintro ⟨hb, hq⟩
    obtain ⟨⟨b, z⟩, hz, rfl⟩ := List.mem_map.1 hb
    exact ⟨b, hz, by simp [Tb.keys], hq⟩
set_option maxRecDepth 100000 in
theorem one_num {P : List (Nat × Se)} (hn : (P.map fun p => p.2.num).Nodup) {a b : Nat} {s z : Se} (h1 : (a, s) ∈ P) (h2 : (b, z) ∈ P) (e : s.num = z.num) : a = b ∧ s = z := by
  obtain ⟨i, hi, e1⟩ := List.getElem_of_mem h1
  obtain ⟨j, hj, e2⟩ := List.getElem_of_mem h2
  have e3 : (P.map fun p => p.2.num)[i]'(by simpa using hi) = (P.map fun p => p.2.num)[j]'(by simpa using hj) := by simp [e1, e2, e]
  have e4 := (List.getElem_inj hn).1 e3
  subst e4
  rw [e1] at e2
  cases e2
  exact ⟨rfl, rfl⟩
set_option maxRecDepth 100000 in
theorem Got.step {P : List (Nat × Se)} {q : Se → Bool} {L : List (Nat × Nat)} {G : List Se} {pb : Nat} {s : Se} (hn : (P.map fun p => p.2.num).Nodup) (h : Got P q L G) (hp : (pb, s) ∈ P) (hk : (s.num, pb) ∈ L) : (q s = true → Got P q (Tb.rm L s.num) (G ++ [s])) ∧ (q s = false → Got P q (Tb.rm L s.num) G) := by
  have hlt : (Tb.rm L s.num).length < L.length := by
    unfold Tb.rm
    rw [List.length_filter_lt_length_iff_exists]
    exact ⟨_, hk, by simp⟩
  have hlen := h.len
  have hkk : s.num ∈ Tb.keys L := List.mem_map.2 ⟨_, hk, rfl⟩
  refine ⟨fun hq => ⟨fun z => ?_, ?_, by rw [List.length_append, List.length_singleton]; omega⟩, fun hq => ⟨fun z => ?_, h.nd, by omega⟩⟩
  · rw [List.mem_append, List.mem_singleton, h.mem]
    constructor
    · rintro (⟨b, hb, hn, hz⟩ | rfl)
      · exact ⟨b, hb, fun q => hn (keys_rm_iff.1 q).1, hz⟩
      · exact ⟨pb, hp, fun q => (keys_rm_iff.1 q).2 rfl, hq⟩
    · rintro ⟨b, hb, hn2, hz⟩
      by_cases e : z.num = s.num
      · exact .inr (one_num hn hb hp e).2
      · exact .inl ⟨b, hb, fun q => hn2 (keys_rm_iff.2 ⟨q, e⟩), hz⟩
  · rw [List.map_append, List.nodup_append]
    refine ⟨h.nd, by simp, fun a ha b hb e => ?_⟩
    simp only [List.map_cons, List.map_nil, List.mem_singleton] at hb
    obtain ⟨z, hz, rfl⟩ := List.mem_map.1 ha
    obtain ⟨_, _, hn3, _⟩ := (h.mem z).1 hz
    exact hn3 (by rw [e, hb]; exact hkk)
  · rw [h.mem]
    constructor
    · rintro ⟨b, hb, hn, hz⟩
      exact ⟨b, hb, fun q => hn (keys_rm_iff.1 q).1, hz⟩
    · rintro ⟨b, hb, hn2, hz⟩
      refine ⟨b, hb, fun qq => ?_, hz⟩
      by_cases e : z.num = s.num
      · rw [(one_num hn hb hp e).2, hq] at hz; cases hz
      · exact hn2 (keys_rm_iff.2 ⟨qq, e⟩)
set_option maxRecDepth 100000 in
set_option maxHeartbeats 16000000 in
theorem those_a (w0 W : World) (l : List As) (lb : Nat) (X : Lb) (q : Se → Bool) (h : Sep w0 W (lobA lb X :: l)) (ok : LbOk X) (up : Up X)
    (hpf : ∀ (W' : World) (v : Value) (mb : Nat) (P : List (Nat × Se)) (pb : Nat) (s : Se), Sep w0 W' (lobL lb X (v, mb, P) ++ l) → (pb, s) ∈ P → s ∈ X.S → Calls Tryz.prog 46 #[pt pb] W' fun e W'' => e = .returned (.bool (q s)) ∧ W'.grownBy W'' none) :
    Calls Tryz.prog 45 #[pt lb, .func (.func 46) #[] #[]] W fun e W' => ∃ v, e = .returned v ∧ Sep w0 W' (rowV 49 7 v (X.S.filter q).length (lvs (X.S.filter q)) :: lobA lb X :: l) := by
  obtain ⟨⟨v, mb, P⟩, h⟩ := h.opn
  have hP : P.map (fun p => p.2) = X.S := h.fact k0m
  have c7 : W.cell? ⟨lb, 7, none⟩ = some (.map (some mb)) := (h.boxGet k1m).cellv 7 _ rfl
  have hM : MapIs W mb (P.map fun p => (p.2.num, p.1)) := h.mapGet k3m
  have hkeys : Tb.keys (P.map fun p => (p.2.num, p.1)) = X.S.map Se.num := by
    rw [← hP]; simp [Tb.keys, Function.comp_def]
  have HND : Keep ((Tb.keys (P.map fun p => (p.2.num, p.1))).Nodup) := ⟨by rw [hkeys]; exact ok.nd⟩
  have HND2 : Keep ((P.map fun p => p.2.num).Nodup) := ⟨by have := ok.nd; rw [← hP, List.map_map] at this; exact this⟩
  have HLN : Keep ((P.map fun p => (p.2.num, p.1)).length ≤ 32) := ⟨by
    have h1 := ok.le
    have h2 := ok.m2
    rw [← hP, List.length_map] at h1
    rw [List.length_map]; omega⟩
  have HP := Keep.mk hP
  have HOK := Keep.mk ok
  have HUP := Keep.mk up
  have HPF := Keep.mk hpf
  have HS := Keep.mk h
  have HM := Keep.mk hM
  have HBX : Keep (∀ p ∈ P, boxA p.1 (sev X.r X.u p.2) 109 ∈ lobL lb X (v, mb, P) ++ l) := ⟨fun p hp => List.mem_append_left _ (by
    unfold lobL
    simp only [List.mem_cons]
    exact .inr (.inr (.inr (.inr (List.mem_map.2 ⟨p, hp, rfl⟩)))))⟩
  obtain ⟨M, hMM⟩ : ∃ M, (P.map fun p => (p.2.num, p.1)) = M := ⟨_, rfl⟩
  have HMM := Keep.mk hMM
  rw [hMM] at HM HND HLN
  obtain ⟨r, hr⟩ : ∃ r, W.heap.size = r := ⟨_, rfl⟩
  clear h hP hM hkeys hMM ok up hpf
  go_enter Tryz.func45, Tryz.ntmps45
  go_wp2_with (first | (at_range; refine wpList_range_s _ rfl (.tmp 11) rfl mb M rfl HM.out HND.out ?_))
  intro w1 hrg g1 hs1
  have S1 := HS.out.iter g1 (by rw [hr]; exact hs1)
  rw [hr] at S1
  have HS1 := Keep.mk (S1.nilV 49 7).swap
  have HRG := Keep.mk hrg
  clear hrg g1 hs1 S1 HS HM c7 hr
  first | go_frame | go_wp2_with fail
  go_loopw [5, 7] (fun u5 _ wr => ∃ L G, Keep (Rng wr mb r M L) ∧ Keep (Sep w0 wr (iterA r :: rowV 49 7 u5 G.length (lvs G) :: (lobL lb X (v, mb, P) ++ l))) ∧ Keep (Got P q L G)) (fun _ _ wr => wr.rangeLeft mb r)
  case atStart => exact ⟨M, [], HRG, HS1, ⟨Got.start HMM.out HLN.out⟩⟩
  case round =>
    clear HRG HS1
    obtain ⟨L, G, hR, hS, hQ⟩ := hrel
    go_wp2_with (first | (at_next; refine wpList_next_s _ rfl (.tmp 12) rfl mb r M L rfl hR.out ?_ ?_))
    · intro hL
      have hso := sort_all w0 wr _ u5 G (by have := hQ.out.len; omega) hS.out.swap
      have HFS := Keep.mk (Got.done HP.out HUP.out (hL ▸ hQ.out))
      clear hL hR hS hQ
      go_wp2_with fail
      refine hso.mono ?_
      rintro e w3 ⟨rfl, L', hpm, hsd, S3⟩
      have e3 := HFS.out L' hpm hsd
      have hgl : G.length = (X.S.filter q).length := by rw [← e3]; exact hpm.length_eq.symm
      rw [e3, hgl] at S3
      have S4 : Sep w0 w3 (rowV 49 7 u5 (X.S.filter q).length (lvs (X.S.filter q)) :: lobA lb X :: l) := by
        have S5 := S3.swap.tail
        have S6 : Sep w0 w3 (lobL lb X (v, mb, P) ++ (rowV 49 7 u5 (X.S.filter q).length (lvs (X.S.filter q)) :: l)) := bk1 _ S5
        exact (Sep.cls (lobL lb X) (v, mb, P) S6).swap
      have HS4 := Keep.mk S4
      clear hso S3 S4 hpm hsd e3 hgl HFS
      go_wp2_with fail
      go_ret
      exact ⟨_, rfl, HS4.out⟩
    · intro k b w2 hkb hk hR2 hlt hg2 hs2 hen
      have S2 := hS.out.iterTurn hg2 hs2
      obtain ⟨p, hp, hpe⟩ : ∃ p ∈ P, (p.2.num, p.1) = (k, b) := by
        have := hR.out.sub _ hkb
        obtain ⟨A, C, hAC, _⟩ := Tb.look_split this
        have hm : (k, b) ∈ M := by rw [hAC]; simp
        rw [← HMM.out] at hm
        obtain ⟨p, hp, e⟩ := List.mem_map.1 hm
        exact ⟨p, hp, e⟩
      obtain ⟨pb, s⟩ := p
      simp only [Prod.mk.injEq] at hpe
      obtain ⟨hsk, rfl⟩ := hpe
      subst hsk
      have hsm : s ∈ X.S := by rw [← HP.out]; exact List.mem_map.2 ⟨_, hp, rfl⟩
      have hT := HPF.out w2 v mb P pb s S2.tail.tail hp hsm
      have HGT := Keep.mk (Got.step HND2.out hQ.out hp hkb)
      have HHS := Keep.mk (HOK.out.s s hsm)
      have HS2 := Keep.mk S2
      have HR2 := Keep.mk hR2
      have HLT := Keep.mk hlt
      have HPM := Keep.mk hp
      have HLG : Keep (G.length ≤ 64) := ⟨by have := hQ.out.len; omega⟩
      clear hR hS hQ hkb hR2 hlt hg2 hs2 S2 hp hsm
      go_wp2_with fail
      refine hT.mono ?_
      rintro e w3 ⟨rfl, g3⟩
      have S3 := HS2.out.grown g3
      obtain ⟨q1, q2⟩ := HR2.out.kept g3 nofun nofun
      have HR3 := Keep.mk q1
      have HL3 : Keep (w3.rangeLeft mb r < wr.rangeLeft mb r) := ⟨by rw [q2]; exact HLT.out⟩
      have HS3 := Keep.mk S3
      clear hT g3 q1 q2 S3 HS2 HR2 HLT
      by_cases hq : q s = true
      · rw [hq]
        have HG2 := Keep.mk (HGT.out.1 hq)
        have hTT := tell_g w3 pb X.r X.u s (HS3.out.boxGet (List.mem_cons_of_mem _ (List.mem_cons_of_mem _ (HBX.out _ HPM.out)))) HHS.out.2.2.2.2.2.2.2.2.2.2.2.2.1 HHS.out.2.2.2.2.2.2.2.2.2.2.2.2.2
        clear HGT hq
        go_wp2_with fail
        refine hTT.mono ?_
        rintro e w4 ⟨rfl, g4⟩
        have S4 := HS3.out.grown g4
        obtain ⟨q1, q2⟩ := HR3.out.kept g4 nofun nofun
        obtain ⟨g9, c9, w9, ap, g5, S9⟩ := Sep.app7 s S4.swap HLG.out
        obtain ⟨a1, a2⟩ := row_apart q1 (S4.rowGet k1m)
        obtain ⟨q3, q4⟩ := q1.kept g5 a1 a2
        have HR9 := Keep.mk q3
        have HL9 : Keep (w9.rangeLeft mb r < wr.rangeLeft mb r) := ⟨by rw [q4, q2]; exact HL3.out⟩
        have HS9 := Keep.mk S9.swap
        have AP := Keep.mk ap
        have HACL : Keep ((lvc s).length = 7) := ⟨rfl⟩
        obtain ⟨cs, hcs⟩ : ∃ cs, lvc s = cs := ⟨_, rfl⟩
        rw [hcs] at AP HACL
        generalize Value.slice (some ⟨g9, 0, none⟩) (G.length + 1) c9 = v9 at *
        rw [hcs]
        clear hTT g4 S4 q1 q2 ap g5 S9 a1 a2 q3 q4 hcs HR3 HL3 HS3 HLG
        go_wp2_with (first
          | (show wpList _ _ _ ({ dst := _, op := Op.buildSlice 43 _ _, type := _, pos := _, after := _, guard := _ } :: _) _ _
             refine wpList_bs_run rfl (.tmp 22) 43 rfl _ rfl (bs7_run _ cs HACL.out) ?_)
          | (at_builtin; refine wpList_append_run _ rfl (.tmp 20) (.tmp 23) 43 rfl _ _ rfl rfl AP.out ?_))
        exact ⟨⟨_, _, HR9, HS9, HG2⟩, HL9.out⟩
      · have hq' : q s = false := by simpa using hq
        rw [hq']
        have HG2 := Keep.mk (HGT.out.2 hq')
        clear HGT hq hq'
        go_wp2_with fail
        exact ⟨⟨_, _, HR3, HS3, HG2⟩, HL3.out⟩
end Go.Proofs.YtplcicbpkbamnabGreatDoor.Lo

