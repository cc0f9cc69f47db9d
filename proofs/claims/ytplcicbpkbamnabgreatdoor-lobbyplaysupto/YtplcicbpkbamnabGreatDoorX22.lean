import Derived.Test.YtplcicbpkbamnabGreatDoorX21
/- lobby: tell, Find. -/
namespace Go.Proofs.YtplcicbpkbamnabGreatDoor.Lo
open Go Go.RowKit Go.Maps

set_option maxRecDepth 100000 in
theorem z7_one : ∀ v ∈ z7, v.oneCell' = true := by
  intro v hv
  simp only [z7, List.mem_cons, List.not_mem_nil, or_false] at hv
  rcases hv with rfl | rfl | rfl | rfl | rfl | rfl | rfl <;> rfl
set_option maxRecDepth 100000 in
theorem sev_lv {r u : Int} {s : Se} {w : World} {b : Nat} (hh : Has w b (sev r u s) 109) : w.rangeAt b 0 (lvc s) := by
  intro j v hv
  have hj : j < 7 := (List.getElem?_eq_some_iff.1 hv).1
  rw [Nat.zero_add]
  refine hh.cellv j v ?_
  unfold sev
  rw [List.append_assoc, List.append_assoc, List.getElem?_append_left hj]
  exact hv
set_option maxRecDepth 100000 in
set_option maxHeartbeats 8000000 in
theorem tell_c (w0 W : World) (b : Nat) (r u : Int) (s : Se) (hole : List As) (hS : Sep w0 W (boxA b (sev r u s) 109 :: hole)) (hn : s.nm.size ≤ 281474976710656) (hf : s.fr.size ≤ 281474976710656) :
    Calls Tryz.prog 53 #[pt b] W fun e W' => e = .returned (.agg (lvc s).toArray) ∧ Sep w0 W' (boxA b (sev r u s) 109 :: hole) := by
  obtain ⟨du, hdu, hdr⟩ := under42
  have S1 := hS.newBox z7.toArray 49
  obtain ⟨W1, hW1⟩ : ∃ W1, W.alloc (.cells z7.toArray 49) = W1 := ⟨_, rfl⟩
  obtain ⟨rb, hrb⟩ : ∃ rb, W.heap.size = rb := ⟨_, rfl⟩
  rw [hW1, hrb] at S1
  change Sep w0 W1 (boxA rb z7 49 :: boxA b (sev r u s) 109 :: hole) at S1
  have RNG := Keep.mk (sev_lv (S1.boxGet k1m))
  have hL := live_c W1 s hn hf
  have HS1 := Keep.mk S1
  have HL1 := Keep.mk (lvc_one s)
  have HL7 : Keep ((lvc s).length = 7) := ⟨rfl⟩
  obtain ⟨lv, hlv⟩ : ∃ lv, lvc s = lv := ⟨_, rfl⟩
  rw [hlv] at RNG HL1 HL7 hL ⊢
  unfold z7 at hW1
  clear hS S1 hn hf hlv
  go_enter Tryz.func53, Tryz.ntmps53
  go_wp2_with (first
    | (show wpList _ _ _ ({ dst := _, op := Op.load 49 _, type := _, pos := _, after := _, guard := _ } :: _) _ _
       refine wpList_load_mid rfl 49 _ rfl _ _ rfl _ _ RNG.out hdu hdr (by rw [HL7.out]; exact info42) ?_))
  refine hL.mono ?_
  rintro e w2 ⟨rfl, g2⟩
  have HS2 := Keep.mk (HS1.out.grown g2)
  have HRB := Keep.mk (HS2.out.boxGet k0m)
  clear hL g2 HS1 RNG hW1 hrb
  go_wp2_with (first
    | (show wpList _ _ _ ({ dst := _, op := Op.store 49 _ _, type := _, pos := _, after := _, guard := _ } :: _) _ _
       refine store_box _ rb z7 lv 49 rfl rfl rfl rfl HRB.out (by rw [HL7.out]; rfl) (by rw [HL7.out]; exact info42) HL1.out ?_))
  intro w7 hS7 g7
  have HS7 := Keep.mk (hS7 _ _ HS2.out)
  clear hS7 g7 HRB HS2
  go_wp2_with fail
  exact ret_c rfl rfl (HS7.out.boxGet k0m) hdu hdr (by rw [HL7.out]; exact info42) rfl ⟨rfl, HS7.out.tail⟩
/-- what Find tells -/
def fndS (X : Lb) (k : Nat) (fr : ByteArray) : List Value × Int := match fds X k with
  | none => (z7, 122)
  | some s => if s.fr = fr then (lvc s, 0) else (z7, 123)
set_option maxRecDepth 100000 in
theorem str_nq {a b : ByteArray} (h : ¬ a = b) : (a.toList == b.toList) = false := by
  rw [beqL, decide_eq_false]
  exact fun e => h (Na.sl_inj e)
set_option maxRecDepth 100000 in
set_option maxHeartbeats 16000000 in
theorem fnd_c (w0 W : World) (l : List As) (lb : Nat) (X : Lb) (k : Nat) (fr : ByteArray) (h : Sep w0 W (lobA lb X :: l)) (ok : LbOk X) (hk : k < 18446744073709551616) :
    Calls Tryz.prog 40 #[pt lb, uv k, .string fr] W fun e W' => e = .returned (.tuple #[.agg (fndS X k fr).1.toArray, iv (fndS X k fr).2]) ∧ Sep w0 W' (lobA lb X :: l) := by
  obtain ⟨du, hdu, hdr⟩ := under42
  have S0 := h.newBox z7.toArray 49
  obtain ⟨W1, hW1⟩ : ∃ W1, W.alloc (.cells z7.toArray 49) = W1 := ⟨_, rfl⟩
  obtain ⟨rb, hrb⟩ : ∃ rb, W.heap.size = rb := ⟨_, rfl⟩
  rw [hW1, hrb] at S0
  change Sep w0 W1 (boxA rb z7 49 :: lobA lb X :: l) at S0
  have HS0 := Keep.mk S0
  have HRB := Keep.mk (S0.boxGet k0m)
  have HZ1 := Keep.mk z7_one
  obtain ⟨zv, hzv⟩ : ∃ zv, z7.toArray = zv := ⟨_, rfl⟩
  obtain ⟨mb, c7, hc⟩ := lob_at S0.swap ok k hk
  rcases hc with ⟨hf, hlk⟩ | ⟨b, s, hole, hf, hm, hn, hlk, hS, hB⟩
  · have HR : Keep (fndS X k fr = (z7, 122)) := ⟨by unfold fndS; rw [hf]⟩
    unfold z7 at hW1
    clear h hf ok S0 hzv
    go_enter Tryz.func40, Tryz.ntmps40
    go_wp2_with (first
      | (show wpList _ _ _ ({ dst := _, op := Op.store 49 _ _, type := _, pos := _, after := _, guard := _ } :: _) _ _
         refine store_box _ rb z7 z7 49 rfl rfl rfl rfl HRB.out rfl (by exact info42) HZ1.out ?_))
    intro w7 hS7 g7
    have HS7 := Keep.mk (hS7 _ _ HS0.out)
    clear hS7 g7 HRB HS0
    go_wp2_with fail
    refine Bu.ret_ct rfl rfl (HS7.out.boxGet k0m) hdu hdr (by exact info42) rfl ?_
    rw [HR.out]
    exact ⟨rfl, HS7.out.tail⟩
  · obtain ⟨_, _, _, _, _, _, _, _, _, _, _, _, hz1, hz2⟩ := ok.s s hm
    have d3 : W1.cell? ⟨b, 3, none⟩ = some (.string s.fr) := (hS.boxGet k0m).cellv 3 _ rfl
    have hT := tell_c w0 W1 b X.r X.u s hole hS hz1 hz2
    have hup : upd X k s = X := by
      unfold upd
      have e : (X.S.map fun z => if z.num = k then s else z) = X.S := by
        conv => rhs; rw [← List.map_id X.S]
        refine List.map_congr_left fun z hz => ?_
        by_cases q : z.num = k
        · rw [if_pos q]
          have hnd := ok.nd
          obtain ⟨i, hi, e1⟩ := List.getElem_of_mem hz
          obtain ⟨j, hj, e2⟩ := List.getElem_of_mem hm
          have e3 : (X.S.map Se.num)[i]'(by simpa using hi) = (X.S.map Se.num)[j]'(by simpa using hj) := by simp [e1, e2, q, hn]
          have e4 : i = j := (List.getElem_inj hnd).1 e3
          subst e4
          rw [← e1, ← e2]; rfl
        · rw [if_neg q]; rfl
      rw [e]
    have HB : Keep (∀ W', Sep w0 W' (boxA b (sev X.r X.u s) 109 :: hole) → Sep w0 W' (boxA rb z7 49 :: lobA lb X :: l)) := ⟨fun W' hh => by
      have := hB W' s hn hh
      rw [hup] at this
      exact this.swap⟩
    by_cases hfr : s.fr = fr
    · have HR : Keep (fndS X k fr = (lvc s, 0)) := ⟨by unfold fndS; rw [hf]; simp [hfr]⟩
      have HL1 := Keep.mk (lvc_one s)
      have HL7 : Keep ((lvc s).length = 7) := ⟨rfl⟩
      rw [hfr] at d3
      unfold z7 at hW1
      obtain ⟨lv, hlv⟩ : ∃ lv, lvc s = lv := ⟨_, rfl⟩
      rw [hlv] at HR HL1 HL7 hT
      clear h hf ok S0 hzv hS hB hup hm hn hz1 hz2 hfr hlv HRB
      go_enter Tryz.func40, Tryz.ntmps40
      go_wp2_with fail
      refine hT.mono ?_
      rintro e w2 ⟨rfl, S2⟩
      have HS2 := Keep.mk (HB.out w2 S2)
      have HRB := Keep.mk (HS2.out.boxGet k0m)
      clear hT S2 HB
      go_wp2_with (first
        | (show wpList _ _ _ ({ dst := _, op := Op.store 49 _ _, type := _, pos := _, after := _, guard := _ } :: _) _ _
           refine store_box _ rb z7 lv 49 rfl rfl rfl rfl HRB.out (by rw [HL7.out]; rfl) (by rw [HL7.out]; exact info42) HL1.out ?_))
      intro w7 hS7 g7
      have HS7 := Keep.mk (hS7 _ _ HS2.out)
      clear hS7 g7 HRB HS2
      go_wp2_with fail
      refine Bu.ret_ct rfl rfl (HS7.out.boxGet k0m) hdu hdr (by rw [HL7.out]; exact info42) rfl ?_
      rw [HR.out]
      exact ⟨rfl, HS7.out.tail⟩
    · have HR : Keep (fndS X k fr = (z7, 123)) := ⟨by unfold fndS; rw [hf]; simp [hfr]⟩
      have hnq := str_nq hfr
      unfold z7 at hW1
      clear h hf ok S0 hzv hS hB hup hm hn hz1 hz2 hfr hT HB
      go_enter Tryz.func40, Tryz.ntmps40
      go_wp2_with (first
        | (show wpList _ _ _ ({ dst := _, op := Op.store 49 _ _, type := _, pos := _, after := _, guard := _ } :: _) _ _
           refine store_box _ rb z7 z7 49 rfl rfl rfl rfl HRB.out rfl (by exact info42) HZ1.out ?_))
      intro w7 hS7 g7
      have HS7 := Keep.mk (hS7 _ _ HS0.out)
      clear hS7 g7 HRB HS0
      go_wp2_with fail
      refine Bu.ret_ct rfl rfl (HS7.out.boxGet k0m) hdu hdr (by exact info42) rfl ?_
      rw [HR.out]
      exact ⟨rfl, HS7.out.tail⟩
end Go.Proofs.YtplcicbpkbamnabGreatDoor.Lo

/- lobby: Leave. -/
namespace Go.Proofs.YtplcicbpkbamnabGreatDoor.Lo
open Go Go.RowKit Go.Maps

/-- a session is gone -/
def del (X : Lb) (k : Nat) : Lb := { X with S := X.S.filter fun s => decide (s.num ≠ k) }
set_option maxRecDepth 100000 in
theorem filter_same {S1 : List Se} {k : Nat} (h : k ∉ S1.map Se.num) : (S1.filter fun s => decide (s.num ≠ k)) = S1 := by
  refine List.filter_eq_self.2 fun s hs => ?_
  simp only [decide_eq_true_eq]
  exact fun e => h (e ▸ List.mem_map_of_mem hs)
set_option maxRecDepth 100000 in
theorem lob_del {w0 W : World} {l : List As} {lb : Nat} {X : Lb} (h : Sep w0 W (lobA lb X :: l)) (ok : LbOk X) (k : Nat) (hk : k < 18446744073709551616) {s0 : Se} (hf : fds X k = some s0) :
    ∃ mb b W', W.cell? ⟨lb, 7, none⟩ = some (.map (some mb)) ∧ (Instr.lookup 68 (.map (some mb)) (uv k) true).run Tryz.prog W = .ok (.tuple #[pt b, .bool true]) W ∧ (Builtin.delete_ #[68, 38] 0 #[.map (some mb), uv k]).run Tryz.prog W = .ok (.tuple #[]) W' ∧
      Sep w0 W' (boxA b (sev X.r X.u s0) 109 :: lobA lb (del X k) :: l) := by
  obtain ⟨⟨v, mb, P⟩, h⟩ := h.opn
  have hP : P.map (fun p => p.2) = X.S := h.fact k0m
  have c7 : W.cell? ⟨lb, 7, none⟩ = some (.map (some mb)) := (h.boxGet k1m).cellv 7 _ rfl
  have hl := (h.mapGet k3m).look k hk
  have hkeys : Tb.keys (P.map fun p => (p.2.num, p.1)) = X.S.map Se.num := by
    rw [← hP]; simp [Tb.keys, Function.comp_def]
  have hndM : (Tb.keys (P.map fun p => (p.2.num, p.1))).Nodup := by rw [hkeys]; exact ok.nd
  cases hq : Tb.look (P.map fun p => (p.2.num, p.1)) k with
  | none =>
    have hn := Tb.look_none.1 hq
    rw [hkeys] at hn
    have hm := List.mem_of_find?_eq_some hf
    have hs := List.find?_some hf
    simp only [decide_eq_true_eq] at hs
    exact absurd (hs ▸ List.mem_map_of_mem hm) hn
  | some b =>
    obtain ⟨W', hdr, hS'⟩ := (fr1 [_, _, _] h).mapDrop k hk 0 hndM b hq
    obtain ⟨A, C, hM, hA⟩ := Tb.look_split hq
    obtain ⟨P1, P2', rfl, hP1, hP2⟩ := List.map_eq_append_iff.1 hM
    obtain ⟨p, P2, rfl, hp, hP2⟩ := List.map_eq_cons_iff.1 hP2
    obtain ⟨pb, s⟩ := p
    simp only [Prod.mk.injEq] at hp
    obtain ⟨hs, rfl⟩ := hp
    have hS : X.S = P1.map (fun p => p.2) ++ s :: P2.map (fun p => p.2) := by rw [← hP]; simp
    have hnd := ok.nd
    rw [hS, List.map_append, List.map_cons] at hnd
    obtain ⟨n1, n2, n3⟩ := List.nodup_append.1 hnd
    obtain ⟨n4, n5⟩ := List.nodup_cons.1 n2
    have hk1 : k ∉ (P1.map (fun p => p.2)).map Se.num := fun q => n3 k q k (by rw [hs]; exact List.mem_cons_self ..) rfl
    have hk2 : k ∉ (P2.map (fun p => p.2)).map Se.num := by rw [← hs]; exact n4
    have e0 : s0 = s := by
      unfold fds at hf
      rw [hS, List.find?_append, List.find?_cons] at hf
      have e1 : (P1.map (fun p => p.2)).find? (fun s => decide (s.num = k)) = none := by
        rw [List.find?_eq_none]
        intro z hz
        simp only [decide_eq_true_eq]
        exact fun e => hk1 (e ▸ List.mem_map_of_mem hz)
      rw [e1, hs] at hf
      simpa using hf.symm
    subst e0
    have hrm : Tb.rm ((P1 ++ (pb, s0) :: P2).map fun p => (p.2.num, p.1)) k = (P1 ++ P2).map fun p => (p.2.num, p.1) := by
      rw [List.map_append, List.map_cons, List.map_append]
      simp only [hs]
      refine Tb.rm_mid ?_ ?_
      · simpa [Tb.keys, Function.comp_def] using hk1
      · simpa [Tb.keys, Function.comp_def] using hk2
    simp only at hl
    rw [hq] at hl
    refine ⟨mb, pb, W', c7, hl, hdr, ?_⟩
    rw [hrm] at hS'
    have hU : (P1 ++ P2).map (fun p => p.2) = (del X k).S := by
      simp only [del, hS, List.filter_append, List.filter_cons]
      rw [filter_same hk1, filter_same hk2]
      simp [hs]
    have h2 : Sep w0 W' (([mapA mb ((P1 ++ P2).map fun p => (p.2.num, p.1)), boxA lb [iv (X.most : Nat), uv X.idle, iv X.r, iv X.u, iv (16 * X.u), v, uv X.next, .map (some mb)] 70, rowV 104 33 v X.A.length (acs X.A)] ++ (P1.map fun p => boxA p.1 (sev X.r X.u p.2) 109)) ++ boxA pb (sev X.r X.u s0) 109 :: ((P2.map fun p => boxA p.1 (sev X.r X.u p.2) 109) ++ l)) := by
      have h1 := (fr1 [_] hS').tail
      refine h1.perm (List.Perm.of_eq ?_)
      simp
    have h3 := fr1 _ h2
    have h5 : Sep w0 W' (boxA pb (sev X.r X.u s0) 109 :: ((mapA mb ((P1 ++ P2).map fun p => (p.2.num, p.1)) :: boxA lb [iv (X.most : Nat), uv X.idle, iv X.r, iv X.u, iv (16 * X.u), v, uv X.next, .map (some mb)] 70 :: rowV 104 33 v X.A.length (acs X.A) :: ((P1 ++ P2).map fun p => boxA p.1 (sev X.r X.u p.2) 109)) ++ l)) := by
      refine h3.perm (List.Perm.of_eq ?_)
      simp
    have h6 := bk1 _ h5
    have h7 := h6.perm ((List.perm_append_comm (l₁ := [mapA mb ((P1 ++ P2).map fun p => (p.2.num, p.1))]) (l₂ := [boxA lb [iv (X.most : Nat), uv X.idle, iv X.r, iv X.u, iv (16 * X.u), v, uv X.next, .map (some mb)] 70, rowV 104 33 v X.A.length (acs X.A)])).append_right _)
    exact Sep.swap (Sep.cls (lobL lb (del X k)) (v, mb, P1 ++ P2) (h7.know hU))
/-- what Leave tells -/
def levS (X : Lb) (k : Nat) : List Value × Int := ((fds X k).map fun s => (lvc s, (0 : Int))).getD (z7, 122)
def levX (X : Lb) (k : Nat) : Lb := ((fds X k).map fun _ => del X k).getD X
set_option maxRecDepth 100000 in
set_option maxHeartbeats 16000000 in
theorem leave_c (w0 W : World) (l : List As) (lb : Nat) (X : Lb) (k : Nat) (h : Sep w0 W (lobA lb X :: l)) (ok : LbOk X) (hk : k < 18446744073709551616) :
    Calls Tryz.prog 33 #[pt lb, uv k] W fun e W' => e = .returned (.tuple #[.agg (levS X k).1.toArray, iv (levS X k).2]) ∧ Sep w0 W' (lobA lb (levX X k) :: l) := by
  obtain ⟨du, hdu, hdr⟩ := under42
  have S0 := h.newBox z7.toArray 49
  obtain ⟨W1, hW1⟩ : ∃ W1, W.alloc (.cells z7.toArray 49) = W1 := ⟨_, rfl⟩
  obtain ⟨rb, hrb⟩ : ∃ rb, W.heap.size = rb := ⟨_, rfl⟩
  rw [hW1, hrb] at S0
  change Sep w0 W1 (boxA rb z7 49 :: lobA lb X :: l) at S0
  have HZ1 := Keep.mk z7_one
  cases hf : fds X k with
  | none =>
    obtain ⟨mb, c7, hc⟩ := lob_at S0.swap ok k hk
    rcases hc with ⟨_, hlk⟩ | ⟨b, s, hole, hf2, _⟩
    · have HR : Keep (levS X k = (z7, 122) ∧ levX X k = X) := ⟨by unfold levS; rw [hf]; rfl, by unfold levX; rw [hf]; rfl⟩
      have HS0 := Keep.mk S0
      have HRB := Keep.mk (S0.boxGet k0m)
      unfold z7 at hW1
      clear h hf ok S0
      go_enter Tryz.func33, Tryz.ntmps33
      go_wp2_with (first
        | (show wpList _ _ _ ({ dst := _, op := Op.store 49 _ _, type := _, pos := _, after := _, guard := _ } :: _) _ _
           refine store_box _ rb z7 z7 49 rfl rfl rfl rfl HRB.out rfl (by exact info42) HZ1.out ?_))
      intro w7 hS7 g7
      have HS7 := Keep.mk (hS7 _ _ HS0.out)
      clear hS7 g7 HRB HS0
      go_wp2_with fail
      refine Bu.ret_ct rfl rfl (HS7.out.boxGet k0m) hdu hdr (by exact info42) rfl ?_
      rw [HR.out.1, HR.out.2]
      exact ⟨rfl, HS7.out.tail⟩
    · rw [hf] at hf2; cases hf2
  | some s =>
    have HR : Keep (levS X k = (lvc s, 0) ∧ levX X k = del X k) := ⟨by unfold levS; rw [hf]; rfl, by unfold levX; rw [hf]; rfl⟩
    obtain ⟨mb, b, W2, c7, hlk, hdl, S2⟩ := lob_del S0.swap ok k hk hf
    obtain ⟨_, _, _, _, _, _, _, _, _, _, _, _, hz1, hz2⟩ := ok.s s (List.mem_of_find?_eq_some hf)
    have hT := tell_c w0 W2 b X.r X.u s _ S2 hz1 hz2
    have HL1 := Keep.mk (lvc_one s)
    have HL7 : Keep ((lvc s).length = 7) := ⟨rfl⟩
    obtain ⟨lv, hlv⟩ : ∃ lv, lvc s = lv := ⟨_, rfl⟩
    rw [hlv] at HR HL1 HL7 hT
    unfold z7 at hW1
    clear h hf ok S0 S2 hz1 hz2 hlv
    go_enter Tryz.func33, Tryz.ntmps33
    go_wp2_with fail
    refine hT.mono ?_
    rintro e w3 ⟨rfl, S3⟩
    have HS3 := Keep.mk (S3.tail.swap)
    have HRB := Keep.mk (HS3.out.boxGet k0m)
    clear hT S3 hdl hlk c7
    go_wp2_with (first
      | (show wpList _ _ _ ({ dst := _, op := Op.store 49 _ _, type := _, pos := _, after := _, guard := _ } :: _) _ _
         refine store_box _ rb z7 lv 49 rfl rfl rfl rfl HRB.out (by rw [HL7.out]; rfl) (by rw [HL7.out]; exact info42) HL1.out ?_))
    intro w7 hS7 g7
    have HS7 := Keep.mk (hS7 _ _ HS3.out)
    clear hS7 g7 HRB HS3
    go_wp2_with fail
    refine Bu.ret_ct rfl rfl (HS7.out.boxGet k0m) hdu hdr (by rw [HL7.out]; exact info42) rfl ?_
    rw [HR.out.1, HR.out.2]
    exact ⟨rfl, HS7.out.tail⟩
end Go.Proofs.YtplcicbpkbamnabGreatDoor.Lo

/- lobby: what is known of a lobby stays so. -/
namespace Go.Proofs.YtplcicbpkbamnabGreatDoor.Lo
open Go Go.RowKit Go.Maps

set_option maxRecDepth 100000 in
theorem nums_upd {S1 : List Se} {k : Nat} {s' : Se} (hn : s'.num = k) : (S1.map fun s => if s.num = k then s' else s).map Se.num = S1.map Se.num := by
  rw [List.map_map]
  refine List.map_congr_left fun s _ => ?_
  simp only [Function.comp]
  split
  · rename_i e; rw [hn, e]
  · rfl
set_option maxRecDepth 100000 in
theorem LbOk.upd {X : Lb} {k : Nat} {s' : Se} (ok : LbOk X) (hn : s'.num = k) (hb : 1 ≤ s'.num ∧ s'.num < X.next ∧ s'.pl < X.most ∧ s'.key.length = 32 ∧ s'.acc < X.A.length ∧ s'.heard < 18446744073709551616 ∧ s'.high < 18446744073709551616 ∧ s'.sent < 18446744073709551616 ∧ s'.wh < 18446744073709551616 ∧ s'.wb < 18446744073709551616 ∧ 0 ≤ s'.y ∧ s'.y ≤ 16 * X.u ∧ s'.nm.size ≤ 281474976710656 ∧ s'.fr.size ≤ 281474976710656) : LbOk (upd X k s') := by
  refine ⟨ok.m1, ok.m2, ok.r, ok.a1, ok.a2, ok.n1, ok.n2, ?_, fun z hz => ?_, ?_⟩
  · show ((X.S.map fun s => if s.num = k then s' else s).map Se.num).Nodup
    rw [nums_upd hn]; exact ok.nd
  · obtain ⟨z0, hz0, e⟩ := List.mem_map.1 hz
    by_cases q : z0.num = k
    · rw [if_pos q] at e
      subst e
      exact hb
    · rw [if_neg q] at e
      subst e
      exact ok.s z0 hz0
  · show (X.S.map fun s => if s.num = k then s' else s).length ≤ X.most
    rw [List.length_map]; exact ok.le
set_option maxRecDepth 100000 in
theorem LbOk.del {X : Lb} {k : Nat} (ok : LbOk X) : LbOk (del X k) := by
  refine ⟨ok.m1, ok.m2, ok.r, ok.a1, ok.a2, ok.n1, ok.n2, ?_, fun z hz => ok.s z (List.mem_filter.1 hz).1, Nat.le_trans (List.length_filter_le ..) ok.le⟩
  exact ((List.filter_sublist (l := X.S)).map Se.num).nodup ok.nd
set_option maxRecDepth 100000 in
theorem fds_num {X : Lb} {k : Nat} {s : Se} (h : fds X k = some s) : s ∈ X.S ∧ s.num = k := by
  have := List.find?_some h
  simp only [decide_eq_true_eq] at this
  exact ⟨List.mem_of_find?_eq_some h, this⟩
set_option maxRecDepth 100000 in
theorem LbOk.sent {X : Lb} {k : Nat} (ok : LbOk X) : LbOk (sntX X k) := by
  unfold sntX
  cases hf : fds X k with
  | none => exact ok
  | some s =>
    obtain ⟨hm, hn⟩ := fds_num hf
    obtain ⟨b1, b2, b3, b4, b5, b6, b7, b8, b9, b10, b11, b12, b13, b14⟩ := ok.s s hm
    exact ok.upd (s' := snt s) hn ⟨b1, b2, b3, b4, b5, b6, b7, Nat.mod_lt _ (by omega), b9, b10, b11, b12, b13, b14⟩
set_option maxRecDepth 100000 in
theorem LbOk.leave {X : Lb} {k : Nat} (ok : LbOk X) : LbOk (levX X k) := by
  unfold levX
  cases hf : fds X k with
  | none => exact ok
  | some s => exact ok.del
set_option maxRecDepth 100000 in
theorem LbOk.acp {X : Lb} {k q tick : Nat} {cmd : Bool} (ok : LbOk X) (hq : q < 18446744073709551616) (ht : tick < 18446744073709551616) : LbOk (acpX X k q cmd tick) := by
  unfold acpX
  cases hf : fds X k with
  | none => exact ok
  | some s =>
    obtain ⟨hm, hn⟩ := fds_num hf
    obtain ⟨b1, b2, b3, b4, b5, b6, b7, b8, b9, b10, b11, b12, b13, b14⟩ := ok.s s hm
    show LbOk (Lo.upd X k (accE s q cmd tick))
    unfold accE
    by_cases hc : accC s q cmd = 0
    · rw [if_pos hc]
      refine ok.upd (s' := acc s q cmd tick) hn ⟨b1, b2, b3, b4, b5, ht, Wi.mkH_lt b9 hq, b8, Wi.mkH_lt b9 hq, Wi.mkB_lt b10, ?_, ?_, b13, b14⟩
      · show 0 ≤ (if cmd = true then s.y - 16 else s.y)
        by_cases e : cmd = true
        · rw [if_pos e]
          have h16 : ¬ s.y < 16 := fun z => by
            unfold accC at hc
            split at hc
            · omega
            · rw [if_pos ⟨e, z⟩] at hc
              omega
          omega
        · rw [if_neg e]; exact b11
      · show (if cmd = true then s.y - 16 else s.y) ≤ 16 * X.u
        by_cases e : cmd = true
        · rw [if_pos e]; omega
        · rw [if_neg e]; exact b12
    · rw [if_neg hc]
      exact ok.upd (s' := s) hn ⟨b1, b2, b3, b4, b5, b6, b7, b8, b9, b10, b11, b12, b13, b14⟩
end Go.Proofs.YtplcicbpkbamnabGreatDoor.Lo

