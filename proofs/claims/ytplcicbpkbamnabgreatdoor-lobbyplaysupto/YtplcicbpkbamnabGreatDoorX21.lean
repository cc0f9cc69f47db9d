import Derived.Test.YtplcicbpkbamnabGreatDoorX20
/- lobby: a session is looked for; Next, Key, Check, Token, Sent. -/
namespace Go.Proofs.YtplcicbpkbamnabGreatDoor.Lo
open Go Go.RowKit Go.Maps

/-- the session of a number -/
def fds (X : Lb) (k : Nat) : Option Se := X.S.find? fun s => decide (s.num = k)
/-- a session is another -/
def upd (X : Lb) (k : Nat) (s' : Se) : Lb := { X with S := X.S.map fun s => if s.num = k then s' else s }
set_option maxRecDepth 100000 in
theorem map_same {S1 : List Se} {k : Nat} {s' : Se} (h : k ∉ S1.map Se.num) : (S1.map fun s => if s.num = k then s' else s) = S1 := by
  conv => rhs; rw [← List.map_id S1]
  refine List.map_congr_left fun s hs => ?_
  have e : ¬ s.num = k := fun e => h (e ▸ List.mem_map_of_mem hs)
  rw [if_neg e]; rfl
set_option maxRecDepth 100000 in
theorem lob_at {w0 W : World} {l : List As} {lb : Nat} {X : Lb} (h : Sep w0 W (lobA lb X :: l)) (ok : LbOk X) (k : Nat) (hk : k < 18446744073709551616) :
    ∃ mb, W.cell? ⟨lb, 7, none⟩ = some (.map (some mb)) ∧ ((fds X k = none ∧ (Instr.lookup 68 (.map (some mb)) (uv k) true).run Tryz.prog W = .ok (.tuple #[np, .bool false]) W) ∨
      ∃ b s hole, fds X k = some s ∧ s ∈ X.S ∧ s.num = k ∧ (Instr.lookup 68 (.map (some mb)) (uv k) true).run Tryz.prog W = .ok (.tuple #[pt b, .bool true]) W ∧ Sep w0 W (boxA b (sev X.r X.u s) 109 :: hole) ∧
        ∀ W' s', s'.num = k → Sep w0 W' (boxA b (sev X.r X.u s') 109 :: hole) → Sep w0 W' (lobA lb (upd X k s') :: l)) := by
  obtain ⟨⟨v, mb, P⟩, h⟩ := h.opn
  have hP : P.map (fun p => p.2) = X.S := h.fact k0m
  have c7 : W.cell? ⟨lb, 7, none⟩ = some (.map (some mb)) := (h.boxGet k1m).cellv 7 _ rfl
  have hl := (h.mapGet k3m).look k hk
  refine ⟨mb, c7, ?_⟩
  have hkeys : Tb.keys (P.map fun p => (p.2.num, p.1)) = X.S.map Se.num := by
    rw [← hP]; simp [Tb.keys, Function.comp_def]
  cases hq : Tb.look (P.map fun p => (p.2.num, p.1)) k with
  | none =>
    left
    have hn := Tb.look_none.1 hq
    rw [hkeys] at hn
    refine ⟨?_, ?_⟩
    · unfold fds
      rw [List.find?_eq_none]
      intro s hs
      simp only [decide_eq_true_eq]
      exact fun e => hn (e ▸ List.mem_map_of_mem hs)
    · simp only at hl
      rw [hq] at hl
      exact hl
  | some b =>
    right
    obtain ⟨A, C, hM, hA⟩ := Tb.look_split hq
    obtain ⟨P1, P2', rfl, hP1, hP2⟩ := List.map_eq_append_iff.1 hM
    obtain ⟨p, P2, rfl, hp, hP2⟩ := List.map_eq_cons_iff.1 hP2
    obtain ⟨pb, s⟩ := p
    simp only [Prod.mk.injEq] at hp
    obtain ⟨hs, rfl⟩ := hp
    have hS : X.S = P1.map (fun p => p.2) ++ s :: P2.map (fun p => p.2) := by rw [← hP]; simp
    have hnd := ok.nd
    rw [hS, List.map_append, List.map_cons] at hnd
    obtain ⟨n1, n2, n3⟩ := List.nodup_append.1 hnd
    obtain ⟨n4, n5⟩ := List.nodup_cons.1 n2
    have hk1 : k ∉ (P1.map (fun p => p.2)).map Se.num := fun q => n3 k q k (by rw [hs]; exact List.mem_cons_self ..) rfl
    have hk2 : k ∉ (P2.map (fun p => p.2)).map Se.num := by rw [← hs]; exact n4
    simp only at hl
    rw [hq] at hl
    refine ⟨pb, s, boxA lb [iv (X.most : Nat), uv X.idle, iv X.r, iv X.u, iv (16 * X.u), v, uv X.next, .map (some mb)] 70 :: rowV 104 33 v X.A.length (acs X.A) :: mapA mb (P1.map (fun p => (p.2.num, p.1)) ++ (k, pb) :: P2.map (fun p => (p.2.num, p.1))) :: ((P1.map fun p => boxA p.1 (sev X.r X.u p.2) 109) ++ ((P2.map fun p => boxA p.1 (sev X.r X.u p.2) 109) ++ l)), ?_, by rw [hS]; simp, hs, hl, ?_, ?_⟩
    · unfold fds
      rw [hS, List.find?_append, List.find?_cons]
      have e1 : (P1.map (fun p => p.2)).find? (fun s => decide (s.num = k)) = none := by
        rw [List.find?_eq_none]
        intro z hz
        simp only [decide_eq_true_eq]
        exact fun e => hk1 (e ▸ List.mem_map_of_mem hz)
      rw [e1, hs]
      simp
    · have h1 := h.tail
      simp only [List.map_append, List.map_cons, hs] at h1
      have e : (boxA lb [iv (X.most : Nat), uv X.idle, iv X.r, iv X.u, iv (16 * X.u), v, uv X.next, .map (some mb)] 70 :: rowV 104 33 v X.A.length (acs X.A) :: mapA mb (P1.map (fun p => (p.2.num, p.1)) ++ (k, pb) :: P2.map (fun p => (p.2.num, p.1))) :: ((P1.map fun p => boxA p.1 (sev X.r X.u p.2) 109) ++ boxA pb (sev X.r X.u s) 109 :: (P2.map fun p => boxA p.1 (sev X.r X.u p.2) 109))) ++ l = ([boxA lb [iv (X.most : Nat), uv X.idle, iv X.r, iv X.u, iv (16 * X.u), v, uv X.next, .map (some mb)] 70, rowV 104 33 v X.A.length (acs X.A), mapA mb (P1.map (fun p => (p.2.num, p.1)) ++ (k, pb) :: P2.map (fun p => (p.2.num, p.1)))] ++ (P1.map fun p => boxA p.1 (sev X.r X.u p.2) 109)) ++ boxA pb (sev X.r X.u s) 109 :: ((P2.map fun p => boxA p.1 (sev X.r X.u p.2) 109) ++ l) := by simp
      have h2 : Sep w0 W (([boxA lb [iv (X.most : Nat), uv X.idle, iv X.r, iv X.u, iv (16 * X.u), v, uv X.next, .map (some mb)] 70, rowV 104 33 v X.A.length (acs X.A), mapA mb (P1.map (fun p => (p.2.num, p.1)) ++ (k, pb) :: P2.map (fun p => (p.2.num, p.1)))] ++ (P1.map fun p => boxA p.1 (sev X.r X.u p.2) 109)) ++ boxA pb (sev X.r X.u s) 109 :: ((P2.map fun p => boxA p.1 (sev X.r X.u p.2) 109) ++ l)) := by
        rw [← e]
        refine h1.perm (List.Perm.of_eq ?_)
        simp
      have h3 := fr1 _ h2
      simpa using h3
    · intro W' s' hs' hS'
      have h3 : Sep w0 W' (boxA pb (sev X.r X.u s') 109 :: (([boxA lb [iv (X.most : Nat), uv X.idle, iv X.r, iv X.u, iv (16 * X.u), v, uv X.next, .map (some mb)] 70, rowV 104 33 v X.A.length (acs X.A), mapA mb (P1.map (fun p => (p.2.num, p.1)) ++ (k, pb) :: P2.map (fun p => (p.2.num, p.1)))] ++ (P1.map fun p => boxA p.1 (sev X.r X.u p.2) 109)) ++ ((P2.map fun p => boxA p.1 (sev X.r X.u p.2) 109) ++ l))) := by simpa using hS'
      have h4 := bk1 _ h3
      refine Sep.cls (lobL lb (upd X k s')) (v, mb, P1 ++ (pb, s') :: P2) ?_
      have hU : (P1 ++ (pb, s') :: P2).map (fun p => p.2) = (upd X k s').S := by
        simp only [upd, hS, List.map_append, List.map_cons]
        rw [map_same hk1, map_same hk2, if_pos hs]
      have h5 := h4.know hU
      refine h5.perm (List.Perm.of_eq ?_)
      simp [lobL, upd, hs']
set_option maxRecDepth 100000 in
set_option maxHeartbeats 2000000 in
theorem next_c (w0 W : World) (l : List As) (lb : Nat) (X : Lb) (h : Sep w0 W (lobA lb X :: l)) : Calls Tryz.prog 11 #[pt lb] W fun e W' => e = .returned (uv X.next) ∧ W' = W := by
  obtain ⟨⟨v, mb, P⟩, h⟩ := h.opn
  have c6 : W.cell? ⟨lb, 6, none⟩ = some (uv X.next) := (h.boxGet k1m).cellv 6 _ rfl
  clear h
  go_enter Tryz.func11, Tryz.ntmps11
  go_wp2_with fail
  go_ret
  exact ⟨rfl, rfl⟩
set_option maxRecDepth 100000 in
theorem sev_len {r u : Int} {s : Se} (h : s.key.length = 32) : (sev r u s).length = 45 := by simp [sev, lvc, h]
set_option maxRecDepth 100000 in
theorem sev_get {r u : Int} {s : Se} (h : s.key.length = 32) (j : Nat) (v : Value) (hv : [uv s.wh, uv s.wb, iv r, iv u, iv s.y][j]? = some v) : (sev r u s)[40 + j]? = some v := by
  unfold sev
  rw [List.getElem?_append_right (by simp [lvc, h])]
  simp only [lvc, List.length_append, List.length_map, List.length_cons, List.length_nil, h]
  rw [show 40 + j - (0 + 1 + 1 + 1 + 1 + 1 + 1 + 1 + (0 + 1) + 32) = j by omega]
  exact hv
set_option maxRecDepth 100000 in
theorem sev_key {r u : Int} {s : Se} (h : s.key.length = 32) {w : World} {b : Nat} (hh : Has w b (sev r u s) 109) : w.rangeAt b 8 (s.key.map b8) := by
  intro j v hv
  have hj : j < 32 := by have := (List.getElem?_eq_some_iff.1 hv).1; rw [List.length_map, h] at this; exact this
  refine hh.cellv (8 + j) v ?_
  unfold sev
  rw [List.getElem?_append_left (by simp [lvc, h]; omega), List.getElem?_append_right (by simp [lvc])]
  simp only [lvc, List.length_append, List.length_cons, List.length_nil]
  rw [show 8 + j - (0 + 1 + 1 + 1 + 1 + 1 + 1 + 1 + (0 + 1)) = j by omega]
  exact hv
/-- what Key, Check, Token tell -/
def keyS (X : Lb) (k : Nat) : ByteArray := ((fds X k).map fun s => txt s.key).getD ⟨#[]⟩
def chkS (X : Lb) (k q : Nat) : Int := ((fds X k).map fun s => ((Wi.chk s.wh s.wb q : Nat) : Int)).getD 122
def tokS (X : Lb) (k : Nat) : Bool := ((fds X k).map fun s => decide (0 < s.y / 16)).getD false
set_option maxRecDepth 100000 in
set_option maxHeartbeats 8000000 in
theorem key_c (w0 W : World) (l : List As) (lb : Nat) (X : Lb) (k : Nat) (h : Sep w0 W (lobA lb X :: l)) (ok : LbOk X) (hk : k < 18446744073709551616) :
    Calls Tryz.prog 15 #[pt lb, uv k] W fun e W' => e = .returned (.tuple #[.string (keyS X k), .bool (fds X k).isSome]) ∧ Sep w0 W' (lobA lb X :: l) := by
  have HS : Keep (∀ W', W.grownBy W' none → Sep w0 W' (lobA lb X :: l)) := ⟨fun W' g => h.grown g⟩
  obtain ⟨mb, c7, hc⟩ := lob_at h ok k hk
  rcases hc with ⟨hf, hlk⟩ | ⟨b, s, hole, hf, hm, hn, hlk, hS, _⟩
  · have HR : Keep (keyS X k = ⟨#[]⟩ ∧ (fds X k).isSome = false) := ⟨by unfold keyS; rw [hf]; rfl, by rw [hf]; rfl⟩
    have HF := Keep.mk h
    clear h hf ok HS
    go_enter Tryz.func15, Tryz.ntmps15
    go_wp2_with fail
    go_ret2
    rw [HR.out.1, HR.out.2]
    exact ⟨rfl, HF.out⟩
  · have HR : Keep (keyS X k = txt s.key ∧ (fds X k).isSome = true) := ⟨by unfold keyS; rw [hf]; rfl, by rw [hf]; rfl⟩
    have hkl := (ok.s s hm).2.2.2.1
    have HRK := Keep.mk (sev_key hkl (hS.boxGet k0m))
    have hT := text_c s.key W hkl
    obtain ⟨du, hdu, hdr⟩ : ∃ d, Tryz.prog.underlying 102 = some d ∧ d.isRow = true := ⟨_, Tryz.underlying102, rfl⟩
    have HI85 : Keep ((Tryz.prog.info? 102).map (·.size) = some (s.key.map b8).length) := ⟨by rw [List.length_map, hkl]; kernel_rfl⟩
    obtain ⟨cs, hcs⟩ : ∃ cs, s.key.map b8 = cs := ⟨_, rfl⟩
    rw [hcs] at HRK HI85 hT
    obtain ⟨tx, htx⟩ : ∃ tx, txt s.key = tx := ⟨_, rfl⟩
    rw [htx] at hT HR
    clear h hf ok hm hn hS hkl hcs htx
    go_enter Tryz.func15, Tryz.ntmps15
    go_wp2_with (first
      | (show wpList _ _ _ ({ dst := _, op := Op.load 102 _, type := _, pos := _, after := _, guard := _ } :: _) _ _
         refine wpList_load_mid rfl 102 _ rfl _ _ rfl _ _ HRK.out hdu hdr HI85.out ?_))
    refine hT.mono ?_
    rintro e w2 ⟨rfl, g2⟩
    have HF2 := Keep.mk (HS.out w2 g2)
    clear hT g2 HS
    go_wp2_with fail
    go_ret2
    rw [HR.out.1, HR.out.2]
    exact ⟨rfl, HF2.out⟩
set_option maxRecDepth 100000 in
set_option maxHeartbeats 8000000 in
theorem chk_c (w0 W : World) (l : List As) (lb : Nat) (X : Lb) (k q : Nat) (h : Sep w0 W (lobA lb X :: l)) (ok : LbOk X) (hk : k < 18446744073709551616) (hq : q < 18446744073709551616) :
    Calls Tryz.prog 29 #[pt lb, uv k, uv q] W fun e W' => e = .returned (iv (chkS X k q)) ∧ Sep w0 W' (lobA lb X :: l) := by
  have HS : Keep (∀ W', W.grownBy W' none → Sep w0 W' (lobA lb X :: l)) := ⟨fun W' g => h.grown g⟩
  obtain ⟨mb, c7, hc⟩ := lob_at h ok k hk
  rcases hc with ⟨hf, hlk⟩ | ⟨b, s, hole, hf, hm, hn, hlk, hS, _⟩
  · have HR : Keep (chkS X k q = 122) := ⟨by unfold chkS; rw [hf]; rfl⟩
    have HF := Keep.mk h
    clear h hf ok HS
    go_enter Tryz.func29, Tryz.ntmps29
    go_wp2_with fail
    go_ret
    rw [HR.out]
    exact ⟨rfl, HF.out⟩
  · have HR : Keep (chkS X k q = ((Wi.chk s.wh s.wb q : Nat) : Int)) := ⟨by unfold chkS; rw [hf]; rfl⟩
    obtain ⟨_, _, _, hkl, _, _, _, _, h1, h2, _⟩ := ok.s s hm
    have d0 : W.cell? ⟨b, 40, none⟩ = some (uv s.wh) := (hS.boxGet k0m).cellv 40 _ (sev_get hkl 0 _ rfl)
    have d1 : W.cell? ⟨b, 41, none⟩ = some (uv s.wb) := (hS.boxGet k0m).cellv 41 _ (sev_get hkl 1 _ rfl)
    have hT := Wi.check_c s.wh s.wb q W h1 h2 hq
    generalize Wi.chk s.wh s.wb q = z at *
    generalize s.wh = wh at *
    generalize s.wb = wb at *
    clear h hf ok hm hn hS hkl h1 h2
    go_enter Tryz.func29, Tryz.ntmps29
    go_wp2_with fail
    refine hT.mono ?_
    rintro e w2 ⟨rfl, g2⟩
    have HF2 := Keep.mk (HS.out w2 g2)
    clear hT g2 HS
    go_wp2_with fail
    go_ret
    rw [HR.out]
    exact ⟨rfl, HF2.out⟩
set_option maxRecDepth 100000 in
theorem bko {r u : Int} {X : Lb} {s : Se} {W : World} {b : Nat} (ok : LbOk X) (hm : s ∈ X.S) (hr : X.r = r) (hu : X.u = u) (hh : Has W b (sev r u s) 109) : Bu.BK W b 42 (sev r u s) r u s.y := by
  obtain ⟨_, _, _, hkl, _, _, _, _, _, _, h3, h4, _⟩ := ok.s s hm
  obtain ⟨o1, o2, o3, o4⟩ := ok.r
  subst hr hu
  exact ⟨hh, sev_get hkl 2 _ rfl, sev_get hkl 3 _ rfl, sev_get hkl 4 _ rfl, o1, o2, o3, o4, h3, h4⟩
set_option maxRecDepth 100000 in
set_option maxHeartbeats 8000000 in
theorem tok_c (w0 W : World) (l : List As) (lb : Nat) (X : Lb) (k : Nat) (h : Sep w0 W (lobA lb X :: l)) (ok : LbOk X) (hk : k < 18446744073709551616) :
    Calls Tryz.prog 31 #[pt lb, uv k] W fun e W' => e = .returned (.bool (tokS X k)) ∧ W' = W := by
  obtain ⟨mb, c7, hc⟩ := lob_at h ok k hk
  rcases hc with ⟨hf, hlk⟩ | ⟨b, s, hole, hf, hm, hn, hlk, hS, _⟩
  · have HR : Keep (tokS X k = false) := ⟨by unfold tokS; rw [hf]; rfl⟩
    clear h hf ok
    go_enter Tryz.func31, Tryz.ntmps31
    go_wp2_with fail
    go_ret
    rw [HR.out]
    exact ⟨rfl, rfl⟩
  · have HR : Keep (tokS X k = decide (0 < s.y / 16)) := ⟨by unfold tokS; rw [hf]; rfl⟩
    have hT := Bu.left_c b 42 _ X.r X.u s.y W (bko ok hm rfl rfl (hS.boxGet k0m))
    generalize s.y / 16 = z at *
    clear h hf ok hm hn hS
    go_enter Tryz.func31, Tryz.ntmps31
    go_wp2_with fail
    refine hT.mono ?_
    rintro e w2 ⟨rfl, hw⟩
    subst w2
    clear hT
    go_wp2_with fail
    go_ret
    rw [HR.out]
    exact ⟨rfl, rfl⟩
end Go.Proofs.YtplcicbpkbamnabGreatDoor.Lo

/- lobby: Sent, Accept. -/
namespace Go.Proofs.YtplcicbpkbamnabGreatDoor.Lo
open Go Go.RowKit Go.Maps

set_option maxRecDepth 100000 in
theorem Sep.boxTurn {w0 W W' : World} {l : List As} {b : Nat} {cs ds : List Value} {t : TypeId} (h : Sep w0 W (boxA b cs t :: l)) (hh : Has W' b ds t) (g : W.grownBy W' (some b)) : Sep w0 W' (boxA b ds t :: l) := by
  obtain ⟨F, ⟨h1, rfl⟩, _, hu⟩ := h.use
  exact hu W' [_] (Fr.ofSome g rfl) (Loc.one (a := boxA _ _ _) _ ⟨hh, rfl⟩ (fun i hi => .inl hi))
def pre (s : Se) : List Value := lvc s ++ [iv (s.acc : Nat)] ++ s.key.map b8
set_option maxRecDepth 100000 in
theorem pre_len {s : Se} (h : s.key.length = 32) : (pre s).length = 40 := by simp [pre, lvc, h]
set_option maxRecDepth 100000 in
theorem sev_set {r u : Int} {s : Se} (h : s.key.length = 32) (j : Nat) (v : Value) : (sev r u s).set (40 + j) v = pre s ++ [uv s.wh, uv s.wb, iv r, iv u, iv s.y].set j v := by
  show (pre s ++ [uv s.wh, uv s.wb, iv r, iv u, iv s.y]).set (40 + j) v = _
  rw [List.set_append_right _ _ (by rw [pre_len h]; omega), pre_len h, show 40 + j - 40 = j by omega]
/-- one more is sent -/
def snt (s : Se) : Se := { s with sent := (s.sent + 1) % 18446744073709551616 }
def sntS (X : Lb) (k : Nat) : Value := ((fds X k).map fun s => Value.tuple #[uv (snt s).sent, iv 0]).getD (.tuple #[uv 0, iv 122])
def sntX (X : Lb) (k : Nat) : Lb := ((fds X k).map fun s => upd X k (snt s)).getD X
set_option maxRecDepth 100000 in
set_option maxHeartbeats 8000000 in
theorem sent_c (w0 W : World) (l : List As) (lb : Nat) (X : Lb) (k : Nat) (h : Sep w0 W (lobA lb X :: l)) (ok : LbOk X) (hk : k < 18446744073709551616) :
    Calls Tryz.prog 38 #[pt lb, uv k] W fun e W' => e = .returned (sntS X k) ∧ Sep w0 W' (lobA lb (sntX X k) :: l) := by
  obtain ⟨mb, c7, hc⟩ := lob_at h ok k hk
  rcases hc with ⟨hf, hlk⟩ | ⟨b, s, hole, hf, hm, hn, hlk, hS, hB⟩
  · have HR : Keep (sntS X k = .tuple #[.int .u64 0, iv 122] ∧ sntX X k = X) := ⟨by unfold sntS; rw [hf]; rfl, by unfold sntX; rw [hf]; rfl⟩
    have HF := Keep.mk h
    clear h hf ok
    go_enter Tryz.func38, Tryz.ntmps38
    go_wp2_with fail
    go_ret2
    rw [HR.out.1, HR.out.2]
    exact ⟨rfl, HF.out⟩
  · obtain ⟨z, hz⟩ : ∃ z, (s.sent + 1) % 18446744073709551616 = z := ⟨_, rfl⟩
    have HR : Keep (sntS X k = .tuple #[uv z, iv 0] ∧ sntX X k = upd X k (snt s)) := ⟨by unfold sntS; rw [hf, ← hz]; rfl, by unfold sntX; rw [hf]; rfl⟩
    have hwz : IntKind.u64.wrap ((s.sent : Int) + 1) = (z : Int) := by
      rw [← hz]
      simp only [IntKind.wrap, IntKind.bits, IntKind.signed]
      have := (ok.s s hm).2.2.2.2.2.2.2.1
      simp
    have d6 : W.cell? ⟨b, 6, none⟩ = some (uv s.sent) := (hS.boxGet k0m).cellv 6 _ rfl
    have f6 : W.frozen? ⟨b, 6, none⟩ = false := (hS.boxGet k0m).frozen 6
    have S2 := hS.boxPut 6 (uv z)
    have e2 : (sev X.r X.u s).set 6 (uv z) = sev X.r X.u (snt s) := by rw [← hz]; rfl
    rw [e2] at S2
    have HF := Keep.mk (hB _ (snt s) hn S2)
    obtain ⟨W2, hW2⟩ : ∃ W2, W.setCell ⟨b, 6, none⟩ (uv z) = W2 := ⟨_, rfl⟩
    have d62 : W2.cell? ⟨b, 6, none⟩ = some (uv z) := by rw [← hW2]; exact (S2.boxGet k0m).cellv 6 _ (by rw [← e2]; rfl)
    rw [hW2] at HF
    generalize s.sent = q at *
    clear h hf ok hm hS hB S2 e2 hz
    go_enter Tryz.func38, Tryz.ntmps38
    go_wp2_with fail
    go_ret2
    rw [HR.out.1, HR.out.2]
    exact ⟨rfl, HF.out⟩
/-- a datagram is accepted -/
def acc (s : Se) (q : Nat) (cmd : Bool) (tick : Nat) : Se :=
  { s with y := if cmd then s.y - 16 else s.y, wh := Wi.mkH s.wh s.wb q, wb := Wi.mkB s.wh s.wb q, high := Wi.mkH s.wh s.wb q, heard := tick }
def accC (s : Se) (q : Nat) (cmd : Bool) : Int := if Wi.chk s.wh s.wb q ≠ 0 then (Wi.chk s.wh s.wb q : Nat) else if cmd = true ∧ s.y < 16 then 80 else 0
def accE (s : Se) (q : Nat) (cmd : Bool) (tick : Nat) : Se := if accC s q cmd = 0 then acc s q cmd tick else s
/-- marked, and told -/
theorem mark_go (w0 W : World) (b : Nat) (r u : Int) (s : Se) (hole : List As) (q : Nat) (hS : Sep w0 W (boxA b (sev r u s) 109 :: hole)) (hkl : s.key.length = 32) (h1 : s.wh < 18446744073709551616) (h2 : s.wb < 18446744073709551616) (hq : q < 18446744073709551616) :
    Calls Tryz.prog 94 #[.pointer (some ⟨b, 40, none⟩), uv q] W fun e W' => e = .returned (.int .i64 (Wi.chk s.wh s.wb q : Nat)) ∧ Sep w0 W' (boxA b (sev r u { s with wh := Wi.mkH s.wh s.wb q, wb := Wi.mkB s.wh s.wb q }) 109 :: hole) := by
  refine (Wi.omark_c b 40 (sev r u s) s.wh s.wb q W ⟨hS.boxGet k0m, sev_get hkl 0 _ rfl, sev_get hkl 1 _ rfl, h1, h2⟩ hq).mono ?_
  rintro e W' ⟨rfl, hh, g⟩
  refine ⟨rfl, hS.boxTurn ?_ g⟩
  have e1 : ((sev r u s).set 40 (uv (Wi.mkH s.wh s.wb q))).set (40 + 1) (uv (Wi.mkB s.wh s.wb q)) = sev r u { s with wh := Wi.mkH s.wh s.wb q, wb := Wi.mkB s.wh s.wb q } := by
    rw [show (40 : Nat) = 40 + 0 from rfl, sev_set hkl 0, show 40 + 0 + 1 = 40 + 1 from rfl, List.set_append_right _ _ (by rw [pre_len hkl]; omega), pre_len hkl]
    rfl
  rw [e1] at hh
  exact hh
set_option maxRecDepth 100000 in
theorem take_go (w0 W : World) (b : Nat) (r u : Int) (s : Se) (hole : List As) (hS : Sep w0 W (boxA b (sev r u s) 109 :: hole)) (hkl : s.key.length = 32) (hb : Bu.BK W b 42 (sev r u s) r u s.y) :
    Calls Tryz.prog 93 #[.pointer (some ⟨b, 42, none⟩)] W fun e W' => e = .returned (.int .i64 (Bu.tcode s.y)) ∧ Sep w0 W' (boxA b (sev r u { s with y := Bu.took s.y }) 109 :: hole) := by
  refine (Bu.take_c b 42 _ r u s.y W hb).mono ?_
  rintro e W' ⟨rfl, hh, g⟩
  refine ⟨rfl, hS.boxTurn ?_ g⟩
  have e1 : (sev r u s).set (42 + 2) (.int .i64 (Bu.took s.y)) = sev r u { s with y := Bu.took s.y } := by
    rw [show 42 + 2 = 40 + 4 from rfl, sev_set hkl 4]
    rfl
  rw [e1] at hh
  exact hh
end Go.Proofs.YtplcicbpkbamnabGreatDoor.Lo

/- lobby: a session accepts; Accept. -/
namespace Go.Proofs.YtplcicbpkbamnabGreatDoor.Lo
open Go Go.RowKit Go.Maps

set_option maxRecDepth 100000 in
set_option maxHeartbeats 16000000 in
theorem accept_c (w0 W : World) (b : Nat) (r u : Int) (s : Se) (hole : List As) (q tick : Nat) (cmd : Bool) (hS : Sep w0 W (boxA b (sev r u s) 109 :: hole)) (hkl : s.key.length = 32) (h1 : s.wh < 18446744073709551616) (h2 : s.wb < 18446744073709551616) (hq : q < 18446744073709551616)
    (hb : ∀ W', Has W' b (sev r u s) 109 → Bu.BK W' b 42 (sev r u s) r u s.y) :
    Calls Tryz.prog 61 #[pt b, uv q, .bool cmd, uv tick] W fun e W' => e = .returned (iv (accC s q cmd)) ∧ Sep w0 W' (boxA b (sev r u (accE s q cmd tick)) 109 :: hole) := by
  have d0 : W.cell? ⟨b, 40, none⟩ = some (uv s.wh) := (hS.boxGet k0m).cellv 40 _ (sev_get hkl 0 _ rfl)
  have d1 : W.cell? ⟨b, 41, none⟩ = some (uv s.wb) := (hS.boxGet k0m).cellv 41 _ (sev_get hkl 1 _ rfl)
  have hT := Wi.check_c s.wh s.wb q W h1 h2 hq
  have HS := Keep.mk hS
  have HH := Keep.mk (And.intro h1 (And.intro h2 (And.intro hq hb)))
  clear hS h1 h2 hq hb
  by_cases hc : Wi.chk s.wh s.wb q = 0
  · rw [hc] at hT
    cases cmd with
    | false =>
      have HE : Keep (accC s q false = 0 ∧ accE s q false tick = acc s q false tick) := by
        have e : accC s q false = 0 := by simp [accC, hc]
        exact ⟨e, by unfold accE; rw [if_pos e]⟩
      go_enter Tryz.func61, Tryz.ntmps61
      go_wp2_with fail
      refine hT.mono ?_
      rintro e w1 ⟨rfl, g1⟩
      have hM := mark_go w0 w1 b r u s hole q (HS.out.grown g1) hkl HH.out.1 HH.out.2.1 HH.out.2.2.1
      clear hT g1 HS d0 d1 hc
      go_wp2_with fail
      refine hM.mono ?_
      rintro e w3 ⟨rfl, S3⟩
      obtain ⟨H, hH⟩ : ∃ H, Wi.mkH s.wh s.wb q = H := ⟨_, rfl⟩
      obtain ⟨B, hB⟩ : ∃ B, Wi.mkB s.wh s.wb q = B := ⟨_, rfl⟩
      simp only [hH, hB] at S3
      have HS3 := Keep.mk S3
      have d0 : w3.cell? ⟨b, 40, none⟩ = some (uv H) := (S3.boxGet k0m).cellv 40 _ (sev_get (s := { s with wh := H, wb := B }) hkl 0 _ rfl)
      have d1 : w3.cell? ⟨b, 41, none⟩ = some (uv B) := (S3.boxGet k0m).cellv 41 _ (sev_get (s := { s with wh := H, wb := B }) hkl 1 _ rfl)
      have hHi := Wi.high_c H B w3
      have HE2 : Keep (accE s q false tick = { s with wh := H, wb := B, high := H, heard := tick } ∧ accC s q false = 0) := ⟨by rw [← hH, ← hB]; exact ⟨HE.out.2, HE.out.1⟩⟩
      clear hM S3 hH hB HE
      go_wp2_with fail
      refine hHi.mono ?_
      rintro e w4 ⟨rfl, g4⟩
      have S4 := HS3.out.grown g4
      have f5 : w4.frozen? ⟨b, 5, none⟩ = false := (S4.boxGet k0m).frozen 5
      have d5 : w4.cell? ⟨b, 5, none⟩ = some (uv s.high) := (S4.boxGet k0m).cellv 5 _ rfl
      have S5 := S4.boxPut 5 (uv H)
      obtain ⟨W5, hW5⟩ : ∃ W5, w4.setCell ⟨b, 5, none⟩ (uv H) = W5 := ⟨_, rfl⟩
      rw [hW5] at S5
      have f4 : W5.frozen? ⟨b, 4, none⟩ = false := (S5.boxGet k0m).frozen 4
      have d4 : W5.cell? ⟨b, 4, none⟩ = some (uv s.heard) := (S5.boxGet k0m).cellv 4 _ rfl
      have S6 := S5.boxPut 4 (uv tick)
      have HF : Keep (Sep w0 (W5.setCell ⟨b, 4, none⟩ (uv tick)) (boxA b (sev r u { s with wh := H, wb := B, high := H, heard := tick }) 109 :: hole)) := ⟨S6⟩
      clear HS3 S4 S5 S6 hHi g4 d0 d1
      go_wp2_with fail
      go_ret
      rw [HE2.out.1, HE2.out.2]
      exact ⟨rfl, HF.out⟩
    | true =>
      go_enter Tryz.func61, Tryz.ntmps61
      go_wp2_with fail
      refine hT.mono ?_
      rintro e w1 ⟨rfl, g1⟩
      have S1 := HS.out.grown g1
      have hK := take_go w0 w1 b r u s hole S1 hkl (HH.out.2.2.2 w1 (S1.boxGet k0m))
      clear hT g1 HS d0 d1 S1
      by_cases hy : s.y < 16
      · have HE : Keep (accC s q true = 80 ∧ accE s q true tick = s) := by
          have e : accC s q true = 80 := by simp [accC, hc, hy]
          exact ⟨e, by unfold accE; rw [if_neg (by rw [e]; decide)]⟩
        have et : Bu.tcode s.y = 80 := by simp [Bu.tcode, hy]
        have ek : Bu.took s.y = s.y := by simp [Bu.took, hy]
        rw [et, ek] at hK
        clear hc hy et ek
        go_wp2_with fail
        refine hK.mono ?_
        rintro e w2 ⟨rfl, S2⟩
        have HF := Keep.mk S2
        clear hK S2
        go_wp2_with fail
        go_ret
        rw [HE.out.1, HE.out.2]
        exact ⟨rfl, HF.out⟩
      · have HE : Keep (accC s q true = 0 ∧ accE s q true tick = acc s q true tick) := by
          have e : accC s q true = 0 := by simp [accC, hc, hy]
          exact ⟨e, by unfold accE; rw [if_pos e]⟩
        have et : Bu.tcode s.y = 0 := by simp [Bu.tcode, hy]
        have ek : Bu.took s.y = s.y - 16 := by simp [Bu.took, hy]
        rw [et, ek] at hK
        clear hc hy et ek
        go_wp2_with fail
        refine hK.mono ?_
        rintro e w2 ⟨rfl, S2⟩
        have hM := mark_go w0 w2 b r u { s with y := s.y - 16 } hole q S2 hkl HH.out.1 HH.out.2.1 HH.out.2.2.1
        clear hK S2
        go_wp2_with fail
        refine hM.mono ?_
        rintro e w3 ⟨rfl, S3⟩
        obtain ⟨H, hH⟩ : ∃ H, Wi.mkH s.wh s.wb q = H := ⟨_, rfl⟩
        obtain ⟨B, hB⟩ : ∃ B, Wi.mkB s.wh s.wb q = B := ⟨_, rfl⟩
        simp only [hH, hB] at S3
        have HS3 := Keep.mk S3
        have d0 : w3.cell? ⟨b, 40, none⟩ = some (uv H) := (S3.boxGet k0m).cellv 40 _ (sev_get (s := { s with y := s.y - 16, wh := H, wb := B }) hkl 0 _ rfl)
        have d1 : w3.cell? ⟨b, 41, none⟩ = some (uv B) := (S3.boxGet k0m).cellv 41 _ (sev_get (s := { s with y := s.y - 16, wh := H, wb := B }) hkl 1 _ rfl)
        have hHi := Wi.high_c H B w3
        have HE2 : Keep (accE s q true tick = { s with y := s.y - 16, wh := H, wb := B, high := H, heard := tick } ∧ accC s q true = 0) := ⟨by rw [← hH, ← hB]; exact ⟨HE.out.2, HE.out.1⟩⟩
        clear hM S3 hH hB HE
        go_wp2_with fail
        refine hHi.mono ?_
        rintro e w4 ⟨rfl, g4⟩
        have S4 := HS3.out.grown g4
        have f5 : w4.frozen? ⟨b, 5, none⟩ = false := (S4.boxGet k0m).frozen 5
        have d5 : w4.cell? ⟨b, 5, none⟩ = some (uv s.high) := (S4.boxGet k0m).cellv 5 _ rfl
        have S5 := S4.boxPut 5 (uv H)
        obtain ⟨W5, hW5⟩ : ∃ W5, w4.setCell ⟨b, 5, none⟩ (uv H) = W5 := ⟨_, rfl⟩
        rw [hW5] at S5
        have f4 : W5.frozen? ⟨b, 4, none⟩ = false := (S5.boxGet k0m).frozen 4
        have d4 : W5.cell? ⟨b, 4, none⟩ = some (uv s.heard) := (S5.boxGet k0m).cellv 4 _ rfl
        have S6 := S5.boxPut 4 (uv tick)
        have HF : Keep (Sep w0 (W5.setCell ⟨b, 4, none⟩ (uv tick)) (boxA b (sev r u { s with y := s.y - 16, wh := H, wb := B, high := H, heard := tick }) 109 :: hole)) := ⟨S6⟩
        clear HS3 S4 S5 S6 hHi g4 d0 d1
        go_wp2_with fail
        go_ret
        rw [HE2.out.1, HE2.out.2]
        exact ⟨rfl, HF.out⟩
  · have HE : Keep (accC s q cmd = ((Wi.chk s.wh s.wb q : Nat) : Int) ∧ accE s q cmd tick = s) := by
      have e : accC s q cmd = ((Wi.chk s.wh s.wb q : Nat) : Int) := by unfold accC; rw [if_pos hc]
      exact ⟨e, by unfold accE; rw [if_neg (by rw [e]; omega)]⟩
    generalize Wi.chk s.wh s.wb q = z at *
    have hz : ¬ (z : Int) = 0 := by omega
    clear hc
    go_enter Tryz.func61, Tryz.ntmps61
    go_wp2_with fail
    refine hT.mono ?_
    rintro e w1 ⟨rfl, g1⟩
    have HF := Keep.mk (HS.out.grown g1)
    clear hT g1 HS d0 d1
    go_wp2_with fail
    go_ret
    rw [HE.out.1, HE.out.2]
    exact ⟨rfl, HF.out⟩
def acpS (X : Lb) (k q : Nat) (cmd : Bool) : Int := ((fds X k).map fun s => accC s q cmd).getD 122
def acpX (X : Lb) (k q : Nat) (cmd : Bool) (tick : Nat) : Lb := ((fds X k).map fun s => upd X k (accE s q cmd tick)).getD X
set_option maxRecDepth 100000 in
set_option maxHeartbeats 8000000 in
theorem acp_c (w0 W : World) (l : List As) (lb : Nat) (X : Lb) (k q tick : Nat) (cmd : Bool) (h : Sep w0 W (lobA lb X :: l)) (ok : LbOk X) (hk : k < 18446744073709551616) (hq : q < 18446744073709551616) :
    Calls Tryz.prog 19 #[pt lb, uv k, uv q, .bool cmd, uv tick] W fun e W' => e = .returned (iv (acpS X k q cmd)) ∧ Sep w0 W' (lobA lb (acpX X k q cmd tick) :: l) := by
  obtain ⟨mb, c7, hc⟩ := lob_at h ok k hk
  rcases hc with ⟨hf, hlk⟩ | ⟨b, s, hole, hf, hm, hn, hlk, hS, hB⟩
  · have HR : Keep (acpS X k q cmd = 122 ∧ acpX X k q cmd tick = X) := ⟨by unfold acpS; rw [hf]; rfl, by unfold acpX; rw [hf]; rfl⟩
    have HF := Keep.mk h
    clear h hf ok
    go_enter Tryz.func19, Tryz.ntmps19
    go_wp2_with fail
    go_ret
    rw [HR.out.1, HR.out.2]
    exact ⟨rfl, HF.out⟩
  · have HR : Keep (acpS X k q cmd = accC s q cmd ∧ acpX X k q cmd tick = upd X k (accE s q cmd tick)) := ⟨by unfold acpS; rw [hf]; rfl, by unfold acpX; rw [hf]; rfl⟩
    obtain ⟨_, _, _, hkl, _, _, _, _, h1, h2, _⟩ := ok.s s hm
    have hA := accept_c w0 W b X.r X.u s hole q tick cmd hS hkl h1 h2 hq (fun W' hh => bko ok hm rfl rfl hh)
    have hnum : (accE s q cmd tick).num = k := by unfold accE; split <;> exact hn
    have HB : Keep (∀ W', Sep w0 W' (boxA b (sev X.r X.u (accE s q cmd tick)) 109 :: hole) → Sep w0 W' (lobA lb (upd X k (accE s q cmd tick)) :: l)) := ⟨fun W' hh => hB W' _ hnum hh⟩
    clear h hf ok hm hS hB hkl h1 h2 hnum hn
    go_enter Tryz.func19, Tryz.ntmps19
    go_wp2_with fail
    refine hA.mono ?_
    rintro e w1 ⟨rfl, S1⟩
    have HF := Keep.mk (HB.out w1 S1)
    clear hA S1 HB
    go_wp2_with fail
    go_ret
    rw [HR.out.1, HR.out.2]
    exact ⟨rfl, HF.out⟩
end Go.Proofs.YtplcicbpkbamnabGreatDoor.Lo

/- lobby: what is told of a session: copyLive, tell. -/
namespace Go.Proofs.YtplcicbpkbamnabGreatDoor.Lo
open Go Go.RowKit Go.Maps

/-- a value of many cells is laid over a block -/
theorem store_box {ops : Array Oper} {rest : List Oper} {op : Oper} {a : Act} {Q : Exit → Act → World → Prop} (w3 : World) (rb : Nat) (ds cs : List Value) (T : TypeId) (hgd : op.guard = none) {x y : Operand} (ho : op.op = .store T x y)
    (hx : a.eval x = .pointer (some ⟨rb, 0, none⟩)) (hy : a.eval y = .agg cs.toArray) (hh : Has w3 rb ds T) (hl : cs.length = ds.length) (hi : (Tryz.prog.info? T).map (·.size) = some cs.length) (h1 : ∀ v ∈ cs, v.oneCell' = true)
    (h : ∀ w6, (∀ w0 l, Sep w0 w3 (boxA rb ds T :: l) → Sep w0 w6 (boxA rb cs T :: l)) → w3.grownBy w6 (some rb) → wpList Tryz.prog ops Q rest (a.put op.dst undef) w6) : wpList Tryz.prog ops Q (op :: rest) a w3 := by
  have hg : w3.grownBy (w3.setCells rb 0 cs.toArray.toList) (some rb) := gr_sets _ _ _ _
  refine wpList_store_mid hgd T x y ho rb 0 cs.toArray hx hy (hh.there 0 cs.toArray.size (by rw [List.size_toArray]; omega)) (by rw [List.size_toArray]; exact hi) (all_oneCell_toArray h1) ?_
  exact h _ (fun w0 l hS => hS.boxTurn (hh.setAll cs hl) hg) hg
set_option maxRecDepth 100000 in
theorem results_c {fn : Func} {p : Tmp} {ty : TypeId} (h : fn.results = #[.cell p ty]) (tmps : Array Value) (P : Program) (w : World) :
    (results fn tmps).run P w = ((asAddr (tmps.getD p undef)).run P w).andThen fun a w₁ => (loadVar ty a).run P w₁ := by
  simp only [results, h]
  simp [Sem.run_bind, Result.andThen]
set_option maxRecDepth 100000 in
theorem ret_c {P : Program} {fn : Func} {R : Ending → World → Prop} {a : Act} {w : World} {p : Tmp} {ty t : TypeId} {b : Nat} {cs : List Value} {d : TypeDesc}
    (hr : fn.results = #[.cell p ty]) (hp : a.tmps.getD p undef = .pointer (some ⟨b, 0, none⟩)) (hh : Has w b cs t) (hu : P.underlying ty = some d) (hd : d.isRow = true)
    (hi : (P.info? ty).map (·.size) = some cs.length) (hdf : a.defers = []) (h : R (.returned (.agg cs.toArray)) w) : bodyPost P fn R .ret a w := by
  refine bodyPost_ret (v := .agg cs.toArray) ?_ hdf h
  rw [results_c hr, hp]
  simp [asAddr, Result.andThen, run_loadVar_mid w b 0 ty cs d hh.range hu hd hi]
set_option maxRecDepth 100000 in
theorem under42 : ∃ d, Tryz.prog.underlying 49 = some d ∧ d.isRow = true := ⟨_, Tryz.underlying49, rfl⟩
set_option maxRecDepth 100000 in
theorem info42 : (Tryz.prog.info? 49).map (·.size) = some 7 := by kernel_rfl
def z7 : List Value := [.int .u64 0, .int .i64 0, .string ⟨#[]⟩, .string ⟨#[]⟩, .int .u64 0, .int .u64 0, .int .u64 0]
set_option maxRecDepth 100000 in
theorem lvc_one (s : Se) : ∀ v ∈ lvc s, v.oneCell' = true := by
  intro v hv
  simp only [lvc, List.mem_cons, List.not_mem_nil, or_false] at hv
  rcases hv with rfl | rfl | rfl | rfl | rfl | rfl | rfl <;> rfl
set_option maxRecDepth 100000 in
set_option maxHeartbeats 16000000 in
theorem live_c (w : World) (s : Se) (hn : s.nm.size ≤ 281474976710656) (hf : s.fr.size ≤ 281474976710656) :
    Calls Tryz.prog 50 #[.agg (lvc s).toArray] w fun e w' => e = .returned (.agg (lvc s).toArray) ∧ w.grownBy w' none := by
  obtain ⟨du, hdu, hdr⟩ := under42
  have S2 := ((Sep.nil w).newBox (lvc s).toArray 49).newBox z7.toArray 49
  obtain ⟨W1, hW1⟩ : ∃ W1, w.alloc (.cells (lvc s).toArray 49) = W1 := ⟨_, rfl⟩
  obtain ⟨xb, hxb⟩ : ∃ xb, w.heap.size = xb := ⟨_, rfl⟩
  rw [hW1, hxb] at S2
  obtain ⟨W2, hW2⟩ : ∃ W2, W1.alloc (.cells z7.toArray 49) = W2 := ⟨_, rfl⟩
  obtain ⟨rb, hrb⟩ : ∃ rb, W1.heap.size = rb := ⟨_, rfl⟩
  rw [hW2, hrb] at S2
  change Sep w W2 [boxA rb z7 49, boxA xb (lvc s) 49] at S2
  have HS2 := Keep.mk S2
  have HNF := Keep.mk (And.intro hn hf)
  have HL1 := Keep.mk (lvc_one s)
  have HL7 : Keep ((lvc s).length = 7) := ⟨rfl⟩
  have HLv : Keep ((lvc s)[2]? = some (.string s.nm) ∧ (lvc s)[3]? = some (.string s.fr) ∧ (lvc s).set 2 (.string s.nm) = lvc s ∧ (lvc s).set 3 (.string s.fr) = lvc s) := ⟨rfl, rfl, rfl, rfl⟩
  obtain ⟨lv, hlv⟩ : ∃ lv, lvc s = lv := ⟨_, rfl⟩
  have hsz : lv.toArray.size = 7 := by rw [← hlv]; rfl
  rw [hlv] at HS2 HL1 HL7 HLv hW1 ⊢
  unfold z7 at hW2
  clear S2 hn hf hlv
  go_enter Tryz.func50, Tryz.ntmps50
  go_wp2_with fail
  have SD := HS2.out.grown (gr_drew W2 none)
  refine wp_region_held_drew (S := fun w => w.cell? ⟨xb, 2, none⟩ = some (.string s.nm) ∧ w.cell? ⟨xb, 3, none⟩ = some (.string s.fr)) (by kernel_rfl) ⟨(SD.boxGet k1m).cellv 2 _ HLv.out.1, (SD.boxGet k1m).cellv 3 _ HLv.out.2.1⟩ (fun hHeld => ?_)
  generalize W2.drew = w2 at SD hHeld ⊢
  clear HS2 hW1 hW2 hxb hrb
  refine wpAnyH_take (i := 0) (oi := _) (v := ?_) rfl (by kernel_rfl) (by kernel_rfl) (by kernel_rfl) (fun _ _ _ h => h) (Or.inl ⟨by rfl, ?_⟩) (by assumption) ?_
  rotate_left
  · (intro w hSw; go_simp; first | done | (with_reducible rfl))
  simp only [Act.put, List.getElem_toArray, List.getElem_cons_zero, List.setIfInBounds_toArray, List.set_cons_zero, List.set_cons_succ]
  refine wpAnyH_take (i := 1) (oi := _) (v := ?_) rfl (by kernel_rfl) (by kernel_rfl) (by kernel_rfl) (fun _ _ _ h => h) (Or.inl ⟨by rfl, ?_⟩) (by assumption) ?_
  rotate_left
  · (intro w hSw; obtain ⟨y1, y2⟩ := hSw; go_simp; first | done | (with_reducible rfl))
  simp only [Act.put, List.getElem_toArray, List.getElem_cons_succ, List.getElem_cons_zero, List.setIfInBounds_toArray, List.set_cons_zero, List.set_cons_succ]
  refine wpAnyH_take (i := 3) (oi := _) (v := ?_) rfl (by kernel_rfl) (by kernel_rfl) (by kernel_rfl) (fun _ _ _ h => h) (Or.inl ⟨by rfl, ?_⟩) (by assumption) ?_
  rotate_left
  · (intro w hSw; go_simp; first | done | (with_reducible rfl))
  simp only [Act.put, List.getElem_toArray, List.getElem_cons_succ, List.getElem_cons_zero, List.setIfInBounds_toArray, List.set_cons_zero, List.set_cons_succ]
  refine wpAnyH_take (i := 4) (oi := _) (v := ?_) rfl (by kernel_rfl) (by kernel_rfl) (by kernel_rfl) (fun _ _ _ h => h) (Or.inl ⟨by rfl, ?_⟩) (by assumption) ?_
  rotate_left
  · (intro w hSw; obtain ⟨y1, y2⟩ := hSw; go_simp; first | done | (with_reducible rfl))
  simp only [Act.put, List.getElem_toArray, List.getElem_cons_succ, List.getElem_cons_zero, List.setIfInBounds_toArray, List.set_cons_zero, List.set_cons_succ]
  refine wpAnyH_ready (rs := [2]) (by kernel_rfl) (by simp) ?_
  refine AllReadyH.cons rfl (fun K hK => ?_) AllReadyH.nil
  have hC := Na.clone_c s.nm w2 HNF.out.1
  go_simp
  go_wp2_with fail
  refine hC.mono ?_
  rintro e w3 ⟨rfl, g3⟩
  have S3 := SD.grown g3
  clear hC g3 SD
  refine hK.out _ _ ⟨(S3.boxGet k1m).cellv 2 _ HLv.out.1, (S3.boxGet k1m).cellv 3 _ HLv.out.2.1⟩ (fun hHeld => ?_)
  clear hK K
  refine wpAnyH_take (i := 6) (oi := _) (v := ?_) rfl (by kernel_rfl) (by kernel_rfl) (by kernel_rfl) (fun _ _ _ h => h) (Or.inl ⟨by rfl, ?_⟩) (by assumption) ?_
  rotate_left
  · (intro w hSw; go_simp; first | done | (with_reducible rfl))
  simp only [Act.put, List.getElem_toArray, List.getElem_cons_succ, List.getElem_cons_zero, List.setIfInBounds_toArray, List.set_cons_zero, List.set_cons_succ]
  refine wpAnyH_ready (rs := [5]) (by kernel_rfl) (by simp) ?_
  refine AllReadyH.cons rfl (fun K hK => ?_) AllReadyH.nil
  have hC := Na.clone_c s.fr w3 HNF.out.2
  go_simp
  go_wp2_with fail
  refine hC.mono ?_
  rintro e w4 ⟨rfl, g4⟩
  have S4 := S3.grown g4
  clear hC g4 S3
  refine hK.out _ _ ⟨(S4.boxGet k1m).cellv 2 _ HLv.out.1, (S4.boxGet k1m).cellv 3 _ HLv.out.2.1⟩ (fun hHeld => ?_)
  clear hK K
  refine wpAnyH_ready (rs := [7]) (by kernel_rfl) (by simp) ?_
  refine AllReadyH.cons rfl (fun K hK => ?_) AllReadyH.nil
  have f2 : w4.frozen? ⟨xb, 2, none⟩ = false := (S4.boxGet k1m).frozen 2
  have y2 : w4.cell? ⟨xb, 2, none⟩ = some (.string s.nm) := (S4.boxGet k1m).cellv 2 _ HLv.out.1
  have S5 := S4.swap.boxPut 2 (.string s.nm)
  rw [HLv.out.2.2.1] at S5
  have HS5 := Keep.mk S5
  clear S4 S5
  go_simp
  go_wp2_with fail
  refine hK.out _ _ ⟨(HS5.out.boxGet k0m).cellv 2 _ HLv.out.1, (HS5.out.boxGet k0m).cellv 3 _ HLv.out.2.1⟩ (fun hHeld => ?_)
  clear hK K f2 y2
  generalize World.setCell w4 _ _ = w5 at HS5 hHeld ⊢
  refine wpAnyH_take (i := 8) (oi := _) (v := ?_) rfl (by kernel_rfl) (by kernel_rfl) (by kernel_rfl) (fun _ _ _ h => h) (Or.inl ⟨by rfl, ?_⟩) (by assumption) ?_
  rotate_left
  · (intro w hSw; go_simp; first | done | (with_reducible rfl))
  simp only [Act.put, List.getElem_toArray, List.getElem_cons_succ, List.getElem_cons_zero, List.setIfInBounds_toArray, List.set_cons_zero, List.set_cons_succ]
  refine wpAnyH_ready (rs := [9]) (by kernel_rfl) (by simp) ?_
  refine AllReadyH.cons rfl (fun K hK => ?_) AllReadyH.nil
  have f3 : w5.frozen? ⟨xb, 3, none⟩ = false := (HS5.out.boxGet k0m).frozen 3
  have y3 : w5.cell? ⟨xb, 3, none⟩ = some (.string s.fr) := (HS5.out.boxGet k0m).cellv 3 _ HLv.out.2.1
  have S6 := HS5.out.boxPut 3 (.string s.fr)
  rw [HLv.out.2.2.2] at S6
  have HS6 := Keep.mk S6
  clear S6
  go_simp
  go_wp2_with fail
  refine hK.out _ _ ⟨(HS6.out.boxGet k0m).cellv 2 _ HLv.out.1, (HS6.out.boxGet k0m).cellv 3 _ HLv.out.2.1⟩ (fun hHeld => ?_)
  clear hK K f3 y3
  generalize World.setCell w5 _ _ = w6 at HS6 hHeld ⊢
  refine wpAnyH_done (by kernel_rfl) ?_ _
  clear hHeld HS5
  have RNG := Keep.mk (HS6.out.boxGet k0m).range
  have HRB := Keep.mk (HS6.out.boxGet k1m)
  go_wp2_with (first
    | (show wpList _ _ _ ({ dst := _, op := Op.load 49 _, type := _, pos := _, after := _, guard := _ } :: _) _ _
       refine wpList_load_mid rfl 49 _ rfl _ _ rfl _ _ RNG.out hdu hdr (by rw [HL7.out]; exact info42) ?_)
    | (show wpList _ _ _ ({ dst := _, op := Op.store 49 _ _, type := _, pos := _, after := _, guard := _ } :: _) _ _
       refine store_box _ rb z7 lv 49 rfl rfl rfl rfl HRB.out (by rw [HL7.out]; rfl) (by rw [HL7.out]; exact info42) HL1.out ?_))
  intro w7 hS7 g7
  have S7 := hS7 _ _ HS6.out.swap
  have HS7 := Keep.mk S7
  clear hS7 g7 S7 RNG HRB HS6
  go_wp2_with fail
  exact ret_c rfl rfl (HS7.out.boxGet k0m) hdu hdr (by rw [HL7.out]; exact info42) rfl ⟨rfl, HS7.out.g⟩
end Go.Proofs.YtplcicbpkbamnabGreatDoor.Lo

