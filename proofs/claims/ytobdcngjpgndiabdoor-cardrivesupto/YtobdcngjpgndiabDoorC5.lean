/- car: Drive -/
import Derived.Test.YtobdcngjpgndiabDoorC4
import Derived.Laws.Tables
namespace Go.Proofs.YtobdcngjpgndiabDoor.Bo
open Go Go.RowKit

set_option maxRecDepth 100000 in
theorem built74 (kb : Nat) (a0 a1 a2 a3 a4 a5 a6 a7 a8 a9 a10 a11 a12 a13 b0 b1 b2 b3 b4 : Value) : Tryd.prog.built 54 [(0, pt kb), (1, .agg #[a0, a1, a2, a3, a4, a5, a6, a7, a8, a9, a10, a11, a12, a13]), (2, .agg #[b0, b1, b2, b3, b4])] = some #[pt kb, a0, a1, a2, a3, a4, a5, a6, a7, a8, a9, a10, a11, a12, a13, b0, b1, b2, b3, b4, iv 0] := by kernel_rfl
theorem run74 (kb : Nat) (c : Cr) (i : It) (W : World) : (Instr.build 54 #[(0, pt kb), (1, .agg (crv c).toArray), (2, .agg (itv i).toArray)]).run Tryd.prog W = .ok (.agg (dcs (pt kb) c i 0).toArray) W := run_build W 54 _ _ (built74 ..)
theorem wpList_build3 {P : Program} {w : World} {ops : Array Oper} {rest : List Oper} {o : Oper} {a : Act} {Q : Exit → Act → World → Prop} (hgd : o.guard = none) (x y z : Operand) (t : TypeId)
    (ho : o.op = .build t #[(0, x), (1, y), (2, z)]) (v u r : Value) (hx : a.eval x = v) (hy : a.eval y = u) (hz : a.eval z = r) {v' : Value}
    (hr : (Instr.build t #[(0, v), (1, u), (2, r)]).run P w = .ok v' w) (h : wpList P ops Q rest (a.put o.dst v') w) : wpList P ops Q (o :: rest) a w :=
  wpList_plain hgd fun _ hK => by
    unfold Oper.wp execOp
    simp only [ho, Sem.run_bind, Sem.run_pure, Result.andThen_ok, List.map_toArray, List.map_cons, List.map_nil, hx, hy, hz, hr]
    exact hK _ _ h
/-- the car and the power behind the first steps -/
noncomputable def stt (L : Bo) (c : Cr) (i : It) : Nat → Cr × Int
  | 0 => (c, 0)
  | 1 => (stH c i, 0)
  | 2 => (stH c i, pw0 i)
  | 3 => (stB (stH c i) i, pwB (stH c i) i (pw0 i))
  | 4 => (stP (stB (stH c i) i) (pwB (stH c i) i (pw0 i)), pwB (stH c i) i (pw0 i))
  | 5 => (stS (stP (stB (stH c i) i) (pwB (stH c i) i (pw0 i))), pwB (stH c i) i (pw0 i))
  | 6 => (stL (stS (stP (stB (stH c i) i) (pwB (stH c i) i (pw0 i)))), pwB (stH c i) i (pw0 i))
  | 7 => (stX L (stL (stS (stP (stB (stH c i) i) (pwB (stH c i) i (pw0 i))))), pwB (stH c i) i (pw0 i))
  | _ => (stY L (stX L (stL (stS (stP (stB (stH c i) i) (pwB (stH c i) i (pw0 i)))))), pwB (stH c i) i (pw0 i))
theorem kz16 (x : Int) : -65536 ≤ kz x (-65536) 65536 ∧ kz x (-65536) 65536 ≤ 65536 := by unfold kz; omega
theorem pwB_in (c : Cr) (i : It) : -8192 ≤ pwB c i (pw0 i) ∧ pwB c i (pw0 i) ≤ 8192 := by
  have := pw0_in i
  unfold pwB; split <;> omega
theorem stB_f (c : Cr) (i : It) : (stB c i).sx = c.sx ∧ (stB c i).sy = c.sy ∧ (stB c i).x = c.x ∧ (stB c i).y = c.y ∧ (stB c i).hd = c.hd := by
  unfold stB; split <;> exact ⟨rfl, rfl, rfl, rfl, rfl⟩
theorem stX_f (L : Bo) (c : Cr) : (stX L c).y = c.y ∧ (stX L c).sy = c.sy ∧ ((stX L c).x = c.x ∨ (stX L c).x = addZ c.x c.sx) := by
  unfold stX; split
  · exact ⟨rfl, rfl, .inl rfl⟩
  · exact ⟨rfl, rfl, .inr rfl⟩
/-- every step -/
theorem step_c (w0 W : World) (l : List As) (db : Nat) (v : Value) (L : Bo) (c : Cr) (i : It) (ok : CrOk c) (hB : Bd w0 v L) (hk : Kc w0) (k : Nat) (hk8 : k < 8) (h : Sep w0 W (boxA db (dcs v (stt L c i k).1 i (stt L c i k).2) 54 :: l)) :
    Calls Tryd.prog (22 + k) #[pt db] W fun e W' => e = .returned (.tuple #[]) ∧ Sep w0 W' (boxA db (dcs v (stt L c i (k + 1)).1 i (stt L c i (k + 1)).2) 54 :: l) := by
  have hf := stB_f (stH c i) i
  match k, hk8 with
  | 0, _ => exact steer_c w0 W l db v c i 0 h
  | 1, _ => exact fuel_c w0 W l db v (stH c i) i 0 h
  | 2, _ => exact boost_c w0 W l db v (stH c i) i (pw0 i) h (pw0_in i) ok.en
  | 3, _ => exact push_c w0 W l db v (stB (stH c i) i) i _ h hk (pwB_in _ _) (by rw [hf.1]; exact ok.sx) (by rw [hf.2.1]; exact ok.sy)
  | 4, _ => exact slow_c w0 W l db v _ i _ h (bd_in _) (bd_in _)
  | 5, _ => exact limit_c w0 W l db v _ i _ h
  | 6, _ => exact moveX_c w0 W l db v L (stL (stS (stP (stB (stH c i) i) (pwB (stH c i) i (pw0 i))))) i _ h hB (by show In (stB (stH c i) i).x; rw [hf.2.2.1]; exact ok.x) (by show In (stB (stH c i) i).y; rw [hf.2.2.2.1]; exact ok.y) (kz16 _)
  | 7, _ =>
    have hg := stX_f L (stL (stS (stP (stB (stH c i) i) (pwB (stH c i) i (pw0 i)))))
    refine moveY_c w0 W l db v L (stX L (stL (stS (stP (stB (stH c i) i) (pwB (stH c i) i (pw0 i)))))) i _ h hB ?_ ?_ ?_
    · rcases hg.2.2 with e | e
      · rw [e]; show In (stB (stH c i) i).x; rw [hf.2.2.1]; exact ok.x
      · rw [e]; exact addZ_in _ _
    · rw [hg.1]; show In (stB (stH c i) i).y; rw [hf.2.2.2.1]; exact ok.y
    · rw [hg.2.1]; exact kz16 _
set_option maxRecDepth 100000 in
theorem enters (k : Nat) (h : k < 8) (a : Array Value) (W : World) : (callFunc (22 + k) a).run Tryd.prog W = .ok (.enter (22 + k) a) W :=
  match k, h with
  | 0, _ => by kernel_rfl
  | 1, _ => by kernel_rfl
  | 2, _ => by kernel_rfl
  | 3, _ => by kernel_rfl
  | 4, _ => by kernel_rfl
  | 5, _ => by kernel_rfl
  | 6, _ => by kernel_rfl
  | 7, _ => by kernel_rfl
def fns (db : Nat) : List Value := [.func (.func 22) #[pt db] #[], .func (.func 23) #[pt db] #[], .func (.func 24) #[pt db] #[], .func (.func 25) #[pt db] #[], .func (.func 26) #[pt db] #[], .func (.func 27) #[pt db] #[], .func (.func 28) #[pt db] #[], .func (.func 29) #[pt db] #[]]
theorem fns_get (db k : Nat) (h : k < 8) : (fns db)[k]? = some (.func (.func (22 + k)) #[pt db] #[]) :=
  match k, h with
  | 0, _ => rfl
  | 1, _ => rfl
  | 2, _ => rfl
  | 3, _ => rfl
  | 4, _ => rfl
  | 5, _ => rfl
  | 6, _ => rfl
  | 7, _ => rfl
theorem itv_zero : itv ⟨0, 0, 0, false, false⟩ = [iv 0, iv 0, iv 0, .bool false, .bool false] := rfl
set_option maxRecDepth 100000 in
set_option maxHeartbeats 16000000 in
theorem drive_c (w : World) (v : Value) (L : Bo) (c : Cr) (i : It) (ok : CrOk c) (hB : Bd w v L) (hk : Kc w) :
    Calls Tryd.prog 7 #[v, .agg (crv c).toArray, .agg (itv i).toArray] w fun e w' => e = .returned (.agg (crv (drvC L c i)).toArray) ∧ w.grownBy w' none := by
  obtain ⟨du, hdu, hdr⟩ := underC
  obtain ⟨dI, hdI, hdIr⟩ := underI
  obtain ⟨kb, kr, cr, hv, hrest⟩ := hB.o
  clear hrest
  subst hv
  have HST := Keep.mk (fun W l db k (hk8 : k < 8) h => step_c w W l db (pt kb) L c i ok hB hk k hk8 h)
  have hO := Keep.mk (fun W => own_c W c ok.nm)
  have hW := Keep.mk (fun W => wreck_c W c)
  have HL1 := Keep.mk (crv_one c)
  have S3 := (((Sep.nil w).newBox (crv c).toArray 25).newBox (itv i).toArray 34).newBox zC14.toArray 25
  obtain ⟨W1, hW1⟩ : ∃ W1, w.alloc (.cells (crv c).toArray 25) = W1 := ⟨_, rfl⟩
  obtain ⟨xb, hxb⟩ : ∃ xb, w.heap.size = xb := ⟨_, rfl⟩
  rw [hW1, hxb] at S3
  obtain ⟨W2, hW2⟩ : ∃ W2, W1.alloc (.cells (itv i).toArray 34) = W2 := ⟨_, rfl⟩
  obtain ⟨ib, hib⟩ : ∃ ib, W1.heap.size = ib := ⟨_, rfl⟩
  rw [hW2, hib] at S3
  obtain ⟨W3, hW3⟩ : ∃ W3, W2.alloc (.cells zC14.toArray 25) = W3 := ⟨_, rfl⟩
  obtain ⟨rb, hrb⟩ : ∃ rb, W2.heap.size = rb := ⟨_, rfl⟩
  rw [hW3, hrb] at S3
  change Sep w W3 [boxA rb zC14 25, boxA ib (itv i) 34, boxA xb (crv c) 25] at S3
  have hsz : (crv c).toArray.size = 14 := rfl
  have hsi : (itv i).toArray.size = 5 := rfl
  unfold zC14 crv zC at hW3
  change W2.alloc _ = W3 at hW3
  have HS3 := Keep.mk S3
  have RNG := Keep.mk (S3.boxGet k2m).range
  clear S3 ok hB hk
  have HD : Keep ((0 < c.wa → drvC L c i = c) ∧ (¬ 0 < c.wa → drvC L c i = (stt L c i 8).1)) := ⟨fun h => by unfold drvC; rw [if_pos h], fun h => by unfold drvC; rw [if_neg h]; rfl⟩
  generalize drvC L c i = cf at HD ⊢
  go_enter Tryd.func7, Tryd.ntmps7
  go_wp2_with (first
    | (show wpList _ _ _ ({ dst := _, op := Op.load 25 _, type := _, pos := _, after := _, guard := _ } :: _) _ _
       refine wpList_load_mid rfl 25 _ rfl _ _ rfl _ _ RNG.out hdu hdr (infoC' c) ?_))
  refine (hO.out _).mono ?_
  rintro e w3 ⟨rfl, g3⟩
  have HS4 := Keep.mk (HS3.out.grown g3).third
  have HRB := Keep.mk (HS4.out.boxGet k0m)
  clear g3 HS3 RNG hO hW1 hW2 hW3 hxb hib hrb
  go_wp2_with (first
    | (show wpList _ _ _ ({ dst := _, op := Op.store 25 _ _, type := _, pos := _, after := _, guard := _ } :: _) _ _
       refine store_at _ xb 0 (crv c) (crv c) 25 25 rfl rfl rfl rfl HRB.out (Nat.le_refl _) (infoC' c) HL1.out ?_))
  intro w4 hS4 g4
  have S5 := hS4 _ _ HS4.out
  rw [over_all _ _ rfl] at S5
  have HS5 := Keep.mk S5
  have RNG := Keep.mk (S5.boxGet k0m).range
  clear hS4 g4 S5 HRB HS4
  go_wp2_with (first
    | (show wpList _ _ _ ({ dst := _, op := Op.load 25 _, type := _, pos := _, after := _, guard := _ } :: _) _ _
       refine wpList_load_mid rfl 25 _ rfl _ _ rfl _ _ RNG.out hdu hdr (infoC' c) ?_))
  refine (hW.out _).mono ?_
  rintro e w5 ⟨rfl, g5⟩
  have HS6 := Keep.mk (HS5.out.grown g5)
  have RNG6 := Keep.mk (HS6.out.boxGet k0m).range
  have RNI6 := Keep.mk (HS6.out.boxGet k2m).range
  have HRB := Keep.mk (HS6.out.boxGet k1m)
  clear g5 HS5 RNG hW
  by_cases hwr : 0 < c.wa
  · have HD1 := Keep.mk (HD.out.1 hwr)
    have hdec : decide (0 < c.wa) = true := decide_eq_true hwr
    go_wp2_with (first
      | (show wpList _ _ _ ({ dst := _, op := Op.load 25 _, type := _, pos := _, after := _, guard := _ } :: _) _ _
         refine wpList_load_mid rfl 25 _ rfl _ _ rfl _ _ RNG6.out hdu hdr (infoC' c) ?_)
      | (show wpList _ _ _ ({ dst := _, op := Op.store 25 _ _, type := _, pos := _, after := _, guard := _ } :: _) _ _
         refine store_at _ rb 0 zC14 (crv c) 25 25 rfl rfl rfl rfl HRB.out (Nat.le_refl _) (infoC' c) HL1.out ?_))
    intro w7 hS7 g7
    have S7 := hS7 _ _ HS6.out.swap
    rw [over_all zC14 (crv c) rfl] at S7
    have HS7 := Keep.mk S7
    clear hS7 g7 S7 RNG6 RNI6 HRB HS6
    go_wp2_with fail
    exact ret_c rfl rfl (HS7.out.boxGet k0m) hdu hdr (infoC' c) rfl ⟨by rw [HD1.out], HS7.out.g⟩
  have HD1 := Keep.mk (HD.out.2 (Int.not_lt.1 hwr))
  have hdec : decide (0 < c.wa) = false := decide_eq_false hwr
  have hdsz : (dcs (pt kb) c i 0).toArray.size = 21 := rfl
  clear HD hwr
  obtain ⟨W7, hW7⟩ : ∃ W7, w5.alloc (.cells (dcs (pt kb) c i 0).toArray 54) = W7 := ⟨_, rfl⟩
  obtain ⟨db, hdb⟩ : ∃ db, w5.heap.size = db := ⟨_, rfl⟩
  have S7 := HS6.out.newBox (dcs (pt kb) c i 0).toArray 54
  rw [hW7, hdb] at S7
  have HS7 := Keep.mk S7
  clear S7 HS6
  go_wp2_with (first
    | (show wpList _ _ _ ({ dst := _, op := Op.load 25 _, type := _, pos := _, after := _, guard := _ } :: _) _ _
       refine wpList_load_mid rfl 25 _ rfl _ _ rfl _ _ RNG6.out hdu hdr (infoC' c) ?_)
    | (show wpList _ _ _ ({ dst := _, op := Op.load 34 _, type := _, pos := _, after := _, guard := _ } :: _) _ _
       refine wpList_load_mid rfl 34 _ rfl _ _ rfl _ _ RNI6.out hdI hdIr infoI ?_)
    | (show wpList _ _ _ ({ dst := _, op := Op.build 54 _, type := _, pos := _, after := _, guard := _ } :: _) _ _
       refine wpList_build3 rfl _ _ _ 54 rfl _ _ _ rfl rfl rfl (run74 kb c i _) ?_))
  have S8 := HS7.out.newBox (fns db).toArray 1
  obtain ⟨W8, hW8⟩ : ∃ W8, W7.alloc (.cells (fns db).toArray 1) = W8 := ⟨_, rfl⟩
  obtain ⟨fb, hfb⟩ : ∃ fb, W7.heap.size = fb := ⟨_, rfl⟩
  rw [hW8, hfb] at S8
  have hW8' := hW8
  unfold fns at hW8'
  change W7.alloc (.cells #[_, _, _, _, _, _, _, _] 1) = W8 at hW8'
  rw [hW8', hfb]
  have HS8 := Keep.mk S8.swap
  clear S8 HS7 hW8 hW8' hfb RNG6 RNI6 HRB hW7 hdb hdsz hsz hsi hdec
  go_loopw [38] (fun u wr => ∃ k : Nat, k ≤ 8 ∧ u = iv k ∧ Keep (Sep w wr (boxA db (dcs (pt kb) (stt L c i k).1 i (stt L c i k).2) 54 :: [boxA fb (fns db) 1, boxA xb (crv c) 25, boxA rb zC14 25, boxA ib (itv i) 34]))) (fun u _ => (8 - intOf u).toNat)
  case atStart => exact ⟨0, by omega, rfl, HS8⟩
  case round =>
    obtain ⟨k, hk8, rfl, HR⟩ := hrel
    clear HS8
    by_cases hlt : k < 8
    · have hcell : wr.cell? ⟨fb, k, none⟩ = some (.func (.func (22 + k)) #[pt db] #[]) := (HR.out.boxGet k1m).cellv k _ (fns_get db k hlt)
      have hen := enters k hlt
      have hT := HST.out wr _ db k hlt HR.out
      obtain ⟨f, hf⟩ : ∃ f, 22 + k = f := ⟨_, rfl⟩
      rw [hf] at hcell hT hen
      have h1 : (k : Int) < 8 := by omega
      clear HR hf
      go_wp2_with fail
      refine hT.mono ?_
      rintro e w9 ⟨rfl, S9⟩
      have HS9 := Keep.mk S9
      have h2 : IntKind.i64.wrap ((k : Int) + 1) = ((k + 1 : Nat) : Int) := by rw [wi _ (by omega) (by omega)]; omega
      clear hT S9 hen hcell
      go_wp2_with fail
      exact ⟨⟨k + 1, by omega, rfl, HS9⟩, by simp [intOf]; omega⟩
    · have hk : k = 8 := by omega
      have h1 : ¬ (k : Int) < 8 := by omega
      have h2 : decide ((k : Int) < 8) = false := decide_eq_false h1
      have HR8 : Keep (Sep w wr (boxA db (dcs (pt kb) cf i (stt L c i 8).2) 54 :: [boxA fb (fns db) 1, boxA xb (crv c) 25, boxA rb zC14 25, boxA ib (itv i) 34])) := ⟨by rw [HD1.out]; rw [hk] at HR; exact HR.out⟩
      have RNG := Keep.mk ((HR8.out.boxGet k0m).rangeMid 1 [pt kb] (crv cf) (itv i ++ [iv (stt L c i 8).2]) rfl rfl)
      have HRB := Keep.mk (HR8.out.boxGet k3m)
      have HLf := Keep.mk (crv_one cf)
      clear HR HD1 hk HST
      go_wp2_with (first
        | (show wpList _ _ _ ({ dst := _, op := Op.load 25 _, type := _, pos := _, after := _, guard := _ } :: _) _ _
           refine wpList_load_mid rfl 25 _ rfl _ _ rfl _ _ RNG.out hdu hdr (infoC' cf) ?_)
        | (show wpList _ _ _ ({ dst := _, op := Op.store 25 _ _, type := _, pos := _, after := _, guard := _ } :: _) _ _
           refine store_at _ rb 0 zC14 (crv cf) 25 25 rfl rfl rfl rfl HRB.out (Nat.le_refl _) (infoC' cf) HLf.out ?_))
      intro w7 hS7 g7
      have S7 := hS7 _ _ (fr1 [boxA db (dcs (pt kb) cf i (stt L c i 8).2) 54, boxA fb (fns db) 1, boxA xb (crv c) 25] HR8.out)
      rw [over_all zC14 (crv cf) rfl] at S7
      have HS7 := Keep.mk S7
      clear hS7 g7 S7 RNG HRB HR8
      go_wp2_with fail
      exact ret_c rfl rfl (HS7.out.boxGet k0m) hdu hdr (infoC' cf) rfl ⟨rfl, HS7.out.g⟩
end Go.Proofs.YtobdcngjpgndiabDoor.Bo
