import Derived.Test.YtldnpebnpbahjaaGreatDoorX13
import Derived.Test.YtldnpebnpbahjaaGreatDoorX15
import Derived.Test.YtldnpebnpbahjaaGreatDoorX11
import Derived.Test.YtldnpebnpbahjaaGreatDoorX14
set_option maxRecDepth 100000
set_option maxHeartbeats 8000000
namespace Go.Proofs.YtldnpebnpbahjaaGreatDoor.Pk.Sn
open Go Go.RowKit Go.Proofs.Tryz
structure Cl where
  nm : ByteArray
  sc : ByteArray
  nc : ByteArray
  st : Nat
  num : Nat
  pl : Int
  key : ByteArray
  sd : Nat
  bl : Nat
  mx : Nat
  vw : ByteArray
def Cl.cs (C : Cl) : List Value := [.string C.nm, .string C.sc, .string C.nc, fv C.st, uv C.num, iv C.pl, .string C.key, uv C.sd, uv C.bl, uv C.mx, .string C.vw]
def eiB (n : Nat) : ByteArray := ba (Mac.len8 n)
def sesU : ByteArray := { data := #[115, 101, 115, 115, 105, 111, 110] }
def keyB (sc nc salt : ByteArray) (n : Nat) : ByteArray := deriveB sc sesU [nc, salt, eiB n]
def sesD (C : Cl) (d : Dg) : Dg := { d with session := C.num, seq := C.sd + 1 }
def slX (C : Cl) (d : Dg) : ByteArray × Int := if C.num = 0 then (nob, 240) else if (sealD (sesD C d) C.key).2 = 0 then ((sealD (sesD C d) C.key).1, 0) else (nob, (sealD (sesD C d) C.key).2)
def slS (C : Cl) (d : Dg) : Cl := if (slX C d).2 = 0 then { C with sd := C.sd + 1 } else C
def endS (C : Cl) : Cl := { C with st := 54, num := 0, pl := 0, key := nob, sd := 0, bl := 0 }
def cmdD (t u : Int) (f b : Bool) : Dg := { Dg.zero 5 with thr := t, turn := u, fire := f, boost := b }
def conD (C : Cl) (D : Dg) : Dg := { Dg.zero 3 with nonce := C.nc, epoch := D.epoch, cookie := D.cookie, name := C.nm }
def helD (C : Cl) : Dg := { Dg.zero 1 with nonce := C.nc }
def judS (C : Cl) (data : ByteArray) (D : Dg) : Int := if D.session ≠ C.num then 240 else if sealed data C.key = false then 124 else if D.seq ≤ C.bl then 241 else 0
def lokS (C : Cl) (data : ByteArray) (D : Dg) : Cl × Int := if judS C data D ≠ 0 then (C, judS C data D) else if (rdV (sl D.data)).2 ≠ 0 then (C, (rdV (sl D.data)).2) else ({ C with vw := D.data, bl := D.seq }, 0)
def disS (C : Cl) (data : ByteArray) (D : Dg) : Cl × Int := if judS C data D ≠ 0 then (C, judS C data D) else (endS C, 0)
def begS (C : Cl) (data : ByteArray) (D : Dg) : Cl × Int := if D.session ≤ C.mx then (C, 241) else if sealed data (keyB C.sc C.nc D.salt D.session) = false then (C, 124)
  else ({ C with st := 168, num := D.session, pl := D.player, key := keyB C.sc C.nc D.salt D.session, sd := 0, bl := 0, mx := D.session }, 0)
def greS (C : Cl) (data : ByteArray) (D : Dg) : ByteArray × Int × Cl := if D.nonce = C.nc ∧ D.kind = 2 then ((sealD (conD C D) C.sc).1, (sealD (conD C D) C.sc).2, C) else if D.nonce = C.nc ∧ D.kind = 4 then (nob, (begS C data D).2, (begS C data D).1) else (nob, 240, C)
def plaS (C : Cl) (data : ByteArray) (D : Dg) : ByteArray × Int × Cl := if D.kind = 6 then (nob, (lokS C data D).2, (lokS C data D).1) else if D.kind = 7 then (nob, (disS C data D).2, (disS C data D).1) else (nob, 240, C)
def nxtS (C : Cl) (data : ByteArray) (D : Dg) : ByteArray × Int × Cl := if C.st = 54 then greS C data D else if C.st = 168 then plaS C data D else (nob, 240, C)
def heaS (C : Cl) (data : ByteArray) : ByteArray × Int × Cl := if (dec (sl data)).2 ≠ 0 then (nob, (dec (sl data)).2, C) else if (dec (sl data)).1.kind = 1 ∨ (dec (sl data)).1.kind = 3 ∨ (dec (sl data)).1.kind = 5 then (nob, 71, C) else nxtS C data (dec (sl data)).1
def helS (C : Cl) : ByteArray × Int × Cl := if C.num ≠ 0 then (nob, 240, C) else (ba (enc (helD C)).1, (enc (helD C)).2, { C with st := 54 })
def byeS (C : Cl) : ByteArray × Int × Cl := ((slX C (Dg.zero 7)).1, (slX C (Dg.zero 7)).2, if (slX C (Dg.zero 7)).2 = 0 then endS C else C)
structure Cl.ok (C : Cl) : Prop where
  nm : C.nm.size ≤ 24
  sc : C.sc.size = 32
  nc : C.nc.size = 16
  key : C.key.size ≤ 32
  num : C.num < 18446744073709551616
  pl : -9223372036854775808 ≤ C.pl ∧ C.pl < 9223372036854775808
  bl : C.bl < 18446744073709551616
  mx : C.mx < 18446744073709551616
  vw : C.vw.size ≤ 1200
  st : C.st = 52 ∨ C.st = 54 ∨ C.st = 168
def hcs (data : ByteArray) (D : Dg) : List Value := .string data :: D.cells
theorem underH : ∃ d, prog.underlying 93 = some d ∧ d.isRow = true := ⟨_, underlying93, rfl⟩
theorem infoH : (prog.info? 93).map (·.size) = some 16 := by kernel_rfl
theorem infoSe : (prog.info? 81).map (·.size) = some 5 := by kernel_rfl
theorem hcs_one (data : ByteArray) (D : Dg) : ∀ v ∈ hcs data D, v.oneCell' = true := by
  intro v hv; rcases List.mem_cons.1 hv with rfl | hv
  · rfl
  · exact dg_one D v hv
theorem gr_same {w w1 w2 : World} {b : Nat} (h : w.grownBy w1 (some b)) (k : w1.grownBy w2 (some b)) : w.grownBy w2 (some b) := h.trans k
theorem st_part {ops : Array Oper} {rest : List Oper} {op : Oper} {a : Act} {Q : Exit → Act → World → Prop} (w3 : World) (rb o : Nat) (ds cs : List Value) (T T' : TypeId) (hgd : op.guard = none) {x y : Operand} (ho : op.op = .store T x y)
    (hx : a.eval x = .pointer (some ⟨rb, o, none⟩)) (hy : a.eval y = .agg cs.toArray) (hh : Has w3 rb ds T') (hl : o + cs.length ≤ ds.length) (hi : (prog.info? T).map (·.size) = some cs.length) (h1 : ∀ v ∈ cs, v.oneCell' = true)
    (h : ∀ w6, Has w6 rb (over ds o cs) T' → w3.grownBy w6 (some rb) → wpList prog ops Q rest (a.put op.dst undef) w6) : wpList prog ops Q (op :: rest) a w3 := by
  refine wpList_store_mid hgd T x y ho rb o cs.toArray hx hy (hh.there o cs.toArray.size (by rw [List.size_toArray]; omega)) (by rw [List.size_toArray]; exact hi) (all_oneCell_toArray h1) ?_; exact h _ (hh.setCells cs o) (gr_sets _ _ _ _)
theorem lives_c (cb n : Nat) (w : World) (h : w.cell? ⟨cb, 4, none⟩ = some (uv n)) : CRs 44 #[pa cb 4] w (.bool (decide (n ≠ 0))) := by
  by_cases hn : n = 0
  · subst hn; go_enter func44, ntmps44; go_wp2_with fail; go_ret; exact ⟨by simp, rfl⟩
  · have h1 : decide ((n : Int) > 0) = true := decide_eq_true (by omega); have h2 : decide ((0 : Int) < (n : Int)) = true := decide_eq_true (by omega); have h3 : decide (0 < n) = true := decide_eq_true (by omega); have h4 : decide (n ≠ 0) = true := decide_eq_true hn; rw [h4]; clear h4 hn; go_enter func44, ntmps44; go_wp2_with fail; go_ret; exact ⟨by simp, rfl⟩
theorem judge_c (cb : Nat) (C : Cl) (data : ByteArray) (D : Dg) (w : World) (hk : Kc w) (hh : Has w cb C.cs 83) (hd : data.size ≤ 281474976710656) (hkey : C.key.size ≤ 32) :
    CRt 227 #[pa cb 4, .agg (hcs data D).toArray] w (iv (judS C data D)) := by
  obtain ⟨w0, hw0⟩ : ∃ q, w.alloc (.cells (hcs data D).toArray 93) = q := ⟨_, rfl⟩; obtain ⟨h0, g0, s0⟩ := hasN hw0; have HC : Kp (Has w0 cb C.cs 83) := ⟨hh.kept g0 (by simp)⟩; have e0 : w0.cell? ⟨w.heap.size, 0, none⟩ = some (.string data) := h0.cellv 0 _ rfl; have e6 : w0.cell? ⟨w.heap.size, 6, none⟩ = some (uv D.session) := h0.cellv 6 _ rfl; have e9 : w0.cell? ⟨w.heap.size, 9, none⟩ = some (uv D.seq) := h0.cellv 9 _ rfl; have c4 : w0.cell? ⟨cb, 4, none⟩ = some (uv C.num) := HC.out.cellv 4 _ rfl; have c6 : w0.cell? ⟨cb, 6, none⟩ = some (.string C.key) := HC.out.cellv 6 _ rfl; have c8 : w0.cell? ⟨cb, 8, none⟩ = some (uv C.bl) := HC.out.cellv 8 _ rfl; have HG := Kp.mk (And.intro g0 (And.intro (hk.kept g0 (by simp)) (And.intro hd hkey))); unfold hcs Dg.cells at hw0; unfold hcs Dg.cells; have HJ : Kp (judS C data D = judS C data D) := ⟨rfl⟩; obtain ⟨J, hJ⟩ : ∃ q, judS C data D = q := ⟨_, rfl⟩; rw [hJ]; unfold judS at hJ; clear h0 g0 s0 hk hh hd hkey HC HJ; by_cases h1 : D.session ≠ C.num
  · rw [if_pos h1] at hJ; (have q1 : ((D.session : Int) != (C.num : Int)) = true := by simp; omega); (have q2 : (D.session != C.num) = true := by simp; omega); clear h1; subst hJ; go_enter func227, ntmps227; go_wp2_with fail; go_quiet (fail); go_wp2_with fail; go_ret; exact ⟨rfl, HG.out.1.trans (gr_drewN _ _ _)⟩
  · rw [if_neg h1] at hJ; (have q1 : ((D.session : Int) != (C.num : Int)) = false := by simp; omega); (have q2 : (D.session != C.num) = false := by simp; omega); clear h1; go_enter func227, ntmps227; go_wp2_with fail; go_quiet (fail); go_wp2_with fail; have e0n := (gr_drewN w0 nq none).cell e0 (by simp); have c6n := (gr_drewN w0 nq none).cell c6 (by simp); refine region_Y (S := fun w' => (w0.drewN nq).grownBy w' none) [] (by kernel_rfl) ?_; have hHeld := (gr_drew (w0.drewN nq) none); refine yq 0 rfl ?_; refine yk 1 rfl ?_ (fun w hSw => by have k0 := hSw.cell e0n (by simp); go_simp; first | done | (with_reducible rfl)); refine yq 2 rfl ?_; refine yq 3 rfl ?_; refine yq 4 rfl ?_; refine yk 5 rfl ?_ (fun w hSw => by have k0 := hSw.cell c6n (by simp); go_simp; first | done | (with_reducible rfl)); simp only [Act.put, uz]; refine yo 6 (fun K hK => ?_) rfl; go_simp; refine (sealed_c data C.key _ (HG.out.2.1.kept ((gr_drewN _ _ none).trans hHeld) (by simp)) HG.out.2.2.1 (by have := HG.out.2.2.2; omega)).mono ?_; rintro e w1 ⟨rfl, g10⟩; have g1 := Kp.mk (hHeld.trans g10); refine hK.out _ _ (fun q => q.trans g10) ?_; clear hK K g10; refine yq 7 rfl ?_; simp only [Act.put, uz]; refine yo 8 (fun K hK => ?_) rfl; go_simp; refine hK.out _ _ (fun h => h) ?_; clear hK K; refine yd ?_; obtain ⟨S, hS⟩ : ∃ S, sealed data C.key = S := ⟨_, rfl⟩; rw [hS] at hJ ⊢; have e9n := g1.out.cell ((gr_drewN w0 nq none).cell e9 (by simp)) (by simp); have c8n := g1.out.cell ((gr_drewN w0 nq none).cell c8 (by simp)) (by simp); have HE : Kp (w.grownBy w1 none) := ⟨(HG.out.1.trans (gr_drewN w0 nq none)).trans g1.out⟩; clear hS hHeld e0n c6n e0 e6 e9 c4 c6 c8 hw0 g1 q1 q2; cases S
    · rw [if_pos rfl] at hJ; subst hJ; go_wp2_with fail; go_ret; exact ⟨rfl, HE.out⟩
    · rw [if_neg (by simp)] at hJ; by_cases h3 : D.seq ≤ C.bl
      · rw [if_pos h3] at hJ; subst hJ; have q1 : decide ((D.seq : Int) ≤ (C.bl : Int)) = true := decide_eq_true (by omega); have q2 : decide (D.seq ≤ C.bl) = true := decide_eq_true h3; go_wp2_with fail; go_quiet (fail); go_wp2_with fail; go_ret; exact ⟨rfl, HE.out.trans (gr_drewN _ _ _)⟩
      · rw [if_neg h3] at hJ; subst hJ; have q1 : decide ((D.seq : Int) ≤ (C.bl : Int)) = false := decide_eq_false (by omega); have q2 : decide (D.seq ≤ C.bl) = false := decide_eq_false h3; clear h3; go_wp2_with fail; go_quiet (fail); go_wp2_with fail; go_ret; exact ⟨rfl, HE.out.trans (gr_drewN _ _ _)⟩
theorem onep {C : Cl} : ∀ v ∈ [uv C.num, iv C.pl, .string C.key, uv C.sd, uv C.bl], v.oneCell' = true := by
  intro v hv; simp only [List.mem_cons, List.not_mem_nil, or_false] at hv; rcases hv with rfl | rfl | rfl | rfl | rfl <;> rfl
theorem builtS0 : prog.built 81 [] = some #[.int .u64 0, .int .i64 0, .string { data := #[] }, .int .u64 0, .int .u64 0] := by kernel_rfl
theorem end_c (cb : Nat) (C : Cl) (w : World) (hh : Has w cb C.cs 83) :
    Calls prog 43 #[pa cb 0] w fun e w' => e = .returned (.tuple #[]) ∧ Has w' cb (endS C).cs 83 ∧ w.grownBy w' (some cb) := by
  have HH := Kp.mk hh; have HB := Kp.mk builtS0; clear hh; go_enter func43, ntmps43
  go_wp2_with (first
    | (with_reducible show wpList _ _ _ ({ dst := _, op := Op.build 81 _, type := _, pos := _, after := _, guard := _ } :: _) _ _
       refine build_g rfl 81 _ rfl _ ((congrArg (prog.built 81) (by simp only [List.map_toArray, List.map_nil]; rfl)).trans HB.out) ?_
       simp only [Act.put, uz])
    | (with_reducible show wpList _ _ _ ({ dst := _, op := Op.store 81 _ _, type := _, pos := _, after := _, guard := _ } :: _) _ _
       refine st_part w cb 4 C.cs [uv 0, iv 0, .string nob, uv 0, uv 0] 81 83 rfl rfl rfl rfl HH.out (by show 4 + 5 ≤ 11; omega) infoSe (onep (C := endS C)) ?_; intro w6 h6 g6; have H6 : Kp (Has w6 cb { C with num := 0, pl := 0, key := nob, sd := 0, bl := 0 : Cl }.cs 83 ∧ w.grownBy w6 (some cb)) := ⟨h6, g6⟩; have c3 := H6.out.1.cellv 3 _ rfl; have z3 := H6.out.1.frozen 3
       clear h6 g6))
  go_end0
  exact ⟨rfl, H6.out.1.setCell 3 _, gr_same H6.out.2 (gr_set _ _ _ _)⟩
theorem seal_code {d : Dg} {key : ByteArray} (hk : 3 ≤ d.kind ∧ d.kind ≤ 7) : (sealD d key).2 = (enc d.bare).2 := by
  unfold sealD; rw [if_pos hk]; split
  · rename_i h; exact h.symm
  · rfl
theorem enc_fit {d : Dg} (hf : d.fine) (h0 : fieldsL d.kind ≠ []) (h : ∀ f ∈ fieldsL d.kind, fitF d f) (hl : (headL d ++ bytesF d (fieldsL d.kind)).length ≤ 1200) : enc d = (headL d ++ bytesF d (fieldsL d.kind), 0) := by
  rw [enc_is d hf, if_neg h0, if_pos h, if_neg (by omega)]
theorem seal_good {d : Dg} {key : ByteArray} (hf : d.fine) (h : (sealD d key).2 = 0) : ∃ x : ByteArray, dec (sl (sealD d key).1) = (onlyD (d.wear x), 0) ∧ sealed (sealD d key).1 key = true ∧ (sealD d key).1.size ≤ 1200 ∧ 52 ≤ (sealD d key).1.size := by
  obtain ⟨B, t, e, _, _, ht, hB, hB2, _, hd, _, hs⟩ := seal_all d key hf h; refine ⟨ba t, ?_, ?_, ?_, ?_⟩
  · rw [e, show sl (ba (B ++ t)) = B ++ t from sl_mk _]; exact hd
  · rw [e]; exact hs
  · rw [e, ba_size, List.length_append]; omega
  · rw [e, ba_size, List.length_append]; omega
theorem fl1 : fieldsL 1 = [.nonce, .zeros] := by simp [fieldsL]
theorem fl2 : fieldsL 2 = [.nonce, .epoch, .cookie] := by simp [fieldsL]
theorem fl3 : fieldsL 3 = [.nonce, .epoch, .cookie, .name, .tag] := by simp [fieldsL]
theorem fl4 : fieldsL 4 = [.nonce, .session, .player, .salt, .tag] := by simp [fieldsL]
theorem on1 (d : Dg) (h : d.kind = 1) : onlyD d = { Dg.zero 1 with nonce := d.nonce } := by unfold onlyD; rw [h, fl1]; rfl
theorem on2 (d : Dg) (h : d.kind = 2) : onlyD d = { Dg.zero 2 with nonce := d.nonce, epoch := d.epoch, cookie := d.cookie } := by unfold onlyD; rw [h, fl2]; rfl
theorem on3 (d : Dg) (h : d.kind = 3) : onlyD d = { Dg.zero 3 with nonce := d.nonce, epoch := d.epoch, cookie := d.cookie, name := d.name, tag := d.tag } := by unfold onlyD; rw [h, fl3]; rfl
theorem on4 (d : Dg) (h : d.kind = 4) : onlyD d = { Dg.zero 4 with nonce := d.nonce, session := d.session, player := d.player, salt := d.salt, tag := d.tag } := by unfold onlyD; rw [h, fl4]; rfl
theorem head4 (d : Dg) : (headL d).length = 4 := rfl
theorem z32 : zero32.size = 32 := zero32_size
def cmdOk (t u : Int) : Prop := -128 ≤ t ∧ t ≤ 127 ∧ -128 ≤ u ∧ u ≤ 127
instance (t u : Int) : Decidable (cmdOk t u) := by unfold cmdOk; infer_instance
theorem con_code {d : Dg} {key : ByteArray} (hf : d.fine) (hk : d.kind = 3) (h1 : d.nonce.size = 16) (h2 : d.cookie.size = 32) (h3 : d.name.size ≤ 24) : (sealD d key).2 = 0 := by
  rw [seal_code (by omega)]; have hb : d.bare.fine := Dg.bare_fine hf; have hk2 : d.bare.kind = 3 := hk; rw [enc_fit hb (by rw [hk2, fl3]; simp)]
  · rw [hk2, fl3]; intro f hf2; simp only [List.mem_cons, List.not_mem_nil, or_false] at hf2; rcases hf2 with rfl | rfl | rfl | rfl | rfl
    · exact h1
    · exact hb.e
    · exact h2
    · show d.name.size ≤ 255; omega
    · exact z32
  · rw [hk2, fl3]; simp only [bytesF, List.map_cons, List.map_nil, List.flatten_cons, List.flatten_nil, List.length_append, head4, lyB, be_len, sl_len, List.length_nil, List.length_cons]; show 4 + (d.nonce.size + (8 + (d.cookie.size + (d.name.size + 1 + (zero32.size + 0))))) ≤ 1200; rw [z32]; omega
theorem wel_code {d : Dg} {key : ByteArray} (hf : d.fine) (hk : d.kind = 4) (h1 : d.nonce.size = 16) (h2 : d.salt.size = 16) (h3 : 0 ≤ d.player ∧ d.player ≤ 255) : (sealD d key).2 = 0 := by
  rw [seal_code (by omega)]; have hb : d.bare.fine := Dg.bare_fine hf; have hk2 : d.bare.kind = 4 := hk; rw [enc_fit hb (by rw [hk2, fl4]; simp)]
  · rw [hk2, fl4]; intro f hf2; simp only [List.mem_cons, List.not_mem_nil, or_false] at hf2; rcases hf2 with rfl | rfl | rfl | rfl | rfl
    · exact h1
    · exact hb.s
    · refine ⟨by decide, ?_⟩; show u64 d.player < 256; unfold u64; omega
    · exact h2
    · exact z32
  · rw [hk2, fl4]; simp only [bytesF, List.map_cons, List.map_nil, List.flatten_cons, List.flatten_nil, List.length_append, head4, lyB, be_len, sl_len, List.length_nil]; show 4 + (d.nonce.size + (8 + (1 + (d.salt.size + (zero32.size + 0))))) ≤ 1200; rw [z32]; omega
theorem hel_code {d : Dg} (hf : d.fine) (hk : d.kind = 1) (h1 : d.nonce.size = 16) : (enc d).2 = 0 ∧ (enc d).1.length = 96 := by
  have e := enc_fit hf (by rw [hk, fl1]; simp) (by
    rw [hk, fl1]; intro f hf2; simp only [List.mem_cons, List.not_mem_nil, or_false] at hf2; rcases hf2 with rfl | rfl
    · exact h1
    · exact trivial) (by
    rw [hk, fl1]; simp only [bytesF, List.map_cons, List.map_nil, List.flatten_cons, List.flatten_nil, List.length_append, head4, lyB, sl_len, List.length_nil]; show 4 + (d.nonce.size + (76 + 0)) ≤ 1200
    omega)
  rw [e, hk, fl1]; refine ⟨rfl, ?_⟩; simp only [bytesF, List.map_cons, List.map_nil, List.flatten_cons, List.flatten_nil, List.length_append, head4, lyB, sl_len, List.length_nil]; show 4 + (d.nonce.size + (76 + 0)) = 96; omega
theorem coo_code {d : Dg} (hf : d.fine) (hk : d.kind = 2) (h1 : d.nonce.size = 16) (h2 : d.cookie.size = 32) : (enc d).2 = 0 := by
  have e := enc_fit hf (by rw [hk, fl2]; simp) (by
    rw [hk, fl2]; intro f hf2; simp only [List.mem_cons, List.not_mem_nil, or_false] at hf2; rcases hf2 with rfl | rfl | rfl
    · exact h1
    · exact hf.e
    · exact h2) (by
    rw [hk, fl2]; simp only [bytesF, List.map_cons, List.map_nil, List.flatten_cons, List.flatten_nil, List.length_append, head4, lyB, be_len, sl_len, List.length_nil]; show 4 + (d.nonce.size + (8 + (d.cookie.size + 0))) ≤ 1200
    omega)
  rw [e]
end Go.Proofs.YtldnpebnpbahjaaGreatDoor.Pk.Sn
