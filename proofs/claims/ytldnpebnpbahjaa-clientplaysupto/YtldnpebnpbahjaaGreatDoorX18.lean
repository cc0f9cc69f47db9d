import Derived.Test.YtldnpebnpbahjaaGreatDoorX16
import Derived.Test.YtldnpebnpbahjaaGreatDoorX17
import Derived.Test.YtldnpebnpbahjaaGreatDoorX12
set_option maxRecDepth 100000
set_option maxHeartbeats 8000000
namespace Go.Proofs.YtldnpebnpbahjaaGreatDoor.Pk.Sn
open Go Go.RowKit Go.Proofs.Tryz
structure KN (w w' : World) (n i : Nat) : Prop where
  p : Has w' w.heap.size ((l8To n i).map bv) 183
  g : w.grownBy w' none
theorem str8 (w : World) (b : Nat) (S : List UInt8) (h8 : S.length = 8) (h : Has w b (S.map bv) 183) : (convert 60 9 (.slice (some ⟨b, 0, none⟩) 8 8)).run prog w = .ok (.string ⟨S.toArray⟩) w := by
  have := run_convert_bytes_back (P := prog) w 60 9 5 ⟨b, 0, none⟩ 8 S under28 (by kernel_rfl) (by kernel_rfl) (fun j hj => by
    rw [Addr.add_mid, Nat.zero_add]
    exact h.cellv j _ (by rw [List.getElem?_map, List.getElem?_eq_getElem hj]; rfl))
  rw [h8] at this; exact this
theorem strs_new (w : World) (ps : List ByteArray) : Strs (w.alloc (.cells (ps.map Value.string).toArray 9)) (some ⟨w.heap.size, 0, none⟩) ps.length ps :=
  ⟨rfl, fun _ => ⟨_, 0, rfl, fun j p hp => by
    rw [Nat.zero_add]
    exact (Has.newA w (ps.map Value.string).toArray 9).cellv j _ (by simp [hp])⟩⟩
theorem sessionKey_c (sc nc salt : ByteArray) (n : Nat) (w : World) (hk : Kc w) (h1 : sc.size ≤ 1099511627776) (h2 : nc.size ≤ 1099511627776) (h3 : salt.size ≤ 1099511627776) :
    CRt 167 #[.string sc, .string nc, .string salt, .int .u64 n] w (.string (keyB sc nc salt n)) := by
  have HK : Kp (Kc w) := ⟨hk⟩; have HN := Kp.mk (And.intro h1 (And.intro h2 h3)); clear hk h1 h2 h3; go_enter func167, ntmps167; go_wp2_with fail
  go_loopw [11] (fun t w' => ∃ i : Nat, i ≤ 8 ∧ t = .int .i64 i ∧ Kp (KN w w' n i)) (fun t _ => 8 - (intOf t).toNat)
  case atStart => exact ⟨0, by omega, rfl, ⟨Has.newA _ _ _, gAl _ _ _⟩⟩
  case round =>
    obtain ⟨i, hi, rfl, hrel⟩ := hrel; by_cases hli : i < 8
    · obtain ⟨v, hv⟩ : ∃ v, UInt8.ofNat (n / 2 ^ (56 - 8 * i)) = v := ⟨_, rfl⟩
      have H2 : Kp (KN w (wr.setCell ⟨w.heap.size, i, none⟩ (.int .u8 v.toNat)) n (i + 1)) := ⟨by
        have := hrel.out.p.setCell i (bv v); rw [← List.map_set, ← hv, l8To_step n i hli, hv] at this
        exact this, gr_new hrel.out.g (gr_set _ _ _ _) (Nat.le_refl _)⟩
      have hf := hrel.out.p.frozen i; have hcl : (wr.cell? ⟨w.heap.size, i, none⟩).isSome = true := (hrel.out.p.there i 1 (by rw [List.length_map]; simp [l8To, Mac.len8]; omega) 0 (by decide)).1; obtain ⟨y0, hc⟩ := Option.isSome_iff_exists.1 hcl
      have hv2 : (n : Int) / 2 ^ (56 - 8 * i) % 256 = (v.toNat : Int) := by
        rw [← hv]; simp
      clear hrel hv hcl; go_wp2_with fail; refine ⟨⟨i + 1, by omega, by go_num, H2⟩, ?_⟩; simp [intOf]; omega
    · have HE : Kp (Has wr w.heap.size ((Mac.len8 n).map bv) 183 ∧ w.grownBy wr none ∧ Kc wr) := ⟨by
        obtain rfl : i = 8 := by omega
        exact ⟨hrel.out.p, hrel.out.g, HK.out.kept hrel.out.g (by simp)⟩⟩
      clear hrel; have hcv := str8 wr w.heap.size (Mac.len8 n) rfl HE.out.1; obtain ⟨e8, he8⟩ : ∃ q, (⟨(Mac.len8 n).toArray⟩ : ByteArray) = q := ⟨_, rfl⟩; have H8 := Kp.mk he8; rw [he8] at hcv
      have HD : Kp (∀ w', wr.grownBy w' none → Strs w' (some ⟨wr.heap.size, 0, none⟩) 3 [nc, salt, e8] → Calls prog 32 #[.string sc, .string { data := #[115, 101, 115, 115, 105, 111, 110] }, .slice (some ⟨wr.heap.size, 0, none⟩) 3 3] w' fun e w2 => e = .returned (.string (keyB sc nc salt n)) ∧ w'.grownBy w2 none) := ⟨fun w' g hs => by
        rw [show keyB sc nc salt n = deriveB sc sesU [nc, salt, e8] by rw [← he8]; rfl]
        exact derive_gen sc sesU _ 3 3 [nc, salt, e8] w' (HE.out.2.2.kept g (by simp)) hs (by have := HN.out; omega) (by show 7 ≤ _; omega) (by omega) (fun j p hj => by
          rcases j with _ | _ | _ | j
          · (obtain rfl : nc = p := by simpa using hj); have := HN.out; omega
          · (obtain rfl : salt = p := by simpa using hj); have := HN.out; omega
          · (obtain rfl : e8 = p := by simpa using hj); rw [← he8]; show 8 ≤ _; omega
          · simp at hj)⟩
      clear he8; go_wp2_with fail; refine (HD.out _ (gAl _ _ _) (strs_new wr [nc, salt, e8])).mono ?_; rintro e w3 ⟨rfl, g3⟩; have HF := Kp.mk ((HE.out.2.1.trans (gAl _ _ _)).trans g3); clear g3; go_wp2_with fail; go_ret; exact ⟨rfl, HF.out⟩
def txL : Nat → List UInt8 → Nat → List UInt8
  | 0, l, n => l.take n
  | k + 1, l, n => if l.length < n then txL k (l ++ [0, 115, 111, 109, 101]) n else l.take n
theorem txL_stop {l : List UInt8} {n : Nat} (h : ¬ l.length < n) : ∀ k, txL k l n = l.take n
  | 0 => rfl
  | k + 1 => by rw [txL, if_neg h]
theorem txL_len : ∀ (k : Nat) (l : List UInt8) (n : Nat), n ≤ l.length + k → (txL k l n).length = n
  | 0, l, n, h => by rw [txL, List.length_take]; omega
  | k + 1, l, n, h => by
    rw [txL]; split
    · exact txL_len k _ n (by rw [List.length_append]; simp; omega)
    · rw [List.length_take]; omega
def txB (s : ByteArray) (n : Nat) : ByteArray := ba (txL n (sl s) n)
theorem txB_size (s : ByteArray) (n : Nat) : (txB s n).size = n := by
  rw [txB, ba_size, txL_len _ _ _ (by omega)]
def someB : ByteArray := { data := #[0, 115, 111, 109, 101] }
theorem text_c (s : ByteArray) (n : Nat) (hn : n ≤ 64) (w : World) :
    CRt 19 #[.string s, .int .i64 (n : Int)] w (.string (txB s n)) := by
  obtain ⟨R, hR⟩ : ∃ q, txB s n = q := ⟨_, rfl⟩; have HR := Kp.mk hR; rw [hR]; clear hR; go_enter func19, ntmps19; go_wp2_with fail
  go_loopw [0] (fun t w' => ∃ x : ByteArray, t = .string x ∧ Kp (∃ k, ba (txL k (sl x) n) = R ∧ n ≤ x.size + k) ∧ Kp (w.grownBy w' none)) (fun t _ => n - (match t with | .string x => x.size | _ => 0))
  case atStart => exact ⟨s, rfl, ⟨n, HR.out, by omega⟩, ⟨World.grownBy.refl _ _⟩⟩
  case round =>
    obtain ⟨x, rfl, hk, hg⟩ := hrel; by_cases hl : x.size < n
    · have HA : Kp (∃ k, ba (txL k (sl (x ++ someB)) n) = R ∧ n ≤ (x ++ someB).size + k) := by
        obtain ⟨k, h1, h2⟩ := hk.out; cases k with
        | zero => omega
        | succ k =>
          refine ⟨k, ?_, ?_⟩
          · rw [txL, if_pos (by rw [sl_len]; exact hl)] at h1; rw [sl_app]; exact h1
          · rw [ByteArray.size_append]; have : someB.size = 5 := rfl; omega
      have HM : Kp (n - (x ++ someB).size < n - x.size) := ⟨by
        rw [ByteArray.size_append]; have : someB.size = 5 := rfl
        omega⟩
      have hlt : decide ((x.size : Int) < (n : Int)) = true := decide_eq_true (by omega); have hlt2 : decide (x.size < n) = true := decide_eq_true hl; (have hadd : ∀ W, (Op.stringOp .add x { data := #[0, 115, 111, 109, 101] }).run prog W = .ok (.string (x ++ someB)) W := fun W => addS x someB (by have : someB.size = 5 := rfl; omega) W); clear hk hl; obtain ⟨y, hy⟩ : ∃ y, x ++ someB = y := ⟨_, rfl⟩; rw [hy] at HA HM; rw [hy] at hadd; clear hy; go_wp2_with fail; refine ⟨⟨y, rfl, HA, hg⟩, ?_⟩; exact HM.out
    · have hR2 : x.extract 0 n = R := by
        obtain ⟨k, h1, h2⟩ := hk.out; rw [← h1, txL_stop (by rw [sl_len]; exact hl), ext_to]
      have hlt : decide ((x.size : Int) < (n : Int)) = false := decide_eq_false (by omega); have hlt2 : decide (x.size < n) = false := decide_eq_false hl
      have hsl : ∀ W, (Instr.slice 9 (.string x) none (some (.int .i64 (n : Int))) none).run prog W = .ok (.string R) W := fun W => by
        rw [run_slice_string_h W 9 x under9 .i64 (n : Int) (by omega) (by omega), Int.toNat_natCast, hR2]
      clear hk hl hR2; go_wp2_with fail; go_ret; exact ⟨rfl, hg.out⟩
theorem eight_c (n : Nat) (w : World) :
    CRt 33 #[.int .u64 (n : Int)] w (.string (eiB n)) := by
  go_enter func33, ntmps33; go_wp2_with fail
  go_loopw [3, 4] (fun v t w' => ∃ i : Nat, i ≤ 8 ∧ t = .int .i64 i ∧ Kp (Row w' v ((Mac.len8 n).take i)) ∧ Kp (w.grownBy w' none ∧ ∀ k, v.ownBlock = some k → w.heap.size ≤ k)) (fun _ t _ => 8 - (intOf t).toNat)
  case atStart => exact ⟨0, by omega, rfl, ⟨⟨by simp, .inl ⟨rfl, rfl⟩⟩⟩, ⟨World.grownBy.refl _ _, fun k e => by cases e⟩⟩
  case round =>
    obtain ⟨i, hi, rfl, hr, hg⟩ := hrel; by_cases hli : i < 8
    · obtain ⟨b, hb⟩ : ∃ b, UInt8.ofNat (n / 2 ^ (56 - 8 * i)) = b := ⟨_, rfl⟩
      have hb2 : (n : Int) / 2 ^ (56 - 8 * i) % 256 = (b.toNat : Int) := by
        rw [← hb]; simp
      have hnx : (Mac.len8 n).take i ++ [b] = (Mac.len8 n).take (i + 1) := by
        rw [List.take_add_one, len8_get n i hli, hb]; rfl
      obtain ⟨v', w', hap, h2, h3, h4⟩ := app_byte hr.out b (by rw [List.length_take]; omega); rw [hnx] at h2; have HW : Kp (Row w' v' ((Mac.len8 n).take (i + 1))) := ⟨h2⟩
      have HG : Kp (w.grownBy w' none ∧ ∀ k, v'.ownBlock = some k → w.heap.size ≤ k) := by
        refine ⟨?_, fun k e => ?_⟩
        · rcases hv : u3.ownBlock with _ | g
          · rw [hv] at h3; exact hg.out.1.trans h3
          · rw [hv] at h3; exact gr_new hg.out.1 h3 (hg.out.2 g hv)
        · rcases h4 with q | ⟨k', q1, q2⟩
          · exact hg.out.2 k (by rw [← q]; exact e)
          · rw [q1] at e; injection e with e; have := hg.out.1.size; omega
      have hap2 := Kp.mk hap; clear hb hnx h2 h3 h4 hr
      go_wp2_with (first
        | (with_reducible show wpList _ _ _ ({ dst := some 18, op := _, type := _, pos := _, after := _, guard := _ } :: _) _ _
           refine wpList_append_run _ rfl (.tmp 9) (.tmp 17) _ rfl _ _ rfl rfl hap2.out ?_))
      refine ⟨⟨i + 1, by omega, by go_num, HW, HG⟩, ?_⟩; simp [intOf]; omega
    · (obtain rfl : i = 8 := by omega); have h8 : (Mac.len8 n).take 8 = Mac.len8 n := rfl; have hr2 := hr.out; rw [h8] at hr2; obtain ⟨a, c, hv, ha, hat⟩ := Row.shape hr2; have hlen : (Mac.len8 n).length = 8 := rfl; rw [hlen] at hv; have hane : a ≠ none := fun e => by have := ha e; cases this
      obtain ⟨ad, rfl⟩ : ∃ ad, a = some ad := by
        cases a with
        | none => exact absurd rfl hane
        | some ad => exact ⟨ad, rfl⟩
      have hcv2 : (convert 60 9 (.slice (some ad) 8 c)).run prog wr = .ok (.string (eiB n)) wr := by
        have := run_convert_bytes_back (P := prog) wr 60 9 5 ad c (Mac.len8 n) under28 (by kernel_rfl) (by kernel_rfl) (fun j hj => hat ad rfl j _ (List.getElem?_eq_getElem hj)); exact this
      subst hv; clear hr hr2 ha hat hane h8; go_wp2_with fail; go_ret; exact ⟨rfl, hg.out.1⟩
theorem number_c (n : Nat) (w : World) : CRs 8 #[.int .u64 (n : Int)] w (.int .u64 ((if n = 0 then 1 else n : Nat) : Int)) := by
  by_cases h : n = 0
  · subst h; go_enter func8, ntmps8; go_wp2_with fail; go_ret; exact ⟨by simp, rfl⟩
  · rw [if_neg h]; (have q1 : ((n : Int) == 0) = false := by simp; omega); (have q2 : (n == 0) = false := by simp; omega); clear h; go_enter func8, ntmps8; go_wp2_with fail; go_ret; exact ⟨by simp, rfl⟩
theorem keyB_size (sc nc salt : ByteArray) (n : Nat) : (keyB sc nc salt n).size = 32 := by
  unfold keyB deriveB; show (Mac.hmac _ _).toArray.size = 32; rw [List.size_toArray, Mac.hmac_len]
structure Came (D : Dg) : Prop where
  f : D.fine
  s : D.nonce.size ≤ 1200 ∧ D.cookie.size ≤ 1200 ∧ D.name.size ≤ 1200 ∧ D.salt.size ≤ 1200 ∧ D.data.size ≤ 1200
theorem builtCon (e : Int) (n c m : ByteArray) : prog.built 34 [(0, .int .i64 3), (1, .string n), (2, .int .u64 e), (3, .string c), (4, .string m)] = some #[.int .i64 3, .string n, .int .u64 e, .string c, .string m, .int .u64 0, .int .i64 0, .string { data := #[] }, .int .u64 0, .int .i64 0, .int .i64 0, .bool false, .bool false, .string { data := #[] }, .string { data := #[] }] := by kernel_rfl
theorem builtSes (n p : Int) (k : ByteArray) : prog.built 81 [(0, .int .u64 n), (1, .int .i64 p), (2, .string k)] = some #[.int .u64 n, .int .i64 p, .string k, .int .u64 0, .int .u64 0] := by kernel_rfl
theorem con_fine {C : Cl} {D : Dg} (h : D.fine) : (conD C D).fine := ⟨by show (-9223372036854775808 : Int) ≤ 3 ∧ (3 : Int) < 9223372036854775808; omega, h.e, by show 0 < 18446744073709551616; omega, by show (-9223372036854775808 : Int) ≤ 0 ∧ (0 : Int) < 9223372036854775808; omega, by show 0 < 18446744073709551616; omega, by show (-9223372036854775808 : Int) ≤ 0 ∧ (0 : Int) < 9223372036854775808; omega, by show (-9223372036854775808 : Int) ≤ 0 ∧ (0 : Int) < 9223372036854775808; omega⟩
theorem con_small {C : Cl} {D : Dg} (hc : C.ok) (h : Came D) : (conD C D).small := ⟨by show C.nc.size ≤ _; have := hc.nc; omega, by show D.cookie.size ≤ _; have := h.s; omega, by show C.nm.size ≤ _; have := hc.nm; omega, by show (0 : Nat) ≤ _; omega, by show (0 : Nat) ≤ _; omega, by show (0 : Nat) ≤ _; omega⟩
theorem one5 {n p a b : Int} {k : ByteArray} : ∀ v ∈ [uv n, iv p, .string k, uv a, uv b], v.oneCell' = true := by
  intro v hv; simp only [List.mem_cons, List.not_mem_nil, or_false] at hv; rcases hv with rfl | rfl | rfl | rfl | rfl <;> rfl
theorem connect_c (cb : Nat) (C : Cl) (data : ByteArray) (D : Dg) (w : World) (hk : Kc w) (hh : Has w cb C.cs 83) (hc : C.ok) (hd : Came D) :
    CRt 106 #[pa cb 0, .agg (hcs data D).toArray] w (.tuple #[.string (sealD (conD C D) C.sc).1, iv (sealD (conD C D) C.sc).2]) := by
  obtain ⟨w0, hw0⟩ : ∃ q, w.alloc (.cells (hcs data D).toArray 93) = q := ⟨_, rfl⟩; obtain ⟨h0, g0, s0⟩ := hasN hw0; have HC : Kp (Has w0 cb C.cs 83) := ⟨hh.kept g0 (by simp)⟩; have e3 : w0.cell? ⟨w.heap.size, 3, none⟩ = some (uv D.epoch) := h0.cellv 3 _ rfl; have e4 : w0.cell? ⟨w.heap.size, 4, none⟩ = some (.string D.cookie) := h0.cellv 4 _ rfl; have c0 : w0.cell? ⟨cb, 0, none⟩ = some (.string C.nm) := HC.out.cellv 0 _ rfl; have c1 : w0.cell? ⟨cb, 1, none⟩ = some (.string C.sc) := HC.out.cellv 1 _ rfl; have c2 : w0.cell? ⟨cb, 2, none⟩ = some (.string C.nc) := HC.out.cellv 2 _ rfl; obtain ⟨X, hX⟩ : ∃ q, sealD (conD C D) C.sc = q := ⟨_, rfl⟩; have HSL : Kp (∀ w3 : World, w0.grownBy w3 none → CRt 18 #[.agg (conD C D).cells.toArray, .string C.sc] w3 (.tuple #[.string X.1, .int .i64 X.2])) := ⟨fun w3 g => by rw [← hX]; exact seal_c (conD C D) C.sc (con_fine hd.f) (con_small hc hd) w3 (hk.kept (g0.trans g) (by simp)) (by have := hc.sc; omega)⟩; rw [hX]; have HB : Kp (prog.built 34 [(0, .int .i64 3), (1, .string C.nc), (2, .int .u64 D.epoch), (3, .string D.cookie), (4, .string C.nm)] = some (conD C D).cells.toArray) := ⟨builtCon _ _ _ _⟩; have HG := Kp.mk g0; unfold hcs Dg.cells at hw0; unfold hcs Dg.cells; clear h0 g0 s0 hk hh hc hd HC hX; go_enter func106, ntmps106; go_wp2_with fail; refine region_Y (S := fun w' => w0.grownBy w' none) [] (by kernel_rfl) ?_; have hHeld := gr_drew w0 none; refine yq 0 rfl ?_; refine yq 1 rfl ?_; refine yq 2 rfl ?_; refine yk 3 rfl ?_ (fun w hSw => by have k0 := hSw.cell c2 (by simp); go_simp; first | done | (with_reducible rfl)); refine yq 4 rfl ?_; refine yq 5 rfl ?_; refine yk 6 rfl ?_ (fun w hSw => by have k0 := hSw.cell e3 (by simp); go_simp; first | done | (with_reducible rfl)); refine yq 7 rfl ?_; refine yq 8 rfl ?_; refine yk 9 rfl ?_ (fun w hSw => by have k0 := hSw.cell e4 (by simp); go_simp; first | done | (with_reducible rfl)); refine yq 10 rfl ?_; refine yq 11 rfl ?_; refine yq 12 rfl ?_; refine yk 13 rfl ?_ (fun w hSw => by have k0 := hSw.cell c0 (by simp); go_simp; first | done | (with_reducible rfl)); simp only [Act.put, uz]; refine yp (i := 14) (v := .agg (conD C D).cells.toArray) rfl (yieldsIf_build (by rfl) 34 _ rfl _ ((congrArg (prog.built 34) (by simp only [List.map_toArray, List.map_cons, List.map_nil]; rfl)).trans HB.out)) ?_; simp only [Act.put, uz]; refine yq 15 rfl ?_; refine yq 16 rfl ?_; refine yq 17 rfl ?_; refine yk 18 rfl ?_ (fun w hSw => by have k0 := hSw.cell c1 (by simp); go_simp; first | done | (with_reducible rfl)); simp only [Act.put, uz]; refine yo 19 (fun K hK => ?_) rfl; go_simp; refine (HSL.out _ hHeld).mono ?_; rintro e w1 ⟨rfl, g10⟩; have g1 := Kp.mk (hHeld.trans g10); refine hK.out _ _ (fun q => q.trans g10) ?_; clear hK K g10; refine yq 20 rfl ?_; refine yq 21 rfl ?_; simp only [Act.put, uz]; refine yo 22 (fun K hK => ?_) rfl; go_simp; refine hK.out _ _ (fun h => h) ?_; clear hK K; refine yo 23 (fun K hK => ?_) rfl; go_simp; refine hK.out _ _ (fun h => h) ?_; clear hK K; refine yd ?_; have HE := Kp.mk (HG.out.trans g1.out); clear g1 HSL; go_wp2_with fail; go_ret2; exact ⟨rfl, HE.out⟩
theorem begin_c (cb : Nat) (C : Cl) (data : ByteArray) (D : Dg) (w : World) (hk : Kc w) (hh : Has w cb C.cs 83) (hc : C.ok) (hd : Came D) (hds : data.size ≤ 281474976710656) :
    Calls prog 107 #[pa cb 0, .agg (hcs data D).toArray] w fun e w' => e = .returned (iv (begS C data D).2) ∧ Has w' cb (begS C data D).1.cs 83 ∧ w.grownBy w' (some cb) := by
  obtain ⟨w0, hw0⟩ : ∃ q, w.alloc (.cells (hcs data D).toArray 93) = q := ⟨_, rfl⟩; obtain ⟨h0, g0, s0⟩ := hasN hw0; have hcb := hh.lt; have HC : Kp (Has w0 cb C.cs 83) := ⟨hh.kept g0 (by simp)⟩; have e0 : w0.cell? ⟨w.heap.size, 0, none⟩ = some (.string data) := h0.cellv 0 _ rfl; have e6 : w0.cell? ⟨w.heap.size, 6, none⟩ = some (uv D.session) := h0.cellv 6 _ rfl; have e7 : w0.cell? ⟨w.heap.size, 7, none⟩ = some (iv D.player) := h0.cellv 7 _ rfl; have e8 : w0.cell? ⟨w.heap.size, 8, none⟩ = some (.string D.salt) := h0.cellv 8 _ rfl; have c1 : w0.cell? ⟨cb, 1, none⟩ = some (.string C.sc) := HC.out.cellv 1 _ rfl; have c2 : w0.cell? ⟨cb, 2, none⟩ = some (.string C.nc) := HC.out.cellv 2 _ rfl; have c9 : w0.cell? ⟨cb, 9, none⟩ = some (uv C.mx) := HC.out.cellv 9 _ rfl; obtain ⟨K1, hK1⟩ : ∃ q, keyB C.sc C.nc D.salt D.session = q := ⟨_, rfl⟩; have HSK0 : Kp (∀ w3 : World, w0.grownBy w3 none → CRt 167 #[.string C.sc, .string C.nc, .string D.salt, .int .u64 D.session] w3 (.string K1)) := ⟨fun w3 g => by rw [← hK1]; exact sessionKey_c C.sc C.nc D.salt D.session w3 (hk.kept (g0.trans g) (by simp)) (by have := hc.sc; omega) (by have := hc.nc; omega) (by have := hd.s; omega)⟩; have HK32 : Kp (K1.size ≤ 32) := ⟨by rw [← hK1]; exact Nat.le_of_eq (keyB_size _ _ _ _)⟩; have HSD : Kp (∀ w3 : World, w0.grownBy w3 none → CRt 11 #[.string data, .string K1] w3 (.bool (sealed data K1))) := ⟨fun w3 g => sealed_c data K1 w3 (hk.kept (g0.trans g) (by simp)) hds (by have := HK32.out; omega)⟩; obtain ⟨B, hB⟩ : ∃ q, begS C data D = q := ⟨_, rfl⟩; rw [hB]; unfold begS at hB; rw [hK1] at hB; have HG := Kp.mk (And.intro g0 (show w.heap.size ≠ cb by omega)); unfold hcs Dg.cells at hw0; unfold hcs Dg.cells; clear h0 g0 s0 hk hh hc hd hK1 hds hcb; by_cases h1 : D.session ≤ C.mx
  · rw [if_pos h1] at hB; subst hB; have q1 : decide ((D.session : Int) ≤ (C.mx : Int)) = true := decide_eq_true (by omega); have q2 : decide (D.session ≤ C.mx) = true := decide_eq_true h1; clear h1; go_enter func107, ntmps107; go_wp2_with fail; go_quiet (fail); go_wp2_with fail; go_ret; exact ⟨rfl, HC.out.kept (gr_drewN _ _ none) (by simp), gr_weak (HG.out.1.trans (gr_drewN _ _ none)) _⟩
  rw [if_neg h1] at hB; have HB0 := Kp.mk hB; have q1 : decide ((D.session : Int) ≤ (C.mx : Int)) = false := decide_eq_false (by omega); have q2 : decide (D.session ≤ C.mx) = false := decide_eq_false h1; clear h1 hB; go_enter func107, ntmps107; go_wp2_with fail; go_quiet (fail); go_wp2_with fail; have k1 := (gr_drewN w0 nq none).cell c1 (by simp); have k2 := (gr_drewN w0 nq none).cell c2 (by simp); have k6 := (gr_drewN w0 nq none).cell e6 (by simp); have k8 := (gr_drewN w0 nq none).cell e8 (by simp); have HSK : Kp (∀ w3 : World, (w0.drewN nq).grownBy w3 none → CRt 167 #[.string C.sc, .string C.nc, .string D.salt, .int .u64 D.session] w3 (.string K1)) := ⟨fun w3 g => HSK0.out w3 ((gr_drewN w0 nq none).trans g)⟩; refine region_Y (S := fun w' => (w0.drewN nq).grownBy w' none) [] (by kernel_rfl) ?_; have hHeld := gr_drew (w0.drewN nq) none; refine yq 0 rfl ?_; refine yq 1 rfl ?_; refine yq 2 rfl ?_; refine yk 3 rfl ?_ (fun w hSw => by have k0 := hSw.cell k1 (by simp); go_simp; first | done | (with_reducible rfl)); refine yq 4 rfl ?_; refine yq 5 rfl ?_; refine yq 6 rfl ?_; refine yk 7 rfl ?_ (fun w hSw => by have k0 := hSw.cell k2 (by simp); go_simp; first | done | (with_reducible rfl)); refine yq 8 rfl ?_; refine yq 9 rfl ?_; refine yk 10 rfl ?_ (fun w hSw => by have k0 := hSw.cell k8 (by simp); go_simp; first | done | (with_reducible rfl)); refine yq 11 rfl ?_; refine yq 12 rfl ?_; refine yk 13 rfl ?_ (fun w hSw => by have k0 := hSw.cell k6 (by simp); go_simp; first | done | (with_reducible rfl)); simp only [Act.put, uz]; refine yo 14 (fun K hK => ?_) rfl; go_simp; refine (HSK.out _ hHeld).mono ?_; rintro e w1 ⟨rfl, g10⟩; have g1 := Kp.mk (hHeld.trans g10); refine hK.out _ _ (fun q => q.trans g10) ?_; clear hK K g10; refine yo 15 (fun K hK => ?_) rfl; go_simp; refine hK.out _ _ (fun h => h) ?_; clear hK K; refine yd ?_; have G1 : Kp (w0.grownBy w1 none) := ⟨(gr_drewN w0 nq none).trans g1.out⟩; have m0 := G1.out.cell e0 (by simp); have m6 := G1.out.cell e6 (by simp); have m7 := G1.out.cell e7 (by simp); have M := Kp.mk (And.intro m0 (And.intro m6 m7)); clear k1 k2 k6 k8 e0 e6 e7 e8 c1 c2 c9 HSK HSK0 hHeld q1 q2 hw0 g1 m6 m7; go_wp2_with fail; refine (HSD.out w1 G1.out).mono ?_; rintro e w2 ⟨rfl, g2⟩; have G2 : Kp (w0.grownBy w2 none ∧ Has w2 cb C.cs 83) := ⟨G1.out.trans g2, (HC.out.kept G1.out (by simp)).kept g2 (by simp)⟩; have m6 := g2.cell M.out.2.1 (by simp); have m7 := g2.cell M.out.2.2 (by simp); obtain ⟨S, hS⟩ : ∃ S, sealed data K1 = S := ⟨_, rfl⟩; have hB := HB0.out; rw [hS] at hB ⊢; clear m0 G1 g2 hS HSD HB0 HC; cases S
  · rw [if_pos rfl] at hB; subst hB; go_wp2_with fail; go_ret; exact ⟨rfl, G2.out.2, gr_weak (HG.out.1.trans G2.out.1) _⟩
  rw [if_neg (by simp)] at hB; subst hB; have HB := Kp.mk (builtSes D.session D.player K1)
  go_wp2_with (first
    | (with_reducible show wpList _ _ _ ({ dst := _, op := Op.build 81 _, type := _, pos := _, after := _, guard := _ } :: _) _ _
       refine build_g rfl 81 _ rfl _ ((congrArg (prog.built 81) (by simp only [List.map_toArray, List.map_cons, List.map_nil]; rfl)).trans HB.out) ?_
       simp only [Act.put, uz])
    | (with_reducible show wpList _ _ _ ({ dst := _, op := Op.store 81 _ _, type := _, pos := _, after := _, guard := _ } :: _) _ _
       refine st_part w2 cb 4 C.cs [uv D.session, iv D.player, .string K1, uv 0, uv 0] 81 83 rfl rfl rfl rfl G2.out.2 (by show 4 + 5 ≤ 11; omega) infoSe one5 ?_; intro w6 h6 g6; have H6 : Kp (Has w6 cb { C with num := D.session, pl := D.player, key := K1, sd := 0, bl := 0 : Cl }.cs 83 ∧ w0.grownBy w6 (some cb)) := ⟨h6, (gr_weak G2.out.1 _).trans g6⟩; have n6 := g6.cell m6 (by simp; exact HG.out.2); have n9 := H6.out.1.cellv 9 _ rfl; have z9 := H6.out.1.frozen 9; have n3 := H6.out.1.cellv 3 _ rfl; have z3 := H6.out.1.frozen 3
       clear m6 m7 h6 g6))
  go_ret; exact ⟨rfl, (H6.out.1.setCell 9 _).setCell 3 _, ((gr_weak HG.out.1 _).trans H6.out.2).trans ((gr_set _ _ _ _).trans (gr_set _ _ _ _))⟩
theorem look_c (cb : Nat) (C : Cl) (data : ByteArray) (D : Dg) (w : World) (hk : Kc w) (hh : Has w cb C.cs 83) (hc : C.ok) (hd : Came D) (hds : data.size ≤ 281474976710656) :
    Calls prog 204 #[pa cb 0, .agg (hcs data D).toArray] w fun e w' => e = .returned (iv (lokS C data D).2) ∧ Has w' cb (lokS C data D).1.cs 83 ∧ w.grownBy w' (some cb) := by
  obtain ⟨dh, hdh, hdr⟩ := underH; obtain ⟨w0, hw0⟩ : ∃ q, w.alloc (.cells (hcs data D).toArray 93) = q := ⟨_, rfl⟩; obtain ⟨h0, g0, s0⟩ := hasN hw0; have hcb := hh.lt; have HC : Kp (Has w0 cb C.cs 83) := ⟨hh.kept g0 (by simp)⟩; have H0 : Kp (Has w0 w.heap.size (hcs data D) 93) := ⟨h0⟩; have HJ : Kp (∀ w3 : World, w0.grownBy w3 none → CRt 227 #[pa cb 4, .agg (hcs data D).toArray] w3 (iv (judS C data D))) := ⟨fun w3 g => judge_c cb C data D w3 (hk.kept (g0.trans g) (by simp)) (HC.out.kept g (by simp)) hds (by have := hc.key; omega)⟩; have e14 : w0.cell? ⟨w.heap.size, 14, none⟩ = some (.string D.data) := h0.cellv 14 _ rfl; have e9 : w0.cell? ⟨w.heap.size, 9, none⟩ = some (uv D.seq) := h0.cellv 9 _ rfl; have HG := Kp.mk (And.intro g0 (And.intro (show w.heap.size ≠ cb by omega) hd)); obtain ⟨J, hJ⟩ : ∃ q, judS C data D = q := ⟨_, rfl⟩; rw [hJ] at HJ; obtain ⟨L, hL⟩ : ∃ q, lokS C data D = q := ⟨_, rfl⟩; rw [hL]; unfold lokS at hL; rw [hJ] at hL; have HL := Kp.mk hL; clear h0 g0 s0 hk hh hc hd hds hcb hJ hL; have HHC : Kp ((hcs data D).toArray = (hcs data D).toArray) := ⟨rfl⟩; unfold hcs Dg.cells at hw0 ⊢; go_enter func204, ntmps204; go_wp2_with fail; refine region_Y (S := fun w' => w0.grownBy w' none) [] (by kernel_rfl) ?_; have hHeld := gr_drew w0 none; refine yq 0 rfl ?_; refine yq 1 rfl ?_; refine yq 2 rfl ?_; simp only [Act.put, uz]; refine yt (i := 3) (v := .agg (hcs data D).toArray) rfl (yieldsIf_load_mid (by rfl) 93 _ rfl _ _ rfl _ _ (fun w hSw => (H0.out.kept hSw (by simp)).range) hdh hdr infoH) (by assumption) ?_; simp only [Act.put, uz]; refine yo 4 (fun K hK => ?_) rfl; go_simp; refine (HJ.out _ hHeld).mono ?_; rintro e w1 ⟨rfl, g10⟩; have g1 := Kp.mk (hHeld.trans g10); refine hK.out _ _ (fun q => q.trans g10) ?_; clear hK K g10; refine yo 5 (fun K hK => ?_) rfl; go_simp; refine hK.out _ _ (fun h => h) ?_; clear hK K; refine yd ?_; have M := Kp.mk (And.intro (g1.out.cell e14 (by simp)) (g1.out.cell e9 (by simp))); have m14 := M.out.1; have HC1 : Kp (Has w1 cb C.cs 83 ∧ w.grownBy w1 none ∧ w0.grownBy w1 none) := ⟨HC.out.kept g1.out (by simp), HG.out.1.trans g1.out, g1.out⟩; clear g1 HJ H0 HC e14 e9 hHeld; by_cases hj : J = 0; rotate_left
  · (have q1 : (J != 0) = true := by simp [hj]); have hL := HL.out; rw [if_pos hj] at hL; subst hL; clear hj HL; go_wp2_with fail; go_ret; exact ⟨rfl, HC1.out.1, gr_weak HC1.out.2.1 _⟩
  have hL := HL.out; rw [if_neg (by simp [hj])] at hL; clear HL; subst hj; obtain ⟨R, hR⟩ : ∃ q, rdV (sl D.data) = q := ⟨_, rfl⟩
  have HR : Kp (∀ w3, Calls prog 46 #[.string D.data] w3 fun e w' => ∃ a c, e = .returned (.tuple #[.agg (R.1.cs a c).toArray, iv R.2]) ∧ w3.grownBy w' none) := ⟨fun w3 => by
    rw [← hR]; refine (read_c D.data w3).mono ?_; rintro e w' ⟨a, c, e1, e2⟩
    exact ⟨a, c, e1, e2.g⟩⟩
  rw [hR] at hL; have HL := Kp.mk hL; clear hR hL; go_wp2_with fail; refine (HR.out w1).mono ?_; rintro e w2 ⟨a, c, rfl, g2⟩; have HC2 : Kp (Has w2 cb C.cs 83 ∧ w.grownBy w2 none ∧ w1.grownBy w2 none) := ⟨HC1.out.1.kept g2 (by simp), HC1.out.2.1.trans g2, g2⟩; clear g2 HR m14; obtain ⟨V, cd⟩ := R; by_cases hz : cd = 0; rotate_left
  · (have q1 : (cd != 0) = true := by simp [hz]); have hL := HL.out; rw [if_pos hz] at hL; subst hL; clear hz HL
    go_wp2_with (first
      | (with_reducible show wpList _ _ _ ({ dst := none, op := Op.store 49 _ _, type := _, pos := _, after := _, guard := _ } :: _) _ _
         refine st_new w2 (V.cs a c) 49 rfl rfl rfl rfl rfl infoV (vw_one _ _ _) ?_; intro w6 h6 g6; have H6 : Kp (Has w6 cb C.cs 83 ∧ w.grownBy w6 none) := ⟨HC2.out.1.kept g6 (by simp), HC2.out.2.1.trans g6⟩
         clear h6 g6))
    go_ret; exact ⟨rfl, H6.out.1, gr_weak H6.out.2 _⟩
  subst hz; have hL := HL.out; rw [if_neg (by simp)] at hL; subst hL; clear HL
  go_wp2_with (first
    | (with_reducible show wpList _ _ _ ({ dst := none, op := Op.store 49 _ _, type := _, pos := _, after := _, guard := _ } :: _) _ _
       refine st_new w2 (V.cs a c) 49 rfl rfl rfl rfl rfl infoV (vw_one _ _ _) ?_; intro w6 h6 g6; have H6 : Kp (Has w6 cb C.cs 83 ∧ w.grownBy w6 none) := ⟨HC2.out.1.kept g6 (by simp), HC2.out.2.1.trans g6⟩; have m14 := (HC2.out.2.2.trans g6).cell M.out.1 (by simp); have m9 := (HC2.out.2.2.trans g6).cell M.out.2 (by simp); have n10 := H6.out.1.cellv 10 _ rfl; have z10 := H6.out.1.frozen 10; have n8 := H6.out.1.cellv 8 _ rfl; have z8 := H6.out.1.frozen 8; have HNE := HG.out.2.1
       clear h6 g6))
  go_ret; exact ⟨rfl, (H6.out.1.setCell 10 _).setCell 8 _, (gr_weak H6.out.2 _).trans ((gr_set _ _ _ _).trans (gr_set _ _ _ _))⟩
theorem dismiss_c (cb : Nat) (C : Cl) (data : ByteArray) (D : Dg) (w : World) (hk : Kc w) (hh : Has w cb C.cs 83) (hc : C.ok) (hd : Came D) (hds : data.size ≤ 281474976710656) :
    Calls prog 205 #[pa cb 0, .agg (hcs data D).toArray] w fun e w' => e = .returned (iv (disS C data D).2) ∧ Has w' cb (disS C data D).1.cs 83 ∧ w.grownBy w' (some cb) := by
  obtain ⟨dh, hdh, hdr⟩ := underH; obtain ⟨w0, hw0⟩ : ∃ q, w.alloc (.cells (hcs data D).toArray 93) = q := ⟨_, rfl⟩; obtain ⟨h0, g0, s0⟩ := hasN hw0; have hcb := hh.lt; have HC : Kp (Has w0 cb C.cs 83) := ⟨hh.kept g0 (by simp)⟩; have H0 : Kp (Has w0 w.heap.size (hcs data D) 93) := ⟨h0⟩; have HJ : Kp (∀ w3 : World, w0.grownBy w3 none → CRt 227 #[pa cb 4, .agg (hcs data D).toArray] w3 (iv (judS C data D))) := ⟨fun w3 g => judge_c cb C data D w3 (hk.kept (g0.trans g) (by simp)) (HC.out.kept g (by simp)) hds (by have := hc.key; omega)⟩; have e14 : w0.cell? ⟨w.heap.size, 14, none⟩ = some (.string D.data) := h0.cellv 14 _ rfl; have e9 : w0.cell? ⟨w.heap.size, 9, none⟩ = some (uv D.seq) := h0.cellv 9 _ rfl; have HG := Kp.mk (And.intro g0 (And.intro (show w.heap.size ≠ cb by omega) hd)); obtain ⟨J, hJ⟩ : ∃ q, judS C data D = q := ⟨_, rfl⟩; rw [hJ] at HJ; obtain ⟨L, hL⟩ : ∃ q, disS C data D = q := ⟨_, rfl⟩; rw [hL]; unfold disS at hL; rw [hJ] at hL; have HL := Kp.mk hL; clear h0 g0 s0 hk hh hc hd hds hcb hJ hL e14 e9; unfold hcs Dg.cells at hw0 ⊢; go_enter func205, ntmps205; go_wp2_with fail; refine region_Y (S := fun w' => w0.grownBy w' none) [] (by kernel_rfl) ?_; have hHeld := gr_drew w0 none; refine yq 0 rfl ?_; refine yq 1 rfl ?_; refine yq 2 rfl ?_; simp only [Act.put, uz]; refine yt (i := 3) (v := .agg (hcs data D).toArray) rfl (yieldsIf_load_mid (by rfl) 93 _ rfl _ _ rfl _ _ (fun w hSw => (H0.out.kept hSw (by simp)).range) hdh hdr infoH) (by assumption) ?_; simp only [Act.put, uz]; refine yo 4 (fun K hK => ?_) rfl; go_simp; refine (HJ.out _ hHeld).mono ?_; rintro e w1 ⟨rfl, g10⟩; have g1 := Kp.mk (hHeld.trans g10); refine hK.out _ _ (fun q => q.trans g10) ?_; clear hK K g10; refine yo 5 (fun K hK => ?_) rfl; go_simp; refine hK.out _ _ (fun h => h) ?_; clear hK K; refine yd ?_; have HC1 : Kp (Has w1 cb C.cs 83 ∧ w.grownBy w1 none ∧ w0.grownBy w1 none) := ⟨HC.out.kept g1.out (by simp), HG.out.1.trans g1.out, g1.out⟩; clear g1 HJ H0 HC hHeld; by_cases hj : J = 0; rotate_left
  · (have q1 : (J != 0) = true := by simp [hj]); have hL := HL.out; rw [if_pos hj] at hL; subst hL; clear hj HL; go_wp2_with fail; go_ret; exact ⟨rfl, HC1.out.1, gr_weak HC1.out.2.1 _⟩
  have hL := HL.out; rw [if_neg (by simp [hj])] at hL; clear HL; subst hj; subst hL; go_wp2_with fail; refine (end_c cb C w1 HC1.out.1).mono ?_; rintro e w2 ⟨rfl, h2, g2⟩; have H2 := Kp.mk (And.intro h2 ((gr_weak HC1.out.2.1 _).trans g2)); clear h2 g2; go_wp2_with fail; go_ret; exact ⟨rfl, H2.out⟩
theorem nonce_eq {a b : ByteArray} : (a.toList == b.toList) = decide (a = b) := by
  by_cases h : a = b
  · subst h; simp
  · have : ¬ a.toList = b.toList := fun e => h (by
      apply ByteArray.ext; have := congrArg List.toArray e; rw [ByteArray.toList_eq, ByteArray.toList_eq] at e
      exact Array.toList_inj.1 e)
    simp [h, this]
theorem gre_1 {C : Cl} {data : ByteArray} {D : Dg} (h : ¬ D.nonce = C.nc) : greS C data D = (nob, 240, C) := by unfold greS; rw [if_neg (fun q => h q.1), if_neg (fun q => h q.1)]
theorem gre_2 {C : Cl} {data : ByteArray} {D : Dg} (h : D.nonce = C.nc) (k : D.kind = 2) : greS C data D = ((sealD (conD C D) C.sc).1, (sealD (conD C D) C.sc).2, C) := by unfold greS; rw [if_pos ⟨h, k⟩]
theorem gre_3 {C : Cl} {data : ByteArray} {D : Dg} (h : D.nonce = C.nc) (k : D.kind = 4) : greS C data D = (nob, (begS C data D).2, (begS C data D).1) := by unfold greS; rw [if_neg (fun q => by have := q.2; omega), if_pos ⟨h, k⟩]
theorem gre_4 {C : Cl} {data : ByteArray} {D : Dg} (k : ¬ D.kind = 2) (k2 : ¬ D.kind = 4) : greS C data D = (nob, 240, C) := by unfold greS; rw [if_neg (fun q => k q.2), if_neg (fun q => k2 q.2)]
theorem silent_c (cb : Nat) (C : Cl) (data : ByteArray) (D : Dg) (w : World) (hk : Kc w) (hh : Has w cb C.cs 83) (hc : C.ok) (hd : Came D) (hds : data.size ≤ 281474976710656) :
    Calls prog 52 #[pa cb 0, .agg (hcs data D).toArray] w fun e w' => e = .returned (.tuple #[.string ((nob, (240 : Int), C)).1, iv ((nob, (240 : Int), C)).2.1]) ∧ Has w' cb ((nob, (240 : Int), C)).2.2.cs 83 ∧ w.grownBy w' (some cb) := by
  obtain ⟨dh, hdh, hdr⟩ := underH; obtain ⟨w0, hw0⟩ : ∃ q, w.alloc (.cells (hcs data D).toArray 93) = q := ⟨_, rfl⟩; obtain ⟨h0, g0, s0⟩ := hasN hw0; have hcb := hh.lt; have HC : Kp (Has w0 cb C.cs 83) := ⟨hh.kept g0 (by simp)⟩; have H0 : Kp (Has w0 w.heap.size (hcs data D) 93) := ⟨h0⟩; have HK := Kp.mk (And.intro (hk.kept g0 (by simp)) (And.intro hc (And.intro hd hds))); have HG := Kp.mk (And.intro g0 (show w.heap.size ≠ cb by omega)); clear h0 g0 s0 hk hc hd hds hcb; unfold hcs Dg.cells at hw0 ⊢; go_enter func52, ntmps52; go_wp2_with fail; go_ret2; exact ⟨rfl, HC.out, gr_weak HG.out.1 _⟩
theorem greeted_c (cb : Nat) (C : Cl) (data : ByteArray) (D : Dg) (w : World) (hk : Kc w) (hh : Has w cb C.cs 83) (hc : C.ok) (hd : Came D) (hds : data.size ≤ 281474976710656) :
    Calls prog 54 #[pa cb 0, .agg (hcs data D).toArray] w fun e w' => e = .returned (.tuple #[.string (greS C data D).1, iv (greS C data D).2.1]) ∧ Has w' cb (greS C data D).2.2.cs 83 ∧ w.grownBy w' (some cb) := by
  obtain ⟨dh, hdh, hdr⟩ := underH; obtain ⟨w0, hw0⟩ : ∃ q, w.alloc (.cells (hcs data D).toArray 93) = q := ⟨_, rfl⟩; obtain ⟨h0, g0, s0⟩ := hasN hw0; have hcb := hh.lt; have HC : Kp (Has w0 cb C.cs 83) := ⟨hh.kept g0 (by simp)⟩; have H0 : Kp (Has w0 w.heap.size (hcs data D) 93) := ⟨h0⟩; have HK := Kp.mk (And.intro (hk.kept g0 (by simp)) (And.intro hc (And.intro hd hds))); have HG := Kp.mk (And.intro g0 (show w.heap.size ≠ cb by omega)); have e2 : w0.cell? ⟨w.heap.size, 2, none⟩ = some (.string D.nonce) := h0.cellv 2 _ rfl; have e1 : w0.cell? ⟨w.heap.size, 1, none⟩ = some (iv D.kind) := h0.cellv 1 _ rfl; have c2 : w0.cell? ⟨cb, 2, none⟩ = some (.string C.nc) := HC.out.cellv 2 _ rfl; obtain ⟨X, hX⟩ : ∃ q, greS C data D = q := ⟨_, rfl⟩; rw [hX]; have hbe := nonce_eq (a := D.nonce) (b := C.nc); clear h0 g0 s0 hk hh hc hd hds hcb; unfold hcs Dg.cells at hw0; unfold hcs Dg.cells; by_cases ho : D.nonce = C.nc; rotate_left
  · rw [decide_eq_false ho] at hbe; rw [gre_1 ho] at hX; subst hX; (have hbe2 : ¬ D.nonce.toList = C.nc.toList := fun e => by rw [e] at hbe; simp at hbe); clear ho; go_enter func54, ntmps54; go_wp2_with fail; go_quiet (fail); go_wp2_with fail; go_ret2; exact ⟨rfl, HC.out.kept (gr_drewN _ _ none) (by simp), gr_weak (HG.out.1.trans (gr_drewN _ _ none)) _⟩
  have HO := Kp.mk ho; rw [decide_eq_true ho] at hbe; have hbe2 : D.nonce.toList = C.nc.toList := by rw [ho]
  clear ho; by_cases k2 : D.kind = 2
  · rw [gre_2 HO.out k2] at hX; subst hX; (have q2 : (D.kind == 2) = true := by simp [k2]); clear k2; go_enter func54, ntmps54; go_wp2_with fail; go_quiet (fail); have HQ : Kp (Has (w0.drewN nq) w.heap.size (hcs data D) 93 ∧ Has (w0.drewN nq) cb C.cs 83 ∧ Kc (w0.drewN nq)) := ⟨H0.out.kept (gr_drewN _ _ none) (by simp), HC.out.kept (gr_drewN _ _ none) (by simp), HK.out.1.kept (gr_drewN _ _ none) (by simp)⟩; have e1n := (gr_drewN w0 nq none).cell e1 (by simp)
    go_wp2_with (first
      | (with_reducible show wpList _ _ _ ({ dst := _, op := Op.load 93 _, type := _, pos := _, after := _, guard := _ } :: _) _ _
         refine load_g rfl 93 _ rfl w.heap.size 0 rfl (hcs data D) dh HQ.out.1.range hdh hdr infoH ?_
         simp only [Act.put, uz]))
    refine (connect_c cb C data D (w0.drewN nq) HQ.out.2.2 HQ.out.2.1 HK.out.2.1 HK.out.2.2.1).mono ?_; rintro e w2 ⟨rfl, g2⟩; have H2 : Kp (Has w2 cb C.cs 83 ∧ w.grownBy w2 none) := ⟨HQ.out.2.1.kept g2 (by simp), (HG.out.1.trans (gr_drewN _ _ none)).trans g2⟩; clear g2; go_wp2_with fail; go_ret2; exact ⟨rfl, H2.out.1, gr_weak H2.out.2 _⟩
  by_cases k4 : D.kind = 4
  · rw [gre_3 HO.out k4] at hX; subst hX; (have q2 : (D.kind == 2) = false := by simp [k4]); (have q4 : (D.kind == 4) = true := by simp [k4]); clear k2 k4; go_enter func54, ntmps54; go_wp2_with fail; go_quiet (fail); have HQ : Kp (Has (w0.drewN nq) w.heap.size (hcs data D) 93 ∧ Has (w0.drewN nq) cb C.cs 83 ∧ Kc (w0.drewN nq)) := ⟨H0.out.kept (gr_drewN _ _ none) (by simp), HC.out.kept (gr_drewN _ _ none) (by simp), HK.out.1.kept (gr_drewN _ _ none) (by simp)⟩; have e1n := (gr_drewN w0 nq none).cell e1 (by simp)
    go_wp2_with (first
      | (with_reducible show wpList _ _ _ ({ dst := _, op := Op.load 93 _, type := _, pos := _, after := _, guard := _ } :: _) _ _
         refine load_g rfl 93 _ rfl w.heap.size 0 rfl (hcs data D) dh HQ.out.1.range hdh hdr infoH ?_
         simp only [Act.put, uz]))
    refine (begin_c cb C data D (w0.drewN nq) HQ.out.2.2 HQ.out.2.1 HK.out.2.1 HK.out.2.2.1 HK.out.2.2.2).mono ?_; rintro e w2 ⟨rfl, h2, g2⟩; have H2 := Kp.mk (And.intro h2 (((gr_weak HG.out.1 _).trans (gr_drewN _ _ (some cb))).trans g2)); clear g2 h2; go_wp2_with fail; go_ret2; exact ⟨rfl, H2.out⟩
  rw [gre_4 k2 k4] at hX; subst hX; have q2 : (D.kind == 2) = false := by simp [k2]
  have q4 : (D.kind == 4) = false := by simp [k4]
  clear k2 k4; go_enter func54, ntmps54; go_wp2_with fail; go_quiet (fail); have e1n := (gr_drewN w0 nq none).cell e1 (by simp); go_wp2_with fail; go_ret2; exact ⟨rfl, HC.out.kept (gr_drewN _ _ none) (by simp), gr_weak (HG.out.1.trans (gr_drewN _ _ none)) _⟩
theorem playing_c (cb : Nat) (C : Cl) (data : ByteArray) (D : Dg) (w : World) (hk : Kc w) (hh : Has w cb C.cs 83) (hc : C.ok) (hd : Came D) (hds : data.size ≤ 281474976710656) :
    Calls prog 168 #[pa cb 0, .agg (hcs data D).toArray] w fun e w' => e = .returned (.tuple #[.string (plaS C data D).1, iv (plaS C data D).2.1]) ∧ Has w' cb (plaS C data D).2.2.cs 83 ∧ w.grownBy w' (some cb) := by
  obtain ⟨dh, hdh, hdr⟩ := underH; obtain ⟨w0, hw0⟩ : ∃ q, w.alloc (.cells (hcs data D).toArray 93) = q := ⟨_, rfl⟩; obtain ⟨h0, g0, s0⟩ := hasN hw0; have hcb := hh.lt; have HC : Kp (Has w0 cb C.cs 83) := ⟨hh.kept g0 (by simp)⟩; have H0 : Kp (Has w0 w.heap.size (hcs data D) 93) := ⟨h0⟩; have HK := Kp.mk (And.intro (hk.kept g0 (by simp)) (And.intro hc (And.intro hd hds))); have HG := Kp.mk (And.intro g0 (show w.heap.size ≠ cb by omega)); have e1 : w0.cell? ⟨w.heap.size, 1, none⟩ = some (iv D.kind) := h0.cellv 1 _ rfl; obtain ⟨X, hX⟩ : ∃ q, plaS C data D = q := ⟨_, rfl⟩; rw [hX]; unfold plaS at hX; clear h0 g0 s0 hk hh hc hd hds hcb; unfold hcs Dg.cells at hw0; unfold hcs Dg.cells; by_cases k6 : D.kind = 6
  · rw [if_pos k6] at hX; subst hX; (have q2 : (D.kind == 6) = true := by simp [k6]); clear k6; go_enter func168, ntmps168
    go_wp2_with (first
      | (with_reducible show wpList _ _ _ ({ dst := _, op := Op.load 93 _, type := _, pos := _, after := _, guard := _ } :: _) _ _
         refine load_g rfl 93 _ rfl w.heap.size 0 rfl (hcs data D) dh H0.out.range hdh hdr infoH ?_
         simp only [Act.put, uz]))
    refine (look_c cb C data D w0 HK.out.1 HC.out HK.out.2.1 HK.out.2.2.1 HK.out.2.2.2).mono ?_; rintro e w2 ⟨rfl, h2, g2⟩; have H2 := Kp.mk (And.intro h2 ((gr_weak HG.out.1 _).trans g2)); clear g2 h2; go_wp2_with fail; go_ret2; exact ⟨rfl, H2.out⟩
  rw [if_neg k6] at hX; have q6 : (D.kind == 6) = false := by simp [k6]
  clear k6; by_cases k7 : D.kind = 7
  · rw [if_pos k7] at hX; subst hX; (have q2 : (D.kind == 7) = true := by simp [k7]); clear k7; go_enter func168, ntmps168
    go_wp2_with (first
      | (with_reducible show wpList _ _ _ ({ dst := _, op := Op.load 93 _, type := _, pos := _, after := _, guard := _ } :: _) _ _
         refine load_g rfl 93 _ rfl w.heap.size 0 rfl (hcs data D) dh H0.out.range hdh hdr infoH ?_
         simp only [Act.put, uz]))
    refine (dismiss_c cb C data D w0 HK.out.1 HC.out HK.out.2.1 HK.out.2.2.1 HK.out.2.2.2).mono ?_; rintro e w2 ⟨rfl, h2, g2⟩; have H2 := Kp.mk (And.intro h2 ((gr_weak HG.out.1 _).trans g2)); clear g2 h2; go_wp2_with fail; go_ret2; exact ⟨rfl, H2.out⟩
  rw [if_neg k7] at hX; subst hX; have q7 : (D.kind == 7) = false := by simp [k7]
  clear k7; go_enter func168, ntmps168; go_wp2_with fail; go_ret2; exact ⟨rfl, HC.out, gr_weak HG.out.1 _⟩
theorem okd_came {D : Dg} (h : Okd D) : Came D := ⟨h.f, h.n, h.c, h.m, h.s, h.dt⟩
theorem nxt_c (cb : Nat) (C : Cl) (data : ByteArray) (D : Dg) (w : World) (hk : Kc w) (hh : Has w cb C.cs 83) (hc : C.ok) (hd : Came D) (hds : data.size ≤ 281474976710656) :
    Calls prog C.st #[pa cb 0, .agg (hcs data D).toArray] w fun e w' => e = .returned (.tuple #[.string (nxtS C data D).1, iv (nxtS C data D).2.1]) ∧ Has w' cb (nxtS C data D).2.2.cs 83 ∧ w.grownBy w' (some cb) := by
  unfold nxtS; rcases hc.st with h | h | h
  · rw [h, if_neg (by decide), if_neg (by decide)]; exact silent_c cb C data D w hk hh hc hd hds
  · rw [h, if_pos rfl]; exact greeted_c cb C data D w hk hh hc hd hds
  · rw [h, if_neg (by decide), if_pos rfl]; exact playing_c cb C data D w hk hh hc hd hds
theorem builtHe (s : ByteArray) (D : Dg) : prog.built 93 [(0, .string s), (1, .agg D.cells.toArray)] = some (hcs s D).toArray := by
  unfold hcs Dg.cells
  kernel_rfl
theorem ent_st {C : Cl} (h : C.ok) : Enters C.st := by
  rcases h.st with h | h | h
  all_goals (rw [h]; intro a W; kernel_rfl)
theorem hear_c (cb : Nat) (C : Cl) (data : ByteArray) (w : World) (hk : Kc w) (hh : Has w cb C.cs 83) (hc : C.ok) (hds : data.size ≤ 281474976710656) :
    Calls prog 15 #[pa cb 0, .string data] w fun e w' => e = .returned (.tuple #[.string (heaS C data).1, iv (heaS C data).2.1]) ∧ Has w' cb (heaS C data).2.2.cs 83 ∧ w.grownBy w' (some cb) := by
  obtain ⟨du, hdu, hdr⟩ := under26; obtain ⟨X, hX⟩ : ∃ q, heaS C data = q := ⟨_, rfl⟩; rw [hX]; unfold heaS at hX; have HK := Kp.mk (And.intro hk (And.intro hh (And.intro hc hds))); have HDE := Kp.mk (decode_c data w (by omega)); have HOK : Kp ((dec (sl data)).2 = 0 → Came (dec (sl data)).1) := ⟨fun h => okd_came (dec_back h).2.2.1⟩; obtain ⟨R, hR⟩ : ∃ q, dec (sl data) = q := ⟨_, rfl⟩; rw [hR] at hX HDE HOK; obtain ⟨D, cd⟩ := R; have HX := Kp.mk hX; have hcb := hh.lt; clear hk hh hc hX hR; go_enter func15, ntmps15; go_wp2_with fail; refine HDE.out.mono ?_; rintro e w1 ⟨rfl, g1⟩; unfold dv; obtain ⟨w2, hw2⟩ : ∃ q, w1.alloc (.cells D.cells.toArray 34) = q := ⟨_, rfl⟩; obtain ⟨h2, g2, s2⟩ := hasN hw2; have H2 : Kp (Has w2 w1.heap.size D.cells 34 ∧ Has w2 cb C.cs 83 ∧ w.grownBy w2 none ∧ Kc w2) := ⟨h2, (HK.out.2.1.kept g1 (by simp)).kept g2 (by simp), g1.trans g2, (HK.out.1.kept g1 (by simp)).kept g2 (by simp)⟩; have e0 := H2.out.1.cellv 0 _ rfl; have c3 := H2.out.2.1.cellv 3 _ rfl; unfold Dg.cells at hw2; clear h2 g2 s2 g1 HDE; by_cases hz : cd = 0; rotate_left
  · (have q1 : (cd != 0) = true := by simp [hz]); have hX := HX.out; rw [if_pos hz] at hX; subst hX; clear hz HX; go_wp2_with fail; go_ret2; exact ⟨rfl, H2.out.2.1, gr_weak H2.out.2.2.1 _⟩
  have hX := HX.out; rw [if_neg (by simp [hz])] at hX; have HD := Kp.mk (HOK.out hz); clear HX HOK; subst hz; by_cases k : D.kind = 1 ∨ D.kind = 3 ∨ D.kind = 5
  · rw [if_pos k] at hX; subst hX; rcases k with k | k | k
    · (have q1 : (D.kind == 1) = true := by simp [k]); clear k; go_wp2_with fail; go_ret2; exact ⟨rfl, H2.out.2.1, gr_weak H2.out.2.2.1 _⟩
    · (have q1 : (D.kind == 1) = false := by simp [k]); (have q3 : (D.kind == 3) = true := by simp [k]); clear k; go_wp2_with fail; go_ret2; exact ⟨rfl, H2.out.2.1, gr_weak H2.out.2.2.1 _⟩
    · (have q1 : (D.kind == 1) = false := by simp [k]); (have q3 : (D.kind == 3) = false := by simp [k]); (have q5 : (D.kind == 5) = true := by simp [k]); clear k; go_wp2_with fail; go_ret2; exact ⟨rfl, H2.out.2.1, gr_weak H2.out.2.2.1 _⟩
  rw [if_neg k] at hX; subst hX; have q1 : (D.kind == 1) = false := by simp; exact fun e => k (.inl e)
  have q3 : (D.kind == 3) = false := by simp; exact fun e => k (.inr (.inl e))
  have q5 : (D.kind == 5) = false := by simp; exact fun e => k (.inr (.inr e))
  clear k; have HN : Kp (∀ w3 : World, Kc w3 → Has w3 cb C.cs 83 → Calls prog C.st #[pa cb 0, .agg (hcs data D).toArray] w3 fun e w' => e = .returned (.tuple #[.string (nxtS C data D).1, iv (nxtS C data D).2.1]) ∧ Has w' cb (nxtS C data D).2.2.cs 83 ∧ w3.grownBy w' (some cb)) := ⟨fun w3 hk hh => nxt_c cb C data D w3 hk hh HK.out.2.2.1 HD.out HK.out.2.2.2⟩; have HB := Kp.mk (builtHe data D); have hen := ent_st HK.out.2.2.1; have H3 : Kp (Has w2.drew w1.heap.size D.cells 34 ∧ Has w2.drew cb C.cs 83 ∧ w.grownBy w2.drew none ∧ Kc w2.drew) := ⟨H2.out.1.kept (gr_drew _ none) (by simp), H2.out.2.1.kept (gr_drew _ none) (by simp), H2.out.2.2.1.trans (gr_drew _ none), H2.out.2.2.2.kept (gr_drew _ none) (by simp)⟩; clear H2 HK HD; go_wp2_with fail; refine region_Y (S := fun w' => w'.cell? ⟨cb, 3, none⟩ = some (fv C.st)) [8] (by kernel_rfl) ?_; have hHeld := (gr_drew w2 none).cell c3 (by simp); refine yq 0 rfl ?_; refine yq 1 rfl ?_; refine yq 2 rfl ?_; refine yk 3 rfl ?_ (fun w hSw => by have k := hSw; go_simp; first | done | (with_reducible rfl)); refine yq 4 rfl ?_; refine yq 5 rfl ?_; simp only [Act.put, uz]; refine yo 6 (fun K hK => ?_) rfl; rw [if_pos (show Region.wanted _ _ = true from rfl)]; refine wp_load_mid 34 _ rfl w1.heap.size 0 rfl D.cells du H3.out.1.range hdu hdr info26 ?_; refine hK.out _ _ (fun h => h) ?_; clear hK K; simp only [Act.put, uz]; refine yp (i := 7) (v := .agg (hcs data D).toArray) rfl (yieldsIf_build (by rfl) 93 _ rfl _ ((congrArg (prog.built 93) (by simp only [List.map_toArray, List.map_cons, List.map_nil]; rfl)).trans HB.out)) ?_; simp only [Act.put, uz]; refine wpAnyY_late (i := 8) (by kernel_rfl) rfl (by kernel_rfl) (fun K hK => ?_); go_simp; refine (HN.out _ H3.out.2.2.2 H3.out.2.1).mono ?_; rintro e w3 ⟨rfl, h3, g3⟩; have H4 := Kp.mk (And.intro h3 ((gr_weak H3.out.2.2.1 (some cb)).trans g3)); refine hK.out _ _ ?_; clear hK K h3 g3; refine yq 9 rfl ?_; refine yq 10 rfl ?_; simp only [Act.put, uz]; refine yo 11 (fun K hK => ?_) rfl; go_simp; refine hK.out _ _ (fun h => h) ?_; clear hK K; refine yo 12 (fun K hK => ?_) rfl; go_simp; refine hK.out _ _ (fun h => h) ?_; clear hK K; refine yd ?_; go_wp2_with fail; go_ret2; exact ⟨rfl, H4.out⟩
theorem cell_ne {w : World} {b c i j : Nat} {v x : Value} (h : w.cell? ⟨b, i, none⟩ = some v) (hn : c ≠ b) : (w.setCell ⟨c, j, none⟩ x).cell? ⟨b, i, none⟩ = some v := by
  rw [World.cell?_setCell_other _ _ _ _ (by first | (simp; done) | (simp; omega))]; exact h
theorem slX_0 {C : Cl} {d : Dg} (h : C.num = 0) : slX C d = (nob, 240) := by unfold slX; rw [if_pos h]
theorem slX_1 {C : Cl} {d : Dg} (h : ¬ C.num = 0) (h2 : (sealD (sesD C d) C.key).2 = 0) : slX C d = ((sealD (sesD C d) C.key).1, 0) := by unfold slX; rw [if_neg h, if_pos h2]
theorem slX_2 {C : Cl} {d : Dg} (h : ¬ C.num = 0) (h2 : ¬ (sealD (sesD C d) C.key).2 = 0) : slX C d = (nob, (sealD (sesD C d) C.key).2) := by unfold slX; rw [if_neg h, if_neg h2]
theorem wrap1 {n : Nat} (h : n < 18446744073709551615) : IntKind.u64.wrap ((n : Int) + 1) = ((n + 1 : Nat) : Int) := by
  have : IntKind.u64.wrap ((n : Int) + 1) = ((n : Int) + 1) % 18446744073709551616 := rfl; rw [this]; omega
theorem slc_c (cb : Nat) (C : Cl) (d : Dg) (w : World) (hk : Kc w) (hh : Has w cb C.cs 83) (hf : d.fine) (hs : d.small) (hn : C.num < 18446744073709551616) (hsd : C.sd < 18446744073709551615) (hkey : C.key.size ≤ 32) :
    Calls prog 34 #[pa cb 4, dv d] w fun e w' => e = .returned (.tuple #[.string (slX C d).1, iv (slX C d).2]) ∧ Has w' cb (slS C d).cs 83 ∧ w.grownBy w' (some cb) := by
  obtain ⟨du, hdu, hdr⟩ := under26; have hcb := hh.lt; obtain ⟨Y, hY⟩ : ∃ q, slX C d = q := ⟨_, rfl⟩; obtain ⟨Z, hZ⟩ : ∃ q, slS C d = q := ⟨_, rfl⟩; have HY := Kp.mk (And.intro hY hZ); rw [hY, hZ]; clear hY hZ; obtain ⟨w0, hw0⟩ : ∃ q, w.alloc (.cells d.cells.toArray 34) = q := ⟨_, rfl⟩; obtain ⟨h0, g0, s0⟩ := hasN hw0; have HNE : Kp (w.heap.size ≠ cb) := ⟨by omega⟩; have H0 : Kp (Has w0.drew w.heap.size d.cells 34 ∧ Has w0.drew cb C.cs 83 ∧ w.grownBy w0.drew none) := ⟨h0.kept (gr_drew _ none) (by simp), (hh.kept g0 (by simp)).kept (gr_drew _ none) (by simp), g0.trans (gr_drew _ none)⟩; have HK := Kp.mk (And.intro hk (And.intro hkey hsd)); have HSL0 : Kp (∀ w2 : World, Kc w2 → CRt 18 #[.agg (sesD C d).cells.toArray, .string C.key] w2 (.tuple #[.string (sealD (sesD C d) C.key).1, .int .i64 (sealD (sesD C d) C.key).2])) := ⟨fun w2 hk2 => seal_c (sesD C d) C.key ⟨hf.k, hf.e, hn, hf.p, by show C.sd + 1 < 18446744073709551616; omega, hf.h, hf.t⟩ ⟨hs.1, hs.2, hs.3, hs.4, hs.5, hs.6⟩ w2 hk2 (by omega)⟩; have c4 : w0.cell? ⟨cb, 4, none⟩ = some (uv C.num) := (hh.kept g0 (by simp)).cellv 4 _ rfl; have HLV := Kp.mk (lives_c cb C.num w0 c4); have HW : Kp (Has w0 cb C.cs 83 ∧ w.grownBy w0 none) := ⟨hh.kept g0 (by simp), g0⟩; obtain ⟨s1, hs1⟩ : ∃ s1 : Nat, C.sd + 1 = s1 := ⟨_, rfl⟩; have hwr : IntKind.u64.wrap ((C.sd : Int) + 1) = (s1 : Int) := by rw [← hs1]; exact wrap1 hsd
  have HS1 := Kp.mk hs1; obtain ⟨X, hX⟩ : ∃ q, sealD (sesD C d) C.key = q := ⟨_, rfl⟩; have HX := Kp.mk hX; rw [hX] at HSL0; have e0 : dv d = .agg d.cells.toArray := rfl; rw [e0]; have HCS := Kp.mk e0; unfold Dg.cells at hw0 ⊢; clear h0 g0 s0 hk hh hf hs hn hsd hkey hcb c4 hX e0 hs1; go_enter func34, ntmps34; go_wp2_with fail; refine HLV.out.mono ?_; rintro e w0' ⟨rfl, hww⟩; have hww := hww.symm; subst hww; by_cases hz : C.num = 0
  · have q1 : decide (C.num ≠ 0) = false := decide_eq_false (by simp [hz]); rw [q1]; have HZ := Kp.mk hz; clear hz; go_wp2_with fail; go_ret2; exact ⟨by rw [← HY.out.1, slX_0 HZ.out]; rfl, by rw [← HY.out.2]; unfold slS; rw [slX_0 HZ.out]; exact HW.out.1, gr_weak HW.out.2 _⟩
  have q1 : decide (C.num ≠ 0) = true := decide_eq_true hz; have HZ := Kp.mk hz; rw [q1]; clear hz HW; go_wp2_with fail; have b5 := H0.out.1.cellv 5 _ (rfl : d.cells[5]? = some (uv d.session)); have z5 := H0.out.1.frozen 5; refine region_Y (S := fun w' => w'.cell? ⟨cb, 4, none⟩ = some (uv C.num) ∧ w'.cell? ⟨cb, 7, none⟩ = some (uv C.sd)) [] (by kernel_rfl) ?_; obtain ⟨W0, hW0⟩ : ∃ q, w0.drew = q := ⟨_, rfl⟩; rw [hW0] at H0 b5 z5 ⊢; clear hW0; have hHeld := And.intro (H0.out.2.1.cellv 4 _ rfl : W0.cell? ⟨cb, 4, none⟩ = some (uv C.num)) (H0.out.2.1.cellv 7 _ rfl : W0.cell? ⟨cb, 7, none⟩ = some (uv C.sd)); refine yq 0 rfl ?_; refine yq 1 rfl ?_; refine yq 2 rfl ?_; refine yk 3 rfl ?_ (fun w hSw => by have k := hSw.1; go_simp; first | done | (with_reducible rfl)); refine yq 4 rfl ?_; refine yq 5 rfl ?_; refine yq 6 rfl ?_; refine yk 7 rfl ?_ (fun w hSw => by have k := hSw.2; go_simp; first | done | (with_reducible rfl)); refine yq 8 rfl ?_; refine yq 9 rfl ?_; simp only [Act.put, uz]; refine yo 10 (fun K hK => ?_) rfl; go_simp; refine hK.out _ _ (fun q => ⟨cell_ne q.1 HNE.out, cell_ne q.2 HNE.out⟩) ?_; clear hK K; obtain ⟨w1, hw1⟩ : ∃ q, W0.setCell ⟨w.heap.size, 5, none⟩ (uv C.num) = q := ⟨_, rfl⟩; have H1 : Kp (Has w1 w.heap.size (d.cells.set 5 (uv C.num)) 34 ∧ Has w1 cb C.cs 83 ∧ w.grownBy w1 none) := ⟨by rw [← hw1]; have h := H0.out.1.setCell 5 (uv C.num); exact h, by rw [← hw1]; exact H0.out.2.1.kept (gr_set _ _ _ _) (by simp; exact fun e => HNE.out e.symm), by rw [← hw1]; exact gr_new H0.out.2.2 (gr_set _ _ _ _) (Nat.le_refl _)⟩; rw [hw1]; clear hw1; have b8 := H1.out.1.cellv 8 _ (rfl : (d.cells.set 5 (uv C.num))[8]? = some (uv d.seq)); have z8 := H1.out.1.frozen 8; refine yq 11 rfl ?_; simp only [Act.put, uz]; refine yo 12 (fun K hK => ?_) rfl; go_simp; refine hK.out _ _ (fun q => ⟨cell_ne q.1 HNE.out, cell_ne q.2 HNE.out⟩) ?_; clear hK K; obtain ⟨w2, hw2⟩ : ∃ q, w1.setCell ⟨w.heap.size, 8, none⟩ (uv (s1 : Int)) = q := ⟨_, rfl⟩; have H2 : Kp (Has w2 w.heap.size (sesD C d).cells 34 ∧ Has w2 cb C.cs 83 ∧ w.grownBy w2 none) := ⟨by rw [← hw2]; have h := H1.out.1.setCell 8 (uv (s1 : Int)); rw [← HS1.out] at h ⊢; exact h, by rw [← hw2]; exact H1.out.2.1.kept (gr_set _ _ _ _) (by simp; exact fun e => HNE.out e.symm), by rw [← hw2]; exact gr_new H1.out.2.2 (gr_set _ _ _ _) (Nat.le_refl _)⟩; rw [hw2]; clear hw2; refine yd ?_; have k6 : w2.cell? ⟨cb, 6, none⟩ = some (.string C.key) := H2.out.2.1.cellv 6 _ rfl; have HSL : Kp (∀ w3 : World, w2.grownBy w3 none → CRt 18 #[.agg (sesD C d).cells.toArray, .string C.key] w3 (.tuple #[.string X.1, .int .i64 X.2])) := ⟨fun w3 g => HSL0.out w3 (HK.out.1.kept (H2.out.2.2.trans g) (by simp))⟩; go_wp2_with fail; refine region_Y (S := fun w' => w2.grownBy w' none) [] (by kernel_rfl) ?_; have hHeld := gr_drew w2 none; refine yt (i := 0) (v := .agg (sesD C d).cells.toArray) rfl (yieldsIf_load_mid (by rfl) 34 _ rfl _ _ rfl _ _ (fun w hSw => (H2.out.1.kept hSw (by simp)).range) hdu hdr info26) (by assumption) ?_; simp only [Act.put, uz]; refine yq 1 rfl ?_; refine yq 2 rfl ?_; refine yq 3 rfl ?_; refine yk 4 rfl ?_ (fun w hSw => by have k0 := hSw.cell k6 (by simp); go_simp; first | done | (with_reducible rfl)); simp only [Act.put, uz]; refine yo 5 (fun K hK => ?_) rfl; go_simp; refine (HSL.out _ hHeld).mono ?_; rintro e w3 ⟨rfl, g30⟩; have g3 := Kp.mk (hHeld.trans g30); refine hK.out _ _ (fun q => q.trans g30) ?_; clear hK K g30; refine yq 6 rfl ?_; refine yq 7 rfl ?_; refine yq 8 rfl ?_; simp only [Act.put, uz]; refine yo 9 (fun K hK => ?_) rfl; go_simp; refine hK.out _ _ (fun h => h) ?_; clear hK K; refine yo 10 (fun K hK => ?_) rfl; go_simp; refine hK.out _ _ (fun h => h) ?_; clear hK K; refine yd ?_; have H3 : Kp (Has w3 cb C.cs 83 ∧ w.grownBy w3 none) := ⟨H2.out.2.1.kept g3.out (by simp), H2.out.2.2.trans g3.out⟩; obtain ⟨tx, cd⟩ := X; by_cases hcd : cd = 0
  · subst hcd; have c7 := H3.out.1.cellv 7 _ (rfl : C.cs[7]? = some (uv C.sd)); have z7 := H3.out.1.frozen 7; have HE : Kp (Has (w3.setCell ⟨cb, 7, none⟩ (uv (s1 : Int))) cb { C with sd := C.sd + 1 : Cl }.cs 83 ∧ w.grownBy (w3.setCell ⟨cb, 7, none⟩ (uv (s1 : Int))) (some cb)) := ⟨by have h := H3.out.1.setCell 7 (uv (s1 : Int)); rw [← HS1.out] at h ⊢; exact h, (gr_weak H3.out.2 _).trans (gr_set _ _ _ _)⟩; clear H2 g3 HSL HSL0 hHeld k6 H3; go_wp2_with fail; go_ret2; exact ⟨by rw [← HY.out.1, slX_1 HZ.out (by rw [HX.out]), HX.out]; first | done | rfl, by rw [← HY.out.2]; unfold slS; rw [slX_1 HZ.out (by rw [HX.out])]; exact HE.out.1, HE.out.2⟩
  · (have q2 : (cd != 0) = true := by simp [hcd]); have HCD := Kp.mk hcd; clear hcd H2 g3 HSL HSL0 hHeld k6; go_wp2_with fail; go_ret2; exact ⟨by rw [← HY.out.1, slX_2 HZ.out (by rw [HX.out]; exact HCD.out), HX.out]; first | done | rfl, by rw [← HY.out.2]; unfold slS; rw [slX_2 HZ.out (by rw [HX.out]; exact HCD.out), HX.out, if_neg HCD.out]; exact H3.out.1, gr_weak H3.out.2 _⟩
def newS (nm sc nc : ByteArray) : Cl := ⟨nm, sc, nc, 52, 0, 0, nob, 0, 0, 0, nob⟩
theorem builtCl (a b c : ByteArray) : prog.built 83 [(0, .string a), (1, .string b), (2, .string c), (3, fv 52)] = some (newS a b c).cs.toArray := by kernel_rfl
theorem builtHel (n : ByteArray) : prog.built 34 [(0, .int .i64 1), (1, .string n)] = some #[.int .i64 1, .string n, .int .u64 0, .string { data := #[] }, .string { data := #[] }, .int .u64 0, .int .i64 0, .string { data := #[] }, .int .u64 0, .int .i64 0, .int .i64 0, .bool false, .bool false, .string { data := #[] }, .string { data := #[] }] := by kernel_rfl
theorem builtCmd (t u : Int) (f b : Bool) : prog.built 34 [(0, .int .i64 5), (9, .agg #[.int .i64 t, .int .i64 u, .bool f, .bool b])] = some (cmdD t u f b).cells.toArray := by kernel_rfl
theorem builtBy : prog.built 34 [(0, .int .i64 7)] = some (Dg.zero 7).cells.toArray := by kernel_rfl
theorem zero_fine {k : Int} (h : -9223372036854775808 ≤ k ∧ k < 9223372036854775808) : (Dg.zero k).fine := (zero_ok h).f
theorem hel_fine (C : Cl) : (helD C).fine := ⟨by show (-9223372036854775808 : Int) ≤ 1 ∧ (1 : Int) < 9223372036854775808; omega, by show 0 < 18446744073709551616; omega, by show 0 < 18446744073709551616; omega, by show (-9223372036854775808 : Int) ≤ 0 ∧ (0 : Int) < 9223372036854775808; omega, by show 0 < 18446744073709551616; omega, by show (-9223372036854775808 : Int) ≤ 0 ∧ (0 : Int) < 9223372036854775808; omega, by show (-9223372036854775808 : Int) ≤ 0 ∧ (0 : Int) < 9223372036854775808; omega⟩
theorem hel_small {C : Cl} (hc : C.nc.size ≤ 1024) : (helD C).small := ⟨by show C.nc.size ≤ _; omega, by show (0 : Nat) ≤ _; omega, by show (0 : Nat) ≤ _; omega, by show (0 : Nat) ≤ _; omega, by show (0 : Nat) ≤ _; omega, by show (0 : Nat) ≤ _; omega⟩
theorem zero_small (k : Int) : (Dg.zero k).small := ⟨by show (0 : Nat) ≤ _; omega, by show (0 : Nat) ≤ _; omega, by show (0 : Nat) ≤ _; omega, by show (0 : Nat) ≤ _; omega, by show (0 : Nat) ≤ _; omega, by show (0 : Nat) ≤ _; omega⟩
theorem cmd_small (t u : Int) (f b : Bool) : (cmdD t u f b).small := ⟨by show (0 : Nat) ≤ _; omega, by show (0 : Nat) ≤ _; omega, by show (0 : Nat) ≤ _; omega, by show (0 : Nat) ≤ _; omega, by show (0 : Nat) ≤ _; omega, by show (0 : Nat) ≤ _; omega⟩
theorem cmd_fine {t u : Int} (ht : -9223372036854775808 ≤ t ∧ t < 9223372036854775808) (hu : -9223372036854775808 ≤ u ∧ u < 9223372036854775808) (f b : Bool) : (cmdD t u f b).fine := ⟨by show (-9223372036854775808 : Int) ≤ 5 ∧ (5 : Int) < 9223372036854775808; omega, by show 0 < 18446744073709551616; omega, by show 0 < 18446744073709551616; omega, by show (-9223372036854775808 : Int) ≤ 0 ∧ (0 : Int) < 9223372036854775808; omega, by show 0 < 18446744073709551616; omega, ht, hu⟩
theorem slX_nob {C : Cl} {d : Dg} (h : (slX C d).2 ≠ 0) : (slX C d).1 = nob := by
  unfold slX at h ⊢; split
  · rfl
  · split
    · rename_i h1 h2; rw [if_neg h1, if_pos h2] at h; exact absurd rfl h
    · rfl
theorem underM : ∃ d, prog.underlying 29 = some d ∧ d.isRow = true := ⟨_, underlying29, rfl⟩
theorem infoM : (prog.info? 29).map (·.size) = some 4 := by kernel_rfl
theorem hello_c (cb : Nat) (C : Cl) (w : World) (hk : Kc w) (hh : Has w cb C.cs 83) (hc : C.ok) :
    Calls prog 22 #[pa cb 0] w fun e w' => e = .returned (.tuple #[.string (helS C).1, iv (helS C).2.1]) ∧ Has w' cb (helS C).2.2.cs 83 ∧ w.grownBy w' (some cb) := by
  obtain ⟨X, hX⟩ : ∃ q, helS C = q := ⟨_, rfl⟩; rw [hX]; unfold helS at hX; have HK := Kp.mk (And.intro hk (And.intro hh hc)); have HLV := Kp.mk (lives_c cb C.num w (hh.cellv 4 _ rfl)); clear hk hh hc; go_enter func22, ntmps22; go_wp2_with fail; refine HLV.out.mono ?_; rintro e w0 ⟨rfl, hww⟩; have hww := hww.symm; subst hww; by_cases hz : C.num ≠ 0
  · rw [if_pos hz] at hX; subst hX; rw [decide_eq_true hz]; clear hz; go_wp2_with fail; go_ret2; exact ⟨rfl, HK.out.2.1, World.grownBy.refl _ _⟩
  rw [if_neg hz] at hX; subst hX; rw [decide_eq_false hz]; have z3 := HK.out.2.1.frozen 3; have c3 := HK.out.2.1.cellv 3 _ rfl; obtain ⟨w1, hw1⟩ : ∃ q, w.setCell ⟨cb, 3, none⟩ (fv 54) = q := ⟨_, rfl⟩; have H1 : Kp (Has w1 cb { C with st := 54 : Cl }.cs 83 ∧ w.grownBy w1 (some cb)) := ⟨by rw [← hw1]; exact HK.out.2.1.setCell 3 _, by rw [← hw1]; exact gr_set _ _ _ _⟩; have m2 := H1.out.1.cellv 2 _ rfl; have HB : Kp (prog.built 34 [(0, .int .i64 1), (1, .string C.nc)] = some (helD C).cells.toArray) := ⟨builtHel _⟩; have HE : Kp (CRt 31 #[.agg (helD C).cells.toArray] w1 (.tuple #[.string (ba (enc (helD C)).1), .int .i64 (enc (helD C)).2])) := ⟨encode_c (helD C) (hel_fine C) (hel_small (by have := HK.out.2.2.nc; omega)) w1⟩; clear hz
  go_wp2_with (first
    | (with_reducible show wpList _ _ _ ({ dst := _, op := Op.build 34 _, type := _, pos := _, after := _, guard := _ } :: _) _ _
       refine build_g rfl 34 _ rfl _ ((congrArg (prog.built 34) (by simp only [List.map_toArray, List.map_cons, List.map_nil]; rfl)).trans HB.out) ?_
       simp only [Act.put, uz]))
  refine HE.out.mono ?_; rintro e w2 ⟨rfl, g2⟩; have H2 : Kp (Has w2 cb { C with st := 54 : Cl }.cs 83 ∧ w.grownBy w2 (some cb)) := ⟨H1.out.1.kept g2 (by simp), H1.out.2.trans (gr_weak g2 _)⟩; clear g2; go_wp2_with fail; go_ret2; exact ⟨rfl, H2.out⟩
theorem command_c (cb : Nat) (C : Cl) (w : World) (hk : Kc w) (hh : Has w cb C.cs 83) (hc : C.ok) (hsd : C.sd < 18446744073709551615) (t u : Int) (f b : Bool) (ht : -9223372036854775808 ≤ t ∧ t < 9223372036854775808) (hu : -9223372036854775808 ≤ u ∧ u < 9223372036854775808) :
    Calls prog 9 #[pa cb 0, .agg #[.int .i64 t, .int .i64 u, .bool f, .bool b]] w fun e w' => e = .returned (.tuple #[.string (slX C (cmdD t u f b)).1, iv (slX C (cmdD t u f b)).2]) ∧ Has w' cb (slS C (cmdD t u f b)).cs 83 ∧ w.grownBy w' (some cb) := by
  obtain ⟨dm, hdm, hdr⟩ := underM; obtain ⟨w0, hw0⟩ : ∃ q, w.alloc (.cells #[.int .i64 t, .int .i64 u, .bool f, .bool b] 29) = q := ⟨_, rfl⟩; obtain ⟨h0, g0, s0⟩ := hasN hw0; have HR : Kp (w0.drew.rangeAt w.heap.size 0 [.int .i64 t, .int .i64 u, .bool f, .bool b]) := ⟨(h0.kept (gr_drew _ none) (by simp)).range⟩; have HG : Kp (w.grownBy w0.drew none) := ⟨g0.trans (gr_drew _ none)⟩; have HSL : Kp (Calls prog 34 #[pa cb 4, .agg (cmdD t u f b).cells.toArray] w0.drew fun e w' => e = .returned (.tuple #[.string (slX C (cmdD t u f b)).1, iv (slX C (cmdD t u f b)).2]) ∧ Has w' cb (slS C (cmdD t u f b)).cs 83 ∧ w0.drew.grownBy w' (some cb)) := ⟨slc_c cb C (cmdD t u f b) w0.drew (hk.kept HG.out (by simp)) (hh.kept HG.out (by simp)) (cmd_fine ht hu f b) (cmd_small t u f b) hc.num hsd hc.key⟩; obtain ⟨X, hX⟩ : ∃ q, slX C (cmdD t u f b) = q := ⟨_, rfl⟩; rw [hX] at HSL ⊢; have HB := Kp.mk (builtCmd t u f b); clear h0 g0 s0 hk hh hc hX hsd ht hu; go_enter func9, ntmps9; go_wp2_with fail; refine region_Y (S := fun w' => w0.grownBy w' none) [5] (by kernel_rfl) ?_; have hHeld := gr_drew w0 none; refine yq 0 rfl ?_; refine yq 1 rfl ?_; refine yq 2 rfl ?_; simp only [Act.put, uz]; refine yo 3 (fun K hK => ?_) rfl; rw [if_pos (show Region.wanted _ _ = true from rfl)]; refine wp_load_mid 29 _ rfl w.heap.size 0 rfl [.int .i64 t, .int .i64 u, .bool f, .bool b] dm HR.out hdm hdr infoM ?_; refine hK.out _ _ (fun h => h) ?_; clear hK K; simp only [Act.put, uz]; refine yp (i := 4) (v := .agg (cmdD t u f b).cells.toArray) rfl (yieldsIf_build (by rfl) 34 _ rfl _ ((congrArg (prog.built 34) (by simp only [List.map_toArray, List.map_cons, List.map_nil]; rfl)).trans HB.out)) ?_; simp only [Act.put, uz]; refine wpAnyY_late (i := 5) (by kernel_rfl) rfl (by kernel_rfl) (fun K hK => ?_); go_simp; refine HSL.out.mono ?_; rintro e w3 ⟨rfl, h3, g3⟩; have H4 := Kp.mk (And.intro h3 ((gr_weak HG.out (some cb)).trans g3)); refine hK.out _ _ ?_; clear hK K h3 g3; refine yq 6 rfl ?_; refine yq 7 rfl ?_; simp only [Act.put, uz]; refine yo 8 (fun K hK => ?_) rfl; go_simp; refine hK.out _ _ (fun h => h) ?_; clear hK K; refine yo 9 (fun K hK => ?_) rfl; go_simp; refine hK.out _ _ (fun h => h) ?_; clear hK K; refine yd ?_; go_wp2_with fail; go_ret2; exact ⟨rfl, H4.out⟩
theorem bye_c (cb : Nat) (C : Cl) (w : World) (hk : Kc w) (hh : Has w cb C.cs 83) (hc : C.ok) (hsd : C.sd < 18446744073709551615) :
    Calls prog 12 #[pa cb 0] w fun e w' => e = .returned (.tuple #[.string (byeS C).1, iv (byeS C).2.1]) ∧ Has w' cb (byeS C).2.2.cs 83 ∧ w.grownBy w' (some cb) := by
  obtain ⟨Y, hY⟩ : ∃ q, byeS C = q := ⟨_, rfl⟩; rw [hY]; unfold byeS at hY; have HSL : Kp (Calls prog 34 #[pa cb 4, .agg (Dg.zero 7).cells.toArray] w fun e w' => e = .returned (.tuple #[.string (slX C (Dg.zero 7)).1, iv (slX C (Dg.zero 7)).2]) ∧ Has w' cb (slS C (Dg.zero 7)).cs 83 ∧ w.grownBy w' (some cb)) := ⟨slc_c cb C (Dg.zero 7) w hk hh (zero_fine (by omega)) (zero_small 7) hc.num hsd hc.key⟩; have HX0 : Kp ((slX C (Dg.zero 7)).2 ≠ 0 → (slX C (Dg.zero 7)).1 = nob ∧ slS C (Dg.zero 7) = C) := ⟨fun h => ⟨slX_nob h, by unfold slS; rw [if_neg h]⟩⟩; have HX1 : Kp ((slX C (Dg.zero 7)).2 = 0 → endS (slS C (Dg.zero 7)) = endS C) := ⟨fun h => by unfold slS; rw [if_pos h]; rfl⟩; obtain ⟨X, hX⟩ : ∃ q, slX C (Dg.zero 7) = q := ⟨_, rfl⟩; obtain ⟨S, hS⟩ : ∃ q, slS C (Dg.zero 7) = q := ⟨_, rfl⟩; rw [hX, hS] at HX0; rw [hX, hS] at HX1; rw [hX, hS] at HSL; rw [hX] at hY; have HB := Kp.mk builtBy; clear hk hh hc hX hS hsd; obtain ⟨tx, cd⟩ := X; go_enter func12, ntmps12
  go_wp2_with (first
    | (with_reducible show wpList _ _ _ ({ dst := _, op := Op.build 34 _, type := _, pos := _, after := _, guard := _ } :: _) _ _
       refine build_g rfl 34 _ rfl _ ((congrArg (prog.built 34) (by simp only [List.map_toArray, List.map_cons, List.map_nil]; rfl)).trans HB.out) ?_
       simp only [Act.put, uz]))
  refine HSL.out.mono ?_; rintro e w1 ⟨rfl, h1, g1⟩; have H1 := Kp.mk (And.intro h1 g1); clear HSL h1 g1; by_cases hz : cd = 0; rotate_left
  · obtain ⟨e1, e2⟩ := HX0.out hz; have e1 : tx = nob := e1; subst e1; subst e2; (have q1 : (cd != 0) = true := by simp [hz]); rw [if_neg (show ¬ (nob, cd).2 = 0 from hz)] at hY; subst hY; clear hz HX0 HX1; go_wp2_with fail; go_ret2; exact ⟨rfl, H1.out⟩
  subst hz; have he := HX1.out rfl; rw [if_pos rfl, ← he] at hY; subst hY; clear HX0 HX1 he; go_wp2_with fail; refine (end_c cb S w1 H1.out.1).mono ?_; rintro e w2 ⟨rfl, h2, g2⟩; have H2 := Kp.mk (And.intro h2 (H1.out.2.trans g2)); clear h2 g2; go_wp2_with fail; go_ret2; exact ⟨rfl, H2.out⟩
theorem playing_t (cb : Nat) (C : Cl) (w : World) (hh : Has w cb C.cs 83) :
    CRt 13 #[pa cb 0] w (.tuple #[uv C.num, iv C.pl, .bool (decide (C.num ≠ 0))]) := by
  have c4 : w.cell? ⟨cb, 4, none⟩ = some (uv C.num) := hh.cellv 4 _ rfl; have c5 : w.cell? ⟨cb, 5, none⟩ = some (iv C.pl) := hh.cellv 5 _ rfl; obtain ⟨B, hB⟩ : ∃ B, decide (C.num ≠ 0) = B := ⟨_, rfl⟩; have HLV : Kp (∀ w3 : World, w.grownBy w3 none → CRs 44 #[pa cb 4] w3 (.bool B)) := ⟨fun w3 g => by rw [← hB]; exact lives_c cb C.num w3 (g.cell c4 (by simp))⟩; rw [hB]; clear hB; go_enter func13, ntmps13; go_wp2_with fail; refine region_Y (S := fun w' => w.grownBy w' none) [] (by kernel_rfl) ?_; have hHeld := gr_drew w none; refine yq 0 rfl ?_; refine yq 1 rfl ?_; refine yq 2 rfl ?_; refine yq 3 rfl ?_; refine yk 4 rfl ?_ (fun w hSw => by have k0 := hSw.cell c4 (by simp); go_simp; first | done | (with_reducible rfl)); refine yq 5 rfl ?_; refine yq 6 rfl ?_; refine yq 7 rfl ?_; refine yq 8 rfl ?_; refine yk 9 rfl ?_ (fun w hSw => by have k0 := hSw.cell c5 (by simp); go_simp; first | done | (with_reducible rfl)); refine yq 10 rfl ?_; refine yq 11 rfl ?_; refine yq 12 rfl ?_; simp only [Act.put, uz]; refine yo 13 (fun K hK => ?_) rfl; go_simp; refine (HLV.out _ hHeld).mono ?_; rintro e w3 ⟨rfl, hw3⟩; subst hw3; refine hK.out _ _ (fun q => q) ?_; clear hK K; refine yo 14 (fun K hK => ?_) rfl; go_simp; refine hK.out _ _ (fun h => h) ?_; clear hK K; refine yo 15 (fun K hK => ?_) rfl; go_simp; refine hK.out _ _ (fun h => h) ?_; clear hK K; refine yo 16 (fun K hK => ?_) rfl; go_simp; refine hK.out _ _ (fun h => h) ?_; clear hK K; refine yd ?_; go_wp2_with fail; go_ret3; exact ⟨rfl, hHeld⟩
theorem underA : ∃ d, prog.underlying 63 = some d ∧ d.isRow = true := ⟨_, underlying63, rfl⟩
theorem fls_at (S : List Sn) (j : Nat) (s : Sn) (h : S[j]? = some s) (i : Nat) (z : Value) (hz : s.cs[i]? = some z) : (fls S)[5 * j + i]? = some z := by
  induction S generalizing j with
  | nil => cases h
  | cons a r ih =>
    have e : fls (a :: r) = a.cs ++ fls r := by simp [fls]
    have hi : i < 5 := by
      have := (List.getElem?_eq_some_iff.1 hz).1; exact this
    rw [e]; cases j with
    | zero =>
      obtain rfl := Option.some.inj h; rw [List.getElem?_append_left (by show 5 * 0 + i < 5; omega)]
      simpa using hz
    | succ j =>
      have hl : a.cs.length = 5 := rfl; rw [List.getElem?_append_right (by rw [hl]; omega), hl, show 5 * (j + 1) + i - 5 = 5 * j + i by omega]; exact ih j h
theorem fls_snr {w : World} {b : Nat} {S : List Sn} {ty : TypeId} (h : Has w b (fls S) ty) : SnR w b 0 S := fun j s hj i z hz => by
  rw [Nat.zero_add]; exact h.cellv _ z (fls_at S j s hj i z hz)
theorem seen_set {w w' : World} {a : Option Addr} {S : List Sn} {k : Nat} (h : SeenR w a S) (g : w.grownBy w' (some k)) (hn : ∀ b o, a = some ⟨b, o, none⟩ → b ≠ k) : SeenR w' a S := fun q => by
  obtain ⟨sb, so, e, r⟩ := h q; exact ⟨sb, so, e, fun j s hj i z hz => g.cell (r j s hj i z hz) (by simp; exact hn sb so e)⟩
theorem rd_seen {w w' : World} {V : Vw} {a : Option Addr} {c : Nat} (h : RdR w w' V a c) : SeenR w' a V.S := by
  rcases h.s with ⟨_, _, h0⟩ | ⟨b, e, _, _, hb⟩
  · rw [h0]; exact fun q => absurd rfl q
  · intro _; exact ⟨b, 0, e, fls_snr hb⟩
def newE (nm sc nc : ByteArray) : Int := if Na.chk nm ≠ 0 then 60 else if sc.size ≠ 32 then 120 else if nc.size ≠ 16 then 73 else 0
theorem new_ok {nm sc nc : ByteArray} (h : newE nm sc nc = 0) : (newS nm sc nc).ok := by
  unfold newE at h; split at h
  · exact absurd h (by decide)
  rename_i h1; split at h
  · exact absurd h (by decide)
  rename_i h2; split at h
  · exact absurd h (by decide)
  rename_i h3
  have hn : nm.size ≤ 24 := by
    (have h1 : Na.chk nm = 0 := by simpa using h1); unfold Na.chk at h1; split at h1
    · rename_i q; unfold Na.chkOK at q; simp only [Bool.and_eq_true, decide_eq_true_eq] at q; exact q.1.1.2
    · exact absurd h1 (by decide)
  exact ⟨hn, by show sc.size = 32; omega, by show nc.size = 16; omega, by show (0 : Nat) ≤ 32; omega, by show (0 : Nat) < _; omega, by show (-9223372036854775808 : Int) ≤ 0 ∧ (0 : Int) < 9223372036854775808; omega, by show (0 : Nat) < _; omega, by show (0 : Nat) < _; omega, by show (0 : Nat) ≤ _; omega, .inl rfl⟩
theorem new_c (nm sc nc : ByteArray) (w : World) (hk : Na.Kc w) (h1 : nm.size ≤ 281474976710656) (h2 : sc.size ≤ 281474976710656) (h3 : nc.size ≤ 281474976710656) :
    Calls prog 20 #[.agg #[.string nm, .string sc], .string nc] w fun e w' => (newE nm sc nc ≠ 0 ∧ e = .returned (.tuple #[.pointer none, iv (newE nm sc nc)]) ∧ w.grownBy w' none) ∨ (newE nm sc nc = 0 ∧ ∃ cb, e = .returned (.tuple #[pa cb 0, iv 0]) ∧ Has w' cb (newS nm sc nc).cs 83 ∧ w.grownBy w' none ∧ w.heap.size ≤ cb) := by
  obtain ⟨E, hE⟩ : ∃ q, newE nm sc nc = q := ⟨_, rfl⟩; rw [hE]; unfold newE at hE; obtain ⟨w0, hw0⟩ : ∃ q, w.alloc (.cells #[.string nm, .string sc] 63) = q := ⟨_, rfl⟩; obtain ⟨h0, g0, s0⟩ := hasN hw0; have HCK := Kp.mk (Na.check_c nm w0 h1 (hk.kept g0)); have a0 : w0.cell? ⟨w.heap.size, 0, none⟩ = some (.string nm) := h0.cellv 0 _ rfl; have a1 : w0.cell? ⟨w.heap.size, 1, none⟩ = some (.string sc) := h0.cellv 1 _ rfl; obtain ⟨ck, hck⟩ : ∃ q, Na.chk nm = q := ⟨_, rfl⟩; rw [hck] at hE HCK; have HSZ := Kp.mk (And.intro h1 (And.intro h2 h3)); have HG := Kp.mk g0; clear h0 g0 s0 hk h1 h2 h3 hck; go_enter func20, ntmps20; go_wp2_with fail; refine HCK.out.mono ?_; rintro e w1 ⟨rfl, g1⟩; have HG1 := Kp.mk (HG.out.trans g1); replace a0 := g1.cell a0 (by simp); replace a1 := g1.cell a1 (by simp); clear g1 HCK hw0; by_cases hz : ck ≠ 0
  · rw [if_pos hz] at hE; subst hE; (have q1 : (ck != 0) = true := by simp [hz]); clear hz; go_wp2_with fail; go_ret2; exact .inl ⟨by decide, rfl, HG1.out⟩
  rw [if_neg hz] at hE; have q1 : (ck != 0) = false := by simp; simpa using hz
  clear hz; by_cases h32 : sc.size ≠ 32
  · rw [if_pos h32] at hE; subst hE; (have q2 : ((sc.size : Int) != 32) = true := by simp; omega); (have q3 : (sc.size != 32) = true := by simp; omega); clear h32; go_wp2_with fail; go_ret2; exact .inl ⟨by decide, rfl, HG1.out⟩
  rw [if_neg h32] at hE; have q2 : ((sc.size : Int) != 32) = false := by simp; omega
  have q3 : (sc.size != 32) = false := by simp; omega
  clear h32; by_cases h16 : nc.size ≠ 16
  · rw [if_pos h16] at hE; subst hE; (have q4 : ((nc.size : Int) != 16) = true := by simp; omega); (have q5 : (nc.size != 16) = true := by simp; omega); clear h16; go_wp2_with fail; go_ret2; exact .inl ⟨by decide, rfl, HG1.out⟩
  rw [if_neg h16] at hE; subst hE; have q4 : ((nc.size : Int) != 16) = false := by simp; omega
  have q5 : (nc.size != 16) = false := by simp; omega
  clear h16; obtain ⟨w0, hw0⟩ : ∃ q, w1 = q := ⟨_, rfl⟩; rw [hw0] at a0 a1 HG1 ⊢; clear hw0 w1; have HB := Kp.mk (builtCl nm sc nc); go_wp2_with fail; refine region_Y (S := fun w' => w0.grownBy w' none) [] (by kernel_rfl) ?_; have hHeld := gr_drew w0 none; refine yq 0 rfl ?_; refine yk 1 rfl ?_ (fun w hSw => by have k0 := hSw.cell a0 (by simp); go_simp; first | done | (with_reducible rfl)); refine yq 3 rfl ?_; refine yk 4 rfl ?_ (fun w hSw => by have k0 := hSw.cell a1 (by simp); go_simp; first | done | (with_reducible rfl)); refine yq 6 rfl ?_; simp only [Act.put, uz]; refine yo 2 (fun K hK => ?_) rfl; go_simp; refine (Na.clone_c nm _ (by have := HSZ.out; omega)).mono ?_; rintro e w1 ⟨rfl, g10⟩; have g1 := Kp.mk (hHeld.trans g10); refine hK.out _ _ (fun q => q.trans g10) ?_; clear hK K g10; refine yo 5 (fun K hK => ?_) rfl; go_simp; refine (Na.clone_c sc _ (by have := HSZ.out; omega)).mono ?_; rintro e w2 ⟨rfl, g20⟩; have g2 := Kp.mk (g1.out.trans g20); refine hK.out _ _ (fun q => q.trans g20) ?_; clear hK K g20; refine yo 7 (fun K hK => ?_) rfl; go_simp; refine (Na.clone_c nc _ (by have := HSZ.out; omega)).mono ?_; rintro e w3 ⟨rfl, g30⟩; have g3 := Kp.mk (g2.out.trans g30); refine hK.out _ _ (fun q => q.trans g30) ?_; clear hK K g30; refine yp (i := 8) (v := .agg (newS nm sc nc).cs.toArray) rfl (yieldsIf_build (by rfl) 83 _ rfl _ ((congrArg (prog.built 83) (by simp only [List.map_toArray, List.map_cons, List.map_nil]; rfl)).trans HB.out)) ?_; simp only [Act.put, uz]; refine yo 9 (fun K hK => ?_) rfl; go_simp; obtain ⟨w4, hw4⟩ : ∃ q, w3.alloc (.cells (newS nm sc nc).cs.toArray 83) = q := ⟨_, rfl⟩; obtain ⟨h4, g4, s4⟩ := hasN hw4; have H4 := Kp.mk (And.intro h4 (And.intro (g3.out.trans g4) (And.intro g3.out.size s4))); refine hK.out _ _ (fun q => q.trans (gAl _ _ _)) ?_; clear hK K; rw [hw4]; clear hw4 h4 g4 s4; refine yo 10 (fun K hK => ?_) rfl; go_simp; refine hK.out _ _ (fun h => h) ?_; clear hK K; refine yo 11 (fun K hK => ?_) rfl; go_simp; refine hK.out _ _ (fun h => h) ?_; clear hK K; refine yd ?_; go_wp2_with fail; go_ret2; exact ⟨_, rfl, H4.out.1, HG1.out.trans H4.out.2.1, by have := HG1.out.size; have := H4.out.2.2.1; omega⟩
theorem view_t (cb : Nat) (C : Cl) (w : World) (hh : Has w cb C.cs 83) :
    Calls prog 16 #[pa cb 0] w fun e w' => ∃ a c, e = .returned (.tuple #[.agg ((rdV (sl C.vw)).1.cs a c).toArray, .bool (decide ((rdV (sl C.vw)).2 = 0))]) ∧ SeenR w' a (rdV (sl C.vw)).1.S ∧ w.grownBy w' none := by
  obtain ⟨dv', hdv, hdr⟩ := underV; have HRD := Kp.mk (fun w3 => read_c C.vw w3); obtain ⟨R, hR⟩ : ∃ q, rdV (sl C.vw) = q := ⟨_, rfl⟩; rw [hR] at HRD ⊢; obtain ⟨V, cd⟩ := R; obtain ⟨w0, hw0⟩ : ∃ q, w.alloc (.cells #[.int .u64 0, .int .i64 0, .string { data := #[] }, .int .i64 0, .int .i64 0, .int .i64 0, .int .i64 0, .int .i64 0, .int .i64 0, .int .i64 0, .int .i64 0, .int .i64 0, .int .i64 0, .int .i64 0, .int .i64 0, .slice none 0 0] 49) = q := ⟨_, rfl⟩; obtain ⟨h0, g0, s0⟩ := hasN hw0; have H0 : Kp (Has w0 w.heap.size (Vw.zero.cs none 0) 49 ∧ w.grownBy w0 none ∧ w.heap.size < w0.heap.size) := ⟨h0, g0, by omega⟩; have c10 : w0.cell? ⟨cb, 10, none⟩ = some (.string C.vw) := g0.cell (hh.cellv 10 _ rfl) (by simp); clear h0 g0 s0 hh hR; go_enter func16, ntmps16; go_wp2_with fail; refine (HRD.out w0).mono ?_; rintro e w1 ⟨a, c, rfl, rr⟩; have H1 : Kp (Has w1 w.heap.size (Vw.zero.cs none 0) 49 ∧ w.grownBy w1 none ∧ SeenR w1 a V.S) := ⟨H0.out.1.kept rr.g (by simp), H0.out.2.1.trans rr.g, rd_seen rr⟩
  have HNE : Kp (∀ b o, a = some ⟨b, o, none⟩ → b ≠ w.heap.size) := ⟨fun b o e => by
    rcases rr.s with ⟨e1, _⟩ | ⟨b', e1, _, hb', _⟩
    · rw [e1] at e; cases e
    · rw [e1] at e; injection e with e
      injection e with e
      rw [← e]; have := H0.out.2.2
      omega⟩
  have q1 : ((cd : Int) == 0) = decide (cd = 0) := by by_cases h : cd = 0 <;> simp [h]
  obtain ⟨B, hB⟩ : ∃ B, decide (cd = 0) = B := ⟨_, rfl⟩; have HB := Kp.mk hB; rw [hB] at q1; clear rr HRD hB H0
  go_wp2_with (first
    | (with_reducible show wpList _ _ _ ({ dst := none, op := Op.store 49 (Operand.tmp 4) _, type := _, pos := _, after := _, guard := _ } :: _) _ _
       refine st_new w1 (V.cs a c) 49 rfl rfl rfl rfl rfl infoV (vw_one _ _ _) ?_; intro w6 h6 g6; have H6 : Kp (Has w6 w1.heap.size (V.cs a c) 49 ∧ Has w6 w.heap.size (Vw.zero.cs none 0) 49 ∧ w.grownBy w6 none ∧ SeenR w6 a V.S) := ⟨h6, H1.out.1.kept g6 (by simp), H1.out.2.1.trans g6, H1.out.2.2.kept g6⟩
       clear h6 g6)
    | (with_reducible show wpList _ _ _ ({ dst := _, op := Op.load 49 _, type := _, pos := _, after := _, guard := _ } :: _) _ _
       refine load_g rfl 49 _ rfl w1.heap.size 0 rfl (V.cs a c) dv' H6.out.1.range hdv hdr infoV ?_)
    | (with_reducible show wpList _ _ _ ({ dst := none, op := Op.store 49 (Operand.tmp 2) _, type := _, pos := _, after := _, guard := _ } :: _) _ _
       refine st_part w6 w.heap.size 0 (Vw.zero.cs none 0) (V.cs a c) 49 49 rfl rfl rfl rfl H6.out.2.1 (by show 0 + 16 ≤ 16; omega) infoV (vw_one _ _ _) ?_; intro w7 h7 g7; have H7 : Kp (Has w7 w.heap.size (V.cs a c) 49 ∧ w.grownBy w7 none ∧ SeenR w7 a V.S) := ⟨by rw [over_all (Vw.zero.cs none 0) (V.cs a c) rfl] at h7; exact h7, gr_new H6.out.2.2.1 g7 (Nat.le_refl _), seen_set H6.out.2.2.2 g7 HNE.out⟩
       clear h7 g7))
  exact ret_ct rfl rfl H7.out.1 hdv hdr infoV rfl (by rw [HB.out]; exact ⟨a, c, rfl, H7.out.2.2, H7.out.2.1⟩)
def annB : ByteArray := { data := #[97, 110, 110] }
def cokB : ByteArray := txB { data := #[99, 111, 111, 107, 105, 101] } 32
def salB : ByteArray := txB { data := #[115, 97, 108, 116] } 16
def cooD (nc : ByteArray) : Dg := { Dg.zero 2 with nonce := nc, epoch := 7, cookie := cokB }
def welD (nc : ByteArray) (n : Nat) : Dg := { Dg.zero 4 with nonce := nc, session := n, player := 3, salt := salB }
def saidC (sc nc : ByteArray) : Cl := ⟨annB, sc, nc, 54, 0, 0, nob, 0, 0, 0, nob⟩
def begK (sc nc : ByteArray) (n : Nat) : ByteArray := keyB sc nc salB n
def begC (sc nc : ByteArray) (n : Nat) : Cl := ⟨annB, sc, nc, 168, n, 3, begK sc nc n, 0, 0, n, nob⟩
theorem said_st (sc nc : ByteArray) : (saidC sc nc).st = 54 := rfl
theorem cok_size : cokB.size = 32 := txB_size _ _
theorem sal_size : salB.size = 16 := txB_size _ _
theorem i0 : -9223372036854775808 ≤ (0 : Int) ∧ (0 : Int) < 9223372036854775808 := by omega
theorem coo_fine (nc : ByteArray) : (cooD nc).fine := ⟨by show (-9223372036854775808 : Int) ≤ 2 ∧ (2 : Int) < 9223372036854775808; omega, by show 7 < 18446744073709551616; omega, by show 0 < 18446744073709551616; omega, i0, by show 0 < 18446744073709551616; omega, i0, i0⟩
theorem coo_small {nc : ByteArray} (h : nc.size = 16) : (cooD nc).small := ⟨by show nc.size ≤ _; omega, by show cokB.size ≤ _; rw [cok_size]; omega, by show (0 : Nat) ≤ _; omega, by show (0 : Nat) ≤ _; omega, by show (0 : Nat) ≤ _; omega, by show (0 : Nat) ≤ _; omega⟩
theorem wel_fine (nc : ByteArray) {n : Nat} (h : n < 18446744073709551616) : (welD nc n).fine := ⟨by show (-9223372036854775808 : Int) ≤ 4 ∧ (4 : Int) < 9223372036854775808; omega, by show 0 < 18446744073709551616; omega, h, by show (-9223372036854775808 : Int) ≤ 3 ∧ (3 : Int) < 9223372036854775808; omega, by show 0 < 18446744073709551616; omega, i0, i0⟩
theorem wel_small {nc : ByteArray} (h : nc.size = 16) (n : Nat) : (welD nc n).small := ⟨by show nc.size ≤ _; omega, by show (0 : Nat) ≤ _; omega, by show (0 : Nat) ≤ _; omega, by show salB.size ≤ _; rw [sal_size]; omega, by show (0 : Nat) ≤ _; omega, by show (0 : Nat) ≤ _; omega⟩
theorem ann_chk : Na.chk annB = 0 := by decide +kernel
theorem ann_new {sc nc : ByteArray} (h1 : sc.size = 32) (h2 : nc.size = 16) : newE annB sc nc = 0 := by
  unfold newE; rw [if_neg (by rw [ann_chk]; simp), if_neg (by omega), if_neg (by omega)]
theorem hel_S (sc nc : ByteArray) (h : nc.size = 16) : helS (newS annB sc nc) = (ba (enc (helD (saidC sc nc))).1, 0, saidC sc nc) := by
  unfold helS; rw [if_neg (by show ¬ (0 : Nat) ≠ 0; simp)]; have := (hel_code (hel_fine (newS annB sc nc)) rfl h).1; rw [this]; rfl
theorem hel_dec (sc nc : ByteArray) (h : nc.size = 16) : dec (enc (helD (saidC sc nc))).1 = (helD (saidC sc nc), 0) ∧ (enc (helD (saidC sc nc))).1.length = 96 := by
  have hc := hel_code (hel_fine (saidC sc nc)) rfl h; refine ⟨?_, hc.2⟩; rw [dec_enc _ (hel_fine _) hc.1, on1 _ rfl]; rfl
def conX (nc x : ByteArray) : Dg := { Dg.zero 3 with nonce := nc, epoch := 7, cookie := cokB, name := annB, tag := x }
theorem coo_dec (nc : ByteArray) (h : nc.size = 16) : (enc (cooD nc)).2 = 0 ∧ dec (enc (cooD nc)).1 = (cooD nc, 0) := by
  have hc := coo_code (coo_fine nc) rfl h cok_size; refine ⟨hc, ?_⟩; rw [dec_enc _ (coo_fine _) hc, on2 _ rfl]; rfl
theorem hea_coo (sc nc : ByteArray) (h : nc.size = 16) : heaS (saidC sc nc) (ba (enc (cooD nc)).1) = ((sealD (conD (saidC sc nc) (cooD nc)) sc).1, 0, saidC sc nc) := by
  unfold heaS; rw [show sl (ba (enc (cooD nc)).1) = (enc (cooD nc)).1 from sl_mk _, (coo_dec nc h).2, if_neg (by simp), if_neg (by show ¬ ((2 : Int) = 1 ∨ (2 : Int) = 3 ∨ (2 : Int) = 5); omega)]; unfold nxtS; rw [if_pos (said_st sc nc)]; show greS (saidC sc nc) _ (cooD nc) = _; rw [gre_2 (show (cooD nc).nonce = (saidC sc nc).nc from rfl) rfl]; have : (sealD (conD (saidC sc nc) (cooD nc)) sc).2 = 0 := con_code (con_fine (coo_fine nc)) rfl h cok_size (by show annB.size ≤ 24; decide); show ((sealD (conD (saidC sc nc) (cooD nc)) sc).1, (sealD (conD (saidC sc nc) (cooD nc)) sc).2, _) = _; rw [this]
theorem con_good (sc nc : ByteArray) (h : nc.size = 16) : ∃ x : ByteArray, dec (sl (sealD (conD (saidC sc nc) (cooD nc)) sc).1) = (conX nc x, 0) ∧ sealed (sealD (conD (saidC sc nc) (cooD nc)) sc).1 sc = true ∧ (sealD (conD (saidC sc nc) (cooD nc)) sc).1.size ≤ 1200 := by
  have : (sealD (conD (saidC sc nc) (cooD nc)) sc).2 = 0 := con_code (con_fine (coo_fine nc)) rfl h cok_size (by show annB.size ≤ 24; decide); obtain ⟨x, h1, h2, h3, _⟩ := seal_good (con_fine (C := saidC sc nc) (coo_fine nc)) this; exact ⟨x, by rw [h1, on3 _ rfl]; rfl, h2, h3⟩
theorem wel_yes (nc K : ByteArray) {n : Nat} (h : nc.size = 16) (hn : n < 18446744073709551616) : (sealD (welD nc n) K).2 = 0 := wel_code (wel_fine nc hn) rfl h sal_size (by show (0 : Int) ≤ 3 ∧ (3 : Int) ≤ 255; omega)
theorem wel_dec (nc K : ByteArray) {n : Nat} (h : nc.size = 16) (hn : n < 18446744073709551616) : ∃ x : ByteArray, dec (sl (sealD (welD nc n) K).1) = ((welD nc n).wear x, 0) ∧ sealed (sealD (welD nc n) K).1 K = true ∧ (sealD (welD nc n) K).1.size ≤ 1200 := by
  obtain ⟨x, h1, h2, h3, _⟩ := seal_good (wel_fine nc hn) (wel_yes nc K h hn); exact ⟨x, by rw [h1, on4 _ rfl]; rfl, h2, h3⟩
theorem hea_wel (sc nc : ByteArray) {n : Nat} (h : nc.size = 16) (hn : n < 18446744073709551616) (h0 : n ≠ 0) : heaS (saidC sc nc) (sealD (welD nc n) (begK sc nc n)).1 = (nob, 0, begC sc nc n) := by
  obtain ⟨x, h1, h2, _⟩ := wel_dec nc (begK sc nc n) h hn; unfold heaS; rw [h1, if_neg (by simp), if_neg (by show ¬ ((4 : Int) = 1 ∨ (4 : Int) = 3 ∨ (4 : Int) = 5); omega)]; unfold nxtS; rw [if_pos (said_st sc nc)]; show greS (saidC sc nc) _ ((welD nc n).wear x) = _; rw [gre_3 (show ((welD nc n).wear x).nonce = (saidC sc nc).nc from rfl) rfl]
  have e : begS (saidC sc nc) (sealD (welD nc n) (begK sc nc n)).1 ((welD nc n).wear x) = (begC sc nc n, 0) := by
    unfold begS; rw [if_neg (show ¬ ((welD nc n).wear x).session ≤ (saidC sc nc).mx from (by show ¬ n ≤ 0; omega))]; have hk : keyB (saidC sc nc).sc (saidC sc nc).nc ((welD nc n).wear x).salt ((welD nc n).wear x).session = begK sc nc n := rfl; rw [hk, h2, if_neg (by simp)]; rfl
  rw [e]
theorem said_ok {sc nc : ByteArray} (h1 : sc.size = 32) (h2 : nc.size = 16) : (saidC sc nc).ok :=
  ⟨by show annB.size ≤ 24; decide, h1, h2, by show (0 : Nat) ≤ 32; omega, by show (0 : Nat) < _; omega, i0, by show (0 : Nat) < _; omega, by show (0 : Nat) < _; omega, by show (0 : Nat) ≤ _; omega, .inr (.inl rfl)⟩
end Go.Proofs.YtldnpebnpbahjaaGreatDoor.Pk.Sn
