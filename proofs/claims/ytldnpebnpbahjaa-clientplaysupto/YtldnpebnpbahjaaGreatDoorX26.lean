import Derived.Test.YtldnpebnpbahjaaGreatDoorCP1
import Derived.Test.YtldnpebnpbahjaaGreatDoorX25
import Derived.Test.YtldnpebnpbahjaaGreatDoorX18
import Derived.Test.YtldnpebnpbahjaaGreatDoorX19
import Derived.Test.YtldnpebnpbahjaaGreatDoorX17
import Derived.Test.YtldnpebnpbahjaaGreatDoorX15
import Derived.Test.YtldnpebnpbahjaaGreatDoorX13
import Derived.ChangeKeysEq
import Derived.Test.YtldnpebnpbahjaaGreatDoorX22
set_option maxRecDepth 100000
set_option maxHeartbeats 16000000
namespace Go.Proofs.YtldnpebnpbahjaaGreatDoor.Pk.Sn
open Go Go.RowKit Go.Proofs.Tryz
def Rf.cl (R : Rf) : Cl := ⟨R.nm, R.sc, R.nc, 0, R.num, R.pl, R.key, R.sq, R.la, R.mo, nob⟩
theorem rhello_c (rb : Nat) (R : Rf) (w : World) (hh : Has w rb R.cs 103) (hn : R.nc.size = 16) :
    Calls prog 23 #[pa rb 0] w fun e w' => e = .returned (.tuple (if R.num = 0 then #[.string (ba (enc (helD R.cl)).1), .int .i64 (enc (helD R.cl)).2] else #[.string nob, .int .i64 240])) ∧ Has w' rb (if R.num = 0 then { R with sa := true } else R).cs 103 ∧ w.grownBy w' (some rb) := by
  have c4 : w.cell? ⟨rb, 4, none⟩ = some (uv R.num) := hh.cellv 4 _ rfl; have HH := Kp.mk hh; by_cases hz : R.num = 0
  · rw [if_pos hz, if_pos hz]; (have q1 : (R.num != 0) = false := by simp [hz]); (have q2 : ((R.num : Int) != 0) = false := by simp [hz]); have c3 := hh.cellv 3 _ rfl; have z3 := hh.frozen 3; obtain ⟨w1, hw1⟩ : ∃ q, w.setCell ⟨rb, 3, none⟩ (.bool true) = q := ⟨_, rfl⟩; have H1 : Kp (Has w1 rb { R with sa := true : Rf }.cs 103 ∧ w.grownBy w1 (some rb)) := ⟨by rw [← hw1]; exact hh.setCell 3 _, by rw [← hw1]; exact gr_set _ _ _ _⟩; have m2 : w1.cell? ⟨rb, 2, none⟩ = some (.string R.nc) := H1.out.1.cellv 2 _ rfl; have HB : Kp (prog.built 34 [(0, .int .i64 1), (1, .string R.nc)] = some (helD R.cl).cells.toArray) := ⟨builtHel _⟩; have HE : Kp (CRt 55 #[.agg (helD R.cl).cells.toArray] w1 (.tuple #[.string (ba (enc (helD R.cl)).1), .int .i64 (enc (helD R.cl)).2])) := ⟨renc_c (helD R.cl) (hel_fine R.cl) (hel_small (by show R.nc.size ≤ _; omega)) w1⟩; clear hz hh; go_enter func23, ntmps23
    go_wp2_with (first
      | (with_reducible show wpList _ _ _ ({ dst := _, op := Op.build 34 _, type := _, pos := _, after := _, guard := _ } :: _) _ _
         refine build_g rfl 34 _ rfl _ ((congrArg (prog.built 34) (by simp only [List.map_toArray, List.map_cons, List.map_nil]; rfl)).trans HB.out) ?_
         simp only [Act.put, uz]))
    refine HE.out.mono ?_; rintro e w2 ⟨rfl, g2⟩; have H2 : Kp (Has w2 rb { R with sa := true : Rf }.cs 103 ∧ w.grownBy w2 (some rb)) := ⟨H1.out.1.kept g2 (by simp), H1.out.2.trans (gr_weak g2 _)⟩; clear g2; go_wp2_with fail; go_ret2; exact ⟨rfl, H2.out⟩
  · rw [if_neg hz, if_neg hz]; (have q1 : (R.num != 0) = true := by simp [hz]); (have q2 : ((R.num : Int) != 0) = true := by simp [hz]); clear hz hh; go_enter func23, ntmps23; go_wp2_with fail; go_ret2; exact ⟨rfl, HH.out, World.grownBy.refl _ _⟩
def rslS (R : Rf) (d : Dg) : Rf := if (slX R.cl d).2 = 0 then { R with sq := R.sq + 1 } else R
theorem sealD_nob {d : Dg} {k : ByteArray} (h : (sealD d k).2 ≠ 0) : (sealD d k).1 = nob := by
  unfold sealD at h ⊢; split
  · split
    · rename_i h1 h2; rw [if_pos h1, if_pos h2] at h; exact absurd rfl h
    · rfl
  · rfl
theorem rsl_c (rb : Nat) (R : Rf) (d : Dg) (w : World) (hk : RK w) (h5 : 5 ≤ w.heap.size) (hh : Has w rb R.cs 103) (hf : d.fine) (hs : d.small) (hn : R.num < 18446744073709551616) (hsd : R.sq < 18446744073709551615) (hkey : R.key.size ≤ 32) :
    Calls prog 63 #[pa rb 0, dv d] w fun e w' => e = .returned (.tuple #[.string (slX R.cl d).1, iv (slX R.cl d).2]) ∧ Has w' rb (rslS R d).cs 103 ∧ w.grownBy w' (some rb) := by
  obtain ⟨du, hdu, hdr⟩ := under26; have hcb := hh.lt; obtain ⟨Y, hY⟩ : ∃ q, slX R.cl d = q := ⟨_, rfl⟩; obtain ⟨Z, hZ⟩ : ∃ q, rslS R d = q := ⟨_, rfl⟩; have HY := Kp.mk (And.intro hY hZ); rw [hY, hZ]; clear hY hZ; obtain ⟨w0, hw0⟩ : ∃ q, w.alloc (.cells d.cells.toArray 34) = q := ⟨_, rfl⟩; obtain ⟨h0, g0, s0⟩ := hasN hw0; have HNE : Kp (w.heap.size ≠ rb) := ⟨by omega⟩; have H0 : Kp (Has w0 w.heap.size d.cells 34 ∧ Has w0 rb R.cs 103 ∧ w.grownBy w0 none) := ⟨h0, hh.kept g0 (by simp), g0⟩; have HK := Kp.mk (And.intro hk (And.intro h5 (And.intro hkey hsd))); have HSL0 : Kp (∀ w2 : World, w.grownBy w2 none → CRt 59 #[.agg (sesD R.cl d).cells.toArray, .string R.key] w2 (.tuple #[.string (sealD (sesD R.cl d) R.key).1, .int .i64 (sealD (sesD R.cl d) R.key).2])) := ⟨fun w2 g => rseal_c (sesD R.cl d) R.key ⟨hf.k, hf.e, hn, hf.p, by show R.sq + 1 < 18446744073709551616; omega, hf.h, hf.t⟩ ⟨hs.1, hs.2, hs.3, hs.4, hs.5, hs.6⟩ w2 (HK.out.1.kept g) (Nat.le_trans HK.out.2.1 g.size) (by omega)⟩; have c4 : w0.cell? ⟨rb, 4, none⟩ = some (uv R.num) := H0.out.2.1.cellv 4 _ rfl; have c7 : w0.cell? ⟨rb, 7, none⟩ = some (uv R.sq) := H0.out.2.1.cellv 7 _ rfl; have b5 := H0.out.1.cellv 5 _ (rfl : d.cells[5]? = some (uv d.session)); have z5 := H0.out.1.frozen 5; obtain ⟨s1, hs1⟩ : ∃ s1 : Nat, R.sq + 1 = s1 := ⟨_, rfl⟩; have hwr : IntKind.u64.wrap ((R.sq : Int) + 1) = (s1 : Int) := by rw [← hs1]; exact wrap1 hsd
  have HS1 := Kp.mk hs1; obtain ⟨X, hX⟩ : ∃ q, sealD (sesD R.cl d) R.key = q := ⟨_, rfl⟩; have HX := Kp.mk hX; rw [hX] at HSL0; have e0 : dv d = .agg d.cells.toArray := rfl; rw [e0]; obtain ⟨w1, hw1⟩ : ∃ q, w0.setCell ⟨w.heap.size, 5, none⟩ (uv R.num) = q := ⟨_, rfl⟩; have H1 : Kp (Has w1 w.heap.size (d.cells.set 5 (uv R.num)) 34 ∧ Has w1 rb R.cs 103 ∧ w.grownBy w1 none) := ⟨by rw [← hw1]; exact H0.out.1.setCell 5 _, by rw [← hw1]; exact H0.out.2.1.kept (gr_set _ _ _ _) (by simp; exact fun e => HNE.out e.symm), by rw [← hw1]; exact gr_new H0.out.2.2 (gr_set _ _ _ _) (Nat.le_refl _)⟩; have c7' : w1.cell? ⟨rb, 7, none⟩ = some (uv R.sq) := H1.out.2.1.cellv 7 _ rfl; have b8 := H1.out.1.cellv 8 _ (rfl : (d.cells.set 5 (uv R.num))[8]? = some (uv d.seq)); have z8 := H1.out.1.frozen 8; obtain ⟨w2, hw2⟩ : ∃ q, w1.setCell ⟨w.heap.size, 8, none⟩ (uv (s1 : Int)) = q := ⟨_, rfl⟩; have H2 : Kp (Has w2 w.heap.size (sesD R.cl d).cells 34 ∧ Has w2 rb R.cs 103 ∧ w.grownBy w2 none) := ⟨by rw [← hw2]; have h := H1.out.1.setCell 8 (uv (s1 : Int)); rw [← HS1.out] at h ⊢; exact h, by rw [← hw2]; exact H1.out.2.1.kept (gr_set _ _ _ _) (by simp; exact fun e => HNE.out e.symm), by rw [← hw2]; exact gr_new H1.out.2.2 (gr_set _ _ _ _) (Nat.le_refl _)⟩; have k6 : w2.cell? ⟨rb, 6, none⟩ = some (.string R.key) := H2.out.2.1.cellv 6 _ rfl; have HSL : Kp (∀ w3 : World, w2.grownBy w3 none → CRt 59 #[.agg (sesD R.cl d).cells.toArray, .string R.key] w3 (.tuple #[.string X.1, .int .i64 X.2])) := ⟨fun w3 g => HSL0.out w3 (H2.out.2.2.trans g)⟩; unfold Dg.cells at hw0 ⊢; clear h0 g0 s0 hk hh hf hs hn hsd hkey hcb hX e0 hs1 HSL0 h5; by_cases hz : R.num = 0
  · (have q1 : (R.num == 0) = true := by simp [hz]); (have q2 : ((R.num : Int) == 0) = true := by simp [hz]); have HZ : Kp (R.cl.num = 0) := ⟨hz⟩; clear hz H1 H2 HSL k6 b8 z8 c7'; go_enter func63, ntmps63; go_wp2_with fail; go_ret2; exact ⟨by rw [← HY.out.1, slX_0 HZ.out]; rfl, by rw [← HY.out.2]; unfold rslS; rw [slX_0 HZ.out]; exact H0.out.2.1, gr_weak H0.out.2.2 _⟩
  have q1 : (R.num == 0) = false := by simp [hz]
  have q2 : ((R.num : Int) == 0) = false := by simp [hz]
  have HZ : Kp (¬ R.cl.num = 0) := ⟨hz⟩; clear hz; go_enter func63, ntmps63; go_wp2_with fail; refine region_Y (S := fun w' => w2.grownBy w' none) [] (by kernel_rfl) ?_; have hHeld := gr_drew w2 none; refine yt (i := 0) (v := .agg (sesD R.cl d).cells.toArray) rfl (yieldsIf_load_mid (by rfl) 34 _ rfl _ _ rfl _ _ (fun w hSw => (H2.out.1.kept hSw (by simp)).range) hdu hdr info26) (by assumption) ?_; simp only [Act.put, uz]; refine yq 1 rfl ?_; refine yq 2 rfl ?_; refine yq 3 rfl ?_; refine yk 4 rfl ?_ (fun w hSw => by have k0 := hSw.cell k6 (by simp); go_simp; first | done | (with_reducible rfl)); simp only [Act.put, uz]; refine yo 5 (fun K hK => ?_) rfl; go_simp; refine (HSL.out _ hHeld).mono ?_; rintro e w3 ⟨rfl, g30⟩; have g3 := Kp.mk (hHeld.trans g30); refine hK.out _ _ (fun q => q.trans g30) ?_; clear hK K g30; have hHeld := g3.out; refine yq 6 rfl ?_; refine yq 7 rfl ?_; refine yq 8 rfl ?_; simp only [Act.put, uz]; refine yo 9 (fun K hK => ?_) rfl; go_simp; refine hK.out _ _ (fun h => h) ?_; clear hK K; refine yo 10 (fun K hK => ?_) rfl; go_simp; refine hK.out _ _ (fun h => h) ?_; clear hK K; refine yd ?_; have H3 : Kp (Has w3 w.heap.size (sesD R.cl d).cells 34 ∧ Has w3 rb R.cs 103 ∧ w.grownBy w3 none) := ⟨H2.out.1.kept g3.out (by simp), H2.out.2.1.kept g3.out (by simp), H2.out.2.2.trans g3.out⟩; obtain ⟨tx, cd⟩ := X; by_cases hcd : cd = 0
  · subst hcd; (have d8 : w3.cell? ⟨w.heap.size, 8, none⟩ = some (uv (s1 : Int)) := by rw [← HS1.out]; exact H3.out.1.cellv 8 _ rfl); have e7 := H3.out.2.1.cellv 7 _ (rfl : R.cs[7]? = some (uv R.sq)); have z7 := H3.out.2.1.frozen 7; have HE : Kp (Has (w3.setCell ⟨rb, 7, none⟩ (uv (s1 : Int))) rb { R with sq := R.sq + 1 : Rf }.cs 103 ∧ w.grownBy (w3.setCell ⟨rb, 7, none⟩ (uv (s1 : Int))) (some rb)) := ⟨by have h := H3.out.2.1.setCell 7 (uv (s1 : Int)); rw [← HS1.out] at h ⊢; exact h, (gr_weak H3.out.2.2 _).trans (gr_set _ _ _ _)⟩; clear H2 g3 HSL hHeld k6 H3; go_wp2_with fail; go_ret2; exact ⟨by rw [← HY.out.1, slX_1 HZ.out (by show (sealD (sesD R.cl d) R.key).2 = 0; rw [HX.out])]; show _ = _; rw [show R.cl.key = R.key from rfl, HX.out]; first | done | rfl, by rw [← HY.out.2]; unfold rslS; rw [slX_1 HZ.out (by show (sealD (sesD R.cl d) R.key).2 = 0; rw [HX.out])]; exact HE.out.1, HE.out.2⟩
  · (have q3 : (cd == 0) = false := by simp [hcd]); have HCD := Kp.mk hcd
    have htx : tx = nob := by
      have h := sealD_nob (d := sesD R.cl d) (k := R.key) (by rw [HX.out]; exact hcd); rw [HX.out] at h; exact h
    subst htx; clear hcd H2 g3 HSL hHeld k6; go_wp2_with fail; go_ret2; exact ⟨by rw [← HY.out.1, slX_2 HZ.out (by show ¬ (sealD (sesD R.cl d) R.key).2 = 0; rw [HX.out]; exact HCD.out)]; show _ = _; rw [show R.cl.key = R.key from rfl, HX.out]; first | done | rfl, by rw [← HY.out.2]; unfold rslS; rw [slX_2 HZ.out (by show ¬ (sealD (sesD R.cl d) R.key).2 = 0; rw [HX.out]; exact HCD.out), show R.cl.key = R.key from rfl, HX.out, if_neg HCD.out]; exact H3.out.2.1, gr_weak H3.out.2.2 _⟩
theorem rcmd_c (rb : Nat) (R : Rf) (w : World) (hk : RK w) (h5 : 5 ≤ w.heap.size) (hh : Has w rb R.cs 103) (hn : R.num < 18446744073709551616) (hsd : R.sq < 18446744073709551615) (hkey : R.key.size ≤ 32) (t u : Int) (f b : Bool) (ht : -9223372036854775808 ≤ t ∧ t < 9223372036854775808) (hu : -9223372036854775808 ≤ u ∧ u < 9223372036854775808) :
    Calls prog 26 #[pa rb 0, .agg #[.int .i64 t, .int .i64 u, .bool f, .bool b]] w fun e w' => e = .returned (.tuple #[.string (slX R.cl (cmdD t u f b)).1, iv (slX R.cl (cmdD t u f b)).2]) ∧ Has w' rb (rslS R (cmdD t u f b)).cs 103 ∧ w.grownBy w' (some rb) := by
  obtain ⟨dm, hdm, hdr⟩ := underM; obtain ⟨w0, hw0⟩ : ∃ q, w.alloc (.cells #[.int .i64 t, .int .i64 u, .bool f, .bool b] 29) = q := ⟨_, rfl⟩; obtain ⟨h0, g0, s0⟩ := hasN hw0; have HR : Kp (w0.rangeAt w.heap.size 0 [.int .i64 t, .int .i64 u, .bool f, .bool b]) := ⟨h0.range⟩; have HG : Kp (w.grownBy w0 none) := ⟨g0⟩; have HSL : Kp (Calls prog 63 #[pa rb 0, .agg (cmdD t u f b).cells.toArray] w0 fun e w' => e = .returned (.tuple #[.string (slX R.cl (cmdD t u f b)).1, iv (slX R.cl (cmdD t u f b)).2]) ∧ Has w' rb (rslS R (cmdD t u f b)).cs 103 ∧ w0.grownBy w' (some rb)) := ⟨rsl_c rb R (cmdD t u f b) w0 (hk.kept g0) (Nat.le_trans h5 g0.size) (hh.kept g0 (by simp)) (cmd_fine ht hu f b) (cmd_small t u f b) hn hsd hkey⟩; obtain ⟨X, hX⟩ : ∃ q, slX R.cl (cmdD t u f b) = q := ⟨_, rfl⟩; rw [hX] at HSL ⊢; have HB := Kp.mk (builtCmd t u f b); clear h0 g0 s0 hk hh hX hsd ht hu h5 hn hkey; go_enter func26, ntmps26
  go_wp2_with (first
    | (with_reducible show wpList _ _ _ ({ dst := _, op := Op.build 34 _, type := _, pos := _, after := _, guard := _ } :: _) _ _
       refine build_g rfl 34 _ rfl _ ((congrArg (prog.built 34) (by simp only [List.map_toArray, List.map_cons, List.map_nil]; rfl)).trans HB.out) ?_
       simp only [Act.put, uz])
    | (with_reducible show wpList _ _ _ ({ dst := _, op := Op.load 29 _, type := _, pos := _, after := _, guard := _ } :: _) _ _
       refine load_g rfl 29 _ rfl w.heap.size 0 rfl [.int .i64 t, .int .i64 u, .bool f, .bool b] dm HR.out hdm hdr infoM ?_
       simp only [Act.put, uz]))
  refine HSL.out.mono ?_; rintro e w3 ⟨rfl, h3, g3⟩; have H4 := Kp.mk (And.intro h3 ((gr_weak HG.out (some rb)).trans g3)); clear h3 g3 HSL; go_wp2_with fail; go_ret2; exact ⟨rfl, H4.out⟩
def rbyS (R : Rf) : Rf := if (slX R.cl (Dg.zero 7)).2 = 0 then { rslS R (Dg.zero 7) with num := 0 } else R
theorem rbye_c (rb : Nat) (R : Rf) (w : World) (hk : RK w) (h5 : 5 ≤ w.heap.size) (hh : Has w rb R.cs 103) (hn : R.num < 18446744073709551616) (hsd : R.sq < 18446744073709551615) (hkey : R.key.size ≤ 32) :
    Calls prog 27 #[pa rb 0] w fun e w' => e = .returned (.tuple #[.string (slX R.cl (Dg.zero 7)).1, iv (slX R.cl (Dg.zero 7)).2]) ∧ Has w' rb (rbyS R).cs 103 ∧ w.grownBy w' (some rb) := by
  have HSL : Kp (Calls prog 63 #[pa rb 0, .agg (Dg.zero 7).cells.toArray] w fun e w' => e = .returned (.tuple #[.string (slX R.cl (Dg.zero 7)).1, iv (slX R.cl (Dg.zero 7)).2]) ∧ Has w' rb (rslS R (Dg.zero 7)).cs 103 ∧ w.grownBy w' (some rb)) := ⟨rsl_c rb R (Dg.zero 7) w hk h5 hh (zero_fine (by omega)) (zero_small 7) hn hsd hkey⟩; have HX0 : Kp ((slX R.cl (Dg.zero 7)).2 ≠ 0 → rslS R (Dg.zero 7) = R) := ⟨fun h => by unfold rslS; rw [if_neg h]⟩; obtain ⟨Y, hY⟩ : ∃ q, rbyS R = q := ⟨_, rfl⟩; rw [hY]; unfold rbyS at hY; obtain ⟨X, hX⟩ : ∃ q, slX R.cl (Dg.zero 7) = q := ⟨_, rfl⟩; obtain ⟨S, hS⟩ : ∃ q, rslS R (Dg.zero 7) = q := ⟨_, rfl⟩; rw [hX, hS] at HX0; rw [hX, hS] at HSL; rw [hX, hS] at hY; rw [hX]; have HB := Kp.mk builtBy; have HY := Kp.mk hY; clear hk hh hX hS hsd hY h5 hn hkey; obtain ⟨tx, cd⟩ := X; go_enter func27, ntmps27
  go_wp2_with (first
    | (with_reducible show wpList _ _ _ ({ dst := _, op := Op.build 34 _, type := _, pos := _, after := _, guard := _ } :: _) _ _
       refine build_g rfl 34 _ rfl _ ((congrArg (prog.built 34) (by simp only [List.map_toArray, List.map_cons, List.map_nil]; rfl)).trans HB.out) ?_
       simp only [Act.put, uz]))
  refine HSL.out.mono ?_; rintro e w1 ⟨rfl, h1, g1⟩; have H1 : Kp (Has w1 rb S.cs 103 ∧ w.grownBy w1 (some rb)) := ⟨h1, g1⟩; clear h1 g1 HSL; by_cases hcd : cd = 0
  · (have q3 : (cd == 0) = true := by simp [hcd]); have c4 := H1.out.1.cellv 4 _ rfl; have z4 := H1.out.1.frozen 4; have HE : Kp (Has (w1.setCell ⟨rb, 4, none⟩ (.int .u64 0)) rb { S with num := 0 : Rf }.cs 103 ∧ w.grownBy (w1.setCell ⟨rb, 4, none⟩ (.int .u64 0)) (some rb)) := ⟨H1.out.1.setCell 4 (.int .u64 0), H1.out.2.trans (gr_set _ _ _ _)⟩; have e := HY.out; rw [if_pos hcd] at e; have HE2 := Kp.mk e; clear hcd e HY; go_wp2_with fail; go_ret2; exact ⟨rfl, by rw [← HE2.out]; exact HE.out.1, HE.out.2⟩
  · (have q3 : (cd == 0) = false := by simp [hcd]); have e := HY.out; rw [if_neg hcd] at e; have e2 := HX0.out hcd; have HE2 := Kp.mk (And.intro e e2); clear hcd e e2 HY HX0; go_wp2_with fail; go_ret2; exact ⟨rfl, by rw [← HE2.out.1, ← HE2.out.2]; exact H1.out.1, H1.out.2⟩
def rnewS (nm sc nc : ByteArray) : Rf := ⟨nm, sc, nc, false, 0, 0, nob, 0, 0, 0, Vw.zero, none, 0, false⟩
theorem builtRf (a b c : ByteArray) : prog.built 103 [(0, .agg #[.string a, .string b]), (1, .string c)] = some (rnewS a b c).cs.toArray := by kernel_rfl
theorem rnew_c (nm sc nc : ByteArray) (w : World) (h1 : nm.size ≤ 1048576) :
    Calls prog 21 #[.agg #[.string nm, .string sc], .string nc] w fun e w' => (newE nm sc nc ≠ 0 ∧ e = .returned (.tuple #[.pointer none, iv (newE nm sc nc)]) ∧ w.grownBy w' none) ∨ (newE nm sc nc = 0 ∧ ∃ rb, e = .returned (.tuple #[pa rb 0, iv 0]) ∧ Has w' rb (rnewS nm sc nc).cs 103 ∧ w.grownBy w' none ∧ w.heap.size ≤ rb) := by
  obtain ⟨da, hda, hdr⟩ := underA; obtain ⟨E, hE⟩ : ∃ q, newE nm sc nc = q := ⟨_, rfl⟩; rw [hE]; unfold newE at hE; obtain ⟨w0, hw0⟩ : ∃ q, w.alloc (.cells #[.string nm, .string sc] 63) = q := ⟨_, rfl⟩; obtain ⟨h0, g0, s0⟩ := hasN hw0; have HCK := Kp.mk (Na.rcheck_c nm w0 h1); have a0 : w0.cell? ⟨w.heap.size, 0, none⟩ = some (.string nm) := h0.cellv 0 _ rfl; have H60 : Kp (Na.chk nm ≠ 0 → Na.chk nm = 60) := ⟨fun h => by unfold Na.chk at h ⊢; split at h <;> first | (exact absurd rfl h) | (rename_i h2; rw [if_neg h2])⟩; obtain ⟨ck, hck⟩ : ∃ q, Na.chk nm = q := ⟨_, rfl⟩; rw [hck] at hE HCK H60; have HG := Kp.mk (And.intro h0 g0); clear h0 g0 s0 h1 hck; go_enter func21, ntmps21; go_wp2_with fail; refine HCK.out.mono ?_; rintro e w1 ⟨rfl, g1⟩; have HG1 : Kp (Has w1 w.heap.size [.string nm, .string sc] 63 ∧ w.grownBy w1 none) := ⟨HG.out.1.kept g1 (by simp), HG.out.2.trans g1⟩; have a1 := HG1.out.1.cellv 1 _ rfl; clear g1 HCK hw0 a0; by_cases hz : ck ≠ 0
  · rw [if_pos hz] at hE; subst hE; (have q1 : (ck != 0) = true := by simp [hz]); have HZ := Kp.mk (H60.out hz); obtain rfl := HZ.out; clear hz; go_wp2_with fail; go_ret2; exact .inl ⟨by decide, rfl, HG1.out.2⟩
  rw [if_neg hz] at hE; have q1 : (ck != 0) = false := by simp; simpa using hz
  clear hz; by_cases h32 : sc.size ≠ 32
  · rw [if_pos h32] at hE; subst hE; (have q2 : ((sc.size : Int) != 32) = true := by simp; omega); (have q3 : (sc.size != 32) = true := by simp; omega); clear h32; go_wp2_with fail; go_ret2; exact .inl ⟨by decide, rfl, HG1.out.2⟩
  rw [if_neg h32] at hE; have q2 : ((sc.size : Int) != 32) = false := by simp; omega
  have q3 : (sc.size != 32) = false := by simp; omega
  clear h32; by_cases h16 : nc.size ≠ 16
  · rw [if_pos h16] at hE; subst hE; (have q4 : ((nc.size : Int) != 16) = true := by simp; omega); (have q5 : (nc.size != 16) = true := by simp; omega); clear h16; go_wp2_with fail; go_ret2; exact .inl ⟨by decide, rfl, HG1.out.2⟩
  rw [if_neg h16] at hE; subst hE; have q4 : ((nc.size : Int) != 16) = false := by simp; omega
  have q5 : (nc.size != 16) = false := by simp; omega
  clear h16; have HB := Kp.mk (builtRf nm sc nc); obtain ⟨w2, hw2⟩ : ∃ q, w1.alloc (.cells (rnewS nm sc nc).cs.toArray 103) = q := ⟨_, rfl⟩; obtain ⟨h2, g2, s2⟩ := hasN hw2; have H2 : Kp (Has w2 w1.heap.size (rnewS nm sc nc).cs 103 ∧ w.grownBy w2 none ∧ w.heap.size ≤ w1.heap.size) := ⟨h2, HG1.out.2.trans g2, HG1.out.2.size⟩; clear h2 g2 s2
  go_wp2_with (first
    | (with_reducible show wpList _ _ _ ({ dst := _, op := Op.build 103 _, type := _, pos := _, after := _, guard := _ } :: _) _ _
       refine build_g rfl 103 _ rfl _ ((congrArg (prog.built 103) (by simp only [List.map_toArray, List.map_cons, List.map_nil]; rfl)).trans HB.out) ?_
       simp only [Act.put, uz])
    | (with_reducible show wpList _ _ _ ({ dst := _, op := Op.load 63 _, type := _, pos := _, after := _, guard := _ } :: _) _ _
       refine load_g rfl 63 _ rfl w.heap.size 0 rfl [.string nm, .string sc] da HG1.out.1.range hda hdr infoA ?_
       simp only [Act.put, uz]))
  go_ret2
  first | exact .inr ⟨rfl, _, rfl, H2.out⟩ | exact ⟨_, rfl, H2.out⟩
theorem Rf.range {w : World} {rb : Nat} {R : Rf} (h : Has w rb R.cs 103) : w.rangeAt rb 10 (R.V.cs R.a R.c) :=
  h.rangeMid 10 [.string R.nm, .string R.sc, .string R.nc, .bool R.sa, uv R.num, iv R.pl, .string R.key, uv R.sq, uv R.la, uv R.mo] (R.V.cs R.a R.c) [.bool R.has] rfl rfl
theorem rview_c (rb : Nat) (R : Rf) (w : World) (hh : Has w rb R.cs 103) :
    CRt 29 #[pa rb 0] w (.tuple #[.agg (R.V.cs R.a R.c).toArray, .bool R.has]) := by
  obtain ⟨dv', hdv, hdr⟩ := underV; obtain ⟨w0, hw0⟩ : ∃ q, w.alloc (.cells #[.int .u64 0, .int .i64 0, .string { data := #[] }, .int .i64 0, .int .i64 0, .int .i64 0, .int .i64 0, .int .i64 0, .int .i64 0, .int .i64 0, .int .i64 0, .int .i64 0, .int .i64 0, .int .i64 0, .int .i64 0, .slice none 0 0] 49) = q := ⟨_, rfl⟩; obtain ⟨h0, g0, s0⟩ := hasN hw0; have H0 : Kp (Has w0.drew w.heap.size (Vw.zero.cs none 0) 49 ∧ Has w0.drew rb R.cs 103 ∧ w.grownBy w0.drew none) := ⟨h0.kept (gr_drew _ none) (by simp), (hh.kept g0 (by simp)).kept (gr_drew _ none) (by simp), g0.trans (gr_drew _ none)⟩; have HNE : Kp (¬ rb = w.heap.size) := ⟨by have := hh.lt; omega⟩; clear h0 g0 s0 hh; go_enter func29, ntmps29; go_wp2_with fail; refine region_Y (S := fun w' => Has w' rb R.cs 103) [] (by kernel_rfl) ?_; obtain ⟨W0, hW0⟩ : ∃ q, w0.drew = q := ⟨_, rfl⟩; rw [hW0] at H0 ⊢; clear hW0; have hHeld := H0.out.2.1; refine yq 0 rfl ?_; refine yq 1 rfl ?_; refine yq 2 rfl ?_; simp only [Act.put, uz]; refine yt (i := 3) (v := .agg (R.V.cs R.a R.c).toArray) rfl (yieldsIf_load_mid (by rfl) 49 _ rfl _ _ rfl _ _ (fun w hSw => Rf.range hSw) hdv hdr infoV) (by assumption) ?_; simp only [Act.put, uz]; refine yq 4 rfl ?_; refine yq 5 rfl ?_; refine yq 6 rfl ?_; refine yk 7 rfl ?_ (fun w hSw => by have k := hSw.cellv 26 _ rfl; go_simp; first | done | (with_reducible rfl)); simp only [Act.put, uz]; refine yo 8 (fun K hK => ?_) rfl; rw [if_pos (show Region.wanted _ _ = true from rfl)]; refine wp_store_mid 49 _ _ rfl w.heap.size 0 (R.V.cs R.a R.c).toArray rfl rfl (H0.out.1.there 0 16 (Nat.le_refl _)) infoV (all_oneCell_toArray (vw_one _ _ _)) ?_; refine hK.out _ _ (fun q => q.kept (gr_sets _ _ _ _) (by simp; exact HNE.out)) ?_; clear hK K; obtain ⟨w2, hw2⟩ : ∃ q, W0.setCells w.heap.size 0 (R.V.cs R.a R.c).toArray.toList = q := ⟨_, rfl⟩; have H2 : Kp (Has w2 w.heap.size (R.V.cs R.a R.c) 49 ∧ w.grownBy w2 none) := ⟨by rw [← hw2]; exact H0.out.1.setAll _ rfl, by rw [← hw2]; exact gr_new H0.out.2.2 (gr_sets _ _ _ _) (Nat.le_refl _)⟩; rw [hw2]; clear hw2; refine yo 9 (fun K hK => ?_) rfl; go_simp; refine hK.out _ _ (fun h => h) ?_; clear hK K; refine yd ?_; go_wp2_with fail; exact ret_ct rfl rfl H2.out.1 hdv hdr infoV rfl ⟨rfl, H2.out.2⟩
open Go.Maps
theorem ite_dec {p : Prop} [Decidable p] {X : Result Bool} {D : Bool} {w : World} (h : X = .ok D w) : (if p then X else .ok false w) = .ok (decide p && D) w := by
  by_cases e : p
  · rw [if_pos e, h]; simp [e]
  · rw [if_neg e]; simp [e]
theorem ite_vec {p q : Prop} [Decidable p] [Decidable q] {X : Result Bool} {D : Bool} {w : World} (h : X = .ok D w) : (if p → ¬ q then .ok false w else X) = .ok (decide p && (decide q && D)) w := by
  by_cases e : p
  · by_cases f : q
    · rw [if_neg (fun k => k e f), h]; simp [e, f]
    · rw [if_pos (fun _ => f)]; simp [e, f]
  · rw [if_pos (fun k => absurd k e)]; simp [e]
theorem bainj {a b : ByteArray} (h : a.toList = b.toList) : a = b := by
  rw [ByteArray.toList_eq, ByteArray.toList_eq] at h; exact ByteArray.ext (Array.ext' h)
theorem ite_str {a b : ByteArray} {X : Result Bool} {D : Bool} {w : World} (h : X = .ok D w) : (if a.toList = b.toList then X else .ok false w) = .ok (decide (a = b) && D) w := by
  by_cases e : a = b
  · subst e; rw [if_pos rfl, h]; simp
  · rw [if_neg (fun k => e (bainj k))]; simp [e]
theorem ite_end {p : Prop} [Decidable p] {w : World} : (if p then Result.ok true w else .ok false w) = .ok (decide p) w := by
  by_cases e : p <;> simp [e]
theorem eqV (n : Nat) (x y u v : Int) (w : World) : (Op.equalIn (n + 2) 44 (.agg #[iv x, iv y]) (.agg #[iv u, iv v])).run prog w = .ok (decide (x = u ∧ y = v)) w := by
  rw [run_equalIn_agg w (n + 1) 44 _ _ (by kernel_rfl) (by kernel_rfl)]; have u3 := underlying2; have g3 := Tryz.isAgg2; have z3 := Tryz.sizeOf2; simp only [Program.fieldsOf, underlying44]; by_cases h1 : x = u
  · by_cases h2 : y = v
    · subst h1 h2; (go_simp; try simp)
    · subst h1; (go_simp; try simp [h2])
  · (go_simp; try simp [h1])
theorem eqN (x y : Sn) (w : World) : (Op.equalIn 10000 98 (.agg x.cs.toArray) (.agg y.cs.toArray)).run prog w = .ok (decide (x = y)) w := by
  rw [show (10000 : Nat) = 9999 + 1 from rfl, run_equalIn_agg w 9999 98 _ _ (by kernel_rfl) (by kernel_rfl)]; obtain ⟨a1, a2, a3, a4, a5⟩ := x; obtain ⟨b1, b2, b3, b4, b5⟩ := y; unfold Sn.cs; have u3 := underlying3; have g3 := Tryz.isAgg3; have z3 := Tryz.sizeOf3; have u24 := underlying44; have a24 := Tryz.isAgg44; have z24 := Tryz.sizeOf44; have ev : ∀ w, (Op.equalIn 9999 44 (.agg #[iv a3, iv a4]) (.agg #[iv b3, iv b4])).run prog w = .ok (decide (a3 = b3 ∧ a4 = b4)) w := fun w => eqV 9997 a3 a4 b3 b4 w
  simp only [Program.fieldsOf, underlying98]; go_simp; exact ite_dec (ite_dec (ite_vec ite_end))
structure Cr where
  p : Int
  n : ByteArray
  x : Int
  y : Int
  u : Int
  v : Int
  h : Int
  he : Int
  en : Int
  am : Int
  co : Int
  wt : Int
  sp : Int
  sc : Int
deriving DecidableEq
def crv (c : Cr) : List Value := [iv c.p, .string c.n, iv c.x, iv c.y, iv c.u, iv c.v, iv c.h, iv c.he, iv c.en, iv c.am, iv c.co, iv c.wt, iv c.sp, iv c.sc]
def Vw.own (V : Vw) : Cr := ⟨V.p, V.n, V.x, V.y, V.u, V.v, V.h, V.he, V.en, V.am, V.co, V.wt, V.sp, V.sc⟩
theorem eqC (x y : Cr) (w : World) : (Op.equalIn 10000 46 (.agg (crv x).toArray) (.agg (crv y).toArray)).run prog w = .ok (decide (x = y)) w := by
  rw [show (10000 : Nat) = 9999 + 1 from rfl, run_equalIn_agg w 9999 46 _ _ (by kernel_rfl) (by kernel_rfl)]; obtain ⟨a1, a2, a3, a4, a5, a6, a7, a8, a9, a10, a11, a12, a13, a14⟩ := x; obtain ⟨b1, b2, b3, b4, b5, b6, b7, b8, b9, b10, b11, b12, b13, b14⟩ := y; unfold crv; have u3 := underlying3; have g3 := Tryz.isAgg3; have z3 := Tryz.sizeOf3; have u9 := underlying9; have a9 := Tryz.isAgg9; have z9 := Tryz.sizeOf9; have a24 := Tryz.isAgg44; have z24 := Tryz.sizeOf44; have ev : ∀ w, (Op.equalIn 9999 44 (.agg #[iv a3, iv a4]) (.agg #[iv b3, iv b4])).run prog w = .ok (decide (a3 = b3 ∧ a4 = b4)) w := fun w => eqV 9997 a3 a4 b3 b4 w
  have ev2 : ∀ w, (Op.equalIn 9999 44 (.agg #[iv a5, iv a6]) (.agg #[iv b5, iv b6])).run prog w = .ok (decide (a5 = b5 ∧ a6 = b6)) w := fun w => eqV 9997 a5 a6 b5 b6 w
  simp only [Program.fieldsOf, underlying46]; go_simp; exact ite_dec (ite_str (ite_vec (ite_vec (ite_dec (ite_dec (ite_dec (ite_dec (ite_dec (ite_dec (ite_dec ite_end))))))))))
theorem underCr : ∃ d, prog.underlying 46 = some d ∧ d.isRow = true := ⟨_, underlying46, rfl⟩
theorem infoCr : (prog.info? 46).map (·.size) = some 14 := by kernel_rfl
theorem own_range {w : World} {b : Nat} {V : Vw} {a : Option Addr} {c : Nat} {ty : TypeId} (h : Has w b (V.cs a c) ty) : w.rangeAt b 1 (crv V.own) :=
  h.rangeMid 1 [uv V.t] (crv V.own) [.slice a V.S.length c] rfl rfl
theorem sn_range {w : World} {b o j : Nat} {S : List Sn} {s : Sn} (h : SnR w b o S) (hs : S[j]? = some s) : w.rangeAt b (o + j * 5) s.cs := fun i v hv => by
  rw [Nat.mul_comm j 5]; exact h j s hs i v hv
end Go.Proofs.YtldnpebnpbahjaaGreatDoor.Pk.Sn
namespace Go.Proofs.YtldnpebnpbahjaaGreatDoor.Pk.Sn
open Go Go.RowKit Go.Proofs.Tryz
theorem SnR.kept {w w' : World} {b o : Nat} {S : List Sn} (h : SnR w b o S) (g : w.grownBy w' none) : SnR w' b o S := fun j s e i z hz => g.cell (h j s e i z hz) (by simp)
theorem requal_c (V : Vw) (a a' : Option Addr) (c c' : Nat) (w : World) (hs : SeenR w a V.S) (hs' : SeenR w a' V.S) (hlen : V.S.length ≤ 1000000000000) : CRt 30 #[.agg (V.cs a c).toArray, .agg (V.cs a' c').toArray] w (.bool true) := by
  obtain ⟨dc, hdc, hrc⟩ := underCr; obtain ⟨ds, hds, hdsr⟩ := underSn; obtain ⟨w0, hw0⟩ : ∃ q, w.alloc (.cells (V.cs a c).toArray 49) = q := ⟨_, rfl⟩; obtain ⟨h1, g1, s1⟩ := hasN hw0; obtain ⟨w1, hw1⟩ : ∃ q, w0.alloc (.cells (V.cs a' c').toArray 49) = q := ⟨_, rfl⟩; obtain ⟨h2, g2, s2⟩ := hasN hw1; have R1 : Kp (w1.rangeAt w.heap.size 1 (crv V.own)) := ⟨own_range (h1.kept g2 (by simp))⟩; have R2 : Kp (w1.rangeAt w0.heap.size 1 (crv V.own)) := ⟨own_range h2⟩; have t1 : w1.cell? ⟨w.heap.size, 0, none⟩ = some (uv V.t) := (h1.kept g2 (by simp)).cellv 0 _ rfl; have t2 : w1.cell? ⟨w0.heap.size, 0, none⟩ = some (uv V.t) := h2.cellv 0 _ rfl; obtain ⟨m, hm⟩ : ∃ m, V.S.length = m := ⟨_, rfl⟩; have l1 : w1.cell? ⟨w.heap.size, 15, none⟩ = some (.slice a m c) := by have := (h1.kept g2 (by simp)).cellv 15 (.slice a V.S.length c) rfl; rw [hm] at this; exact this
  have l2 : w1.cell? ⟨w0.heap.size, 15, none⟩ = some (.slice a' m c') := by have := h2.cellv 15 (.slice a' V.S.length c') rfl; rw [hm] at this; exact this
  have heq : (Op.equalIn 10000 46 (.agg (crv V.own).toArray) (.agg (crv V.own).toArray)).run prog w1 = .ok true w1 := by
    rw [eqC]; simp
  have HG1 := Kp.mk (g1.trans g2); have HL := Kp.mk (And.intro l1 l2); have HS := Kp.mk (And.intro hs (And.intro hs' (And.intro hm (show m ≤ 1000000000000 by omega)))); unfold Vw.cs at hw0 hw1 ⊢; obtain ⟨O, hO⟩ : ∃ q, V.own = q := ⟨_, rfl⟩; rw [hO] at R1 R2 heq; clear h1 g1 s1 h2 g2 s2 hO hs hs' hlen hm; go_enter func30, ntmps30
  go_wp2_with (first
    | (with_reducible show wpList _ _ _ ({ dst := some 13, op := Op.load 46 _, type := _, pos := _, after := _, guard := _ } :: _) _ _
       refine load_g rfl 46 _ rfl w.heap.size 1 rfl (crv O) dc R1.out hdc hrc infoCr ?_)
    | (with_reducible show wpList _ _ _ ({ dst := some 15, op := Op.load 46 _, type := _, pos := _, after := _, guard := _ } :: _) _ _
       refine load_g rfl 46 _ rfl w0.heap.size 1 rfl (crv O) dc R2.out hdc hrc infoCr ?_))
  go_loopw [5] (fun t w' => ∃ i : Nat, t = .int .i64 (i : Int) ∧ i ≤ m ∧ Kp (w1.grownBy w' none)) (fun t _ => m - (intOf t).toNat)
  case atStart => exact ⟨0, rfl, by omega, ⟨World.grownBy.refl _ _⟩⟩
  case round =>
    obtain ⟨i, rfl, hi, H⟩ := hrel; replace l1 := H.out.cell HL.out.1 (by simp); replace l2 := H.out.cell HL.out.2 (by simp); have HG := Kp.mk (HG1.out.trans H.out); clear t1 t2 heq; by_cases him : i < m
    · have hmb := HS.out.2.2.2; obtain ⟨b, o, rfl, hr1⟩ := HS.out.1 (by intro e; have := HS.out.2.2.1; rw [e] at this; simp at this; omega); obtain ⟨b', o', rfl, hr2⟩ := HS.out.2.1 (by intro e; have := HS.out.2.2.1; rw [e] at this; simp at this; omega); obtain ⟨s, hj⟩ : ∃ s, V.S[i]? = some s := ⟨_, List.getElem?_eq_getElem (by have := HS.out.2.2.1; omega)⟩; have HS1 := Kp.mk hr1; have HS2 := Kp.mk hr2; have HJ := Kp.mk hj; (have heq : ∀ W, (Op.equalIn 10000 98 (.agg s.cs.toArray) (.agg s.cs.toArray)).run prog W = .ok true W := fun W => by rw [eqN]; simp); have q1 : decide ((i : Int) < (m : Int)) = true := decide_eq_true (by omega); have q2 : decide (i < m) = true := decide_eq_true him; (have q3 : (i : Int) < (m : Int) := by omega); clear hr1 hr2 hj; go_wp2_with fail; refine region_Y (S := fun w' => w.grownBy w' none ∧ wr.grownBy w' none) [] (by kernel_rfl) ?_; have hHeld := And.intro (HG.out.trans (gr_drew _ none)) (gr_drew wr none); refine yq 0 rfl ?_; refine yk 1 rfl ?_ (fun w hSw => by have k := hSw.2.cell l1 (by simp); go_simp; first | done | (with_reducible rfl)); refine yq 2 rfl ?_; refine yq 3 rfl ?_; simp only [Act.put, uz]; refine yt (i := 4) (v := .agg s.cs.toArray) rfl (yieldsIf_load_mid (by rfl) 98 _ rfl _ _ rfl _ _ (fun w hSw => sn_range (HS1.out.kept hSw.1) HJ.out) hds hdsr infoSz) (by assumption) ?_; simp only [Act.put, uz]; refine yq 5 rfl ?_; refine yk 6 rfl ?_ (fun w hSw => by have k := hSw.2.cell l2 (by simp); go_simp; first | done | (with_reducible rfl)); refine yq 7 rfl ?_; refine yq 8 rfl ?_; simp only [Act.put, uz]; refine yt (i := 9) (v := .agg s.cs.toArray) rfl (yieldsIf_load_mid (by rfl) 98 _ rfl _ _ rfl _ _ (fun w hSw => sn_range (HS2.out.kept hSw.1) HJ.out) hds hdsr infoSz) (by assumption) ?_; simp only [Act.put, uz]; refine yq 10 rfl ?_; simp only [Act.put, uz]; refine yd ?_; have HX : Kp (w1.grownBy wr.drew none) := ⟨H.out.trans (gr_drew _ none)⟩; clear hHeld; go_wp2_with fail; refine ⟨⟨i + 1, by go_num, by omega, HX⟩, ?_⟩; simp [intOf]; omega
    · have q1 : decide ((i : Int) < (m : Int)) = false := decide_eq_false (by omega); have q2 : decide (i < m) = false := decide_eq_false him; go_wp2_with fail; go_ret; exact ⟨rfl, HG.out⟩
def smV (t p he sc : Int) (n : ByteArray) : Vw := ⟨t, p, n, 0, 0, 0, 0, 0, he, 0, 0, 0, 0, 0, sc, []⟩
theorem rd_none : (rdV (sl nob)).2 ≠ 0 := by decide +kernel
end Go.Proofs.YtldnpebnpbahjaaGreatDoor.Pk.Sn
