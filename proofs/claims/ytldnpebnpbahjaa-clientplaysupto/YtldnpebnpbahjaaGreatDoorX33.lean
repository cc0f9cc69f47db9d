import Derived.Test.YtldnpebnpbahjaaGreatDoorX32
set_option maxRecDepth 100000
set_option maxHeartbeats 8000000
namespace Go.Proofs.YtldnpebnpbahjaaGreatDoor.Pk.Sn
open Go Go.RowKit
theorem endk {C : Cl} (h : C.ok) : (endS C).ok := ⟨h.nm, h.sc, h.nc, by show 0 ≤ 32; omega, by show 0 < 18446744073709551616; omega, by show (-9223372036854775808 : Int) ≤ 0 ∧ (0 : Int) < 9223372036854775808; omega, by show 0 < 18446744073709551616; omega, h.mx, h.vw, .inr (.inl rfl)⟩
theorem beg_ok2 {C : Cl} {data : ByteArray} {D : Dg} (h : C.ok) (hd : Came D) : (begS C data D).1.ok ∧ (begS C data D).1.sd ≤ C.sd := by
  unfold begS; split
  · exact ⟨h, Nat.le_refl _⟩
  · split
    · exact ⟨h, Nat.le_refl _⟩
    · exact ⟨⟨h.nm, h.sc, h.nc, by show (keyB _ _ _ _).size ≤ 32; rw [keyB_size]; omega, hd.f.s, hd.f.p, by show 0 < 18446744073709551616; omega, hd.f.s, h.vw, .inr (.inr rfl)⟩, Nat.zero_le _⟩
theorem nxt_ok {C : Cl} {data : ByteArray} {D : Dg} (h : C.ok) (hd : Came D) : (nxtS C data D).2.2.ok ∧ (nxtS C data D).2.2.sd ≤ C.sd := by
  rcases h.st with k | k | k
  · rw [nx_52 k]; exact ⟨h, Nat.le_refl _⟩
  · rw [nx_54 k]; unfold greS; split
    · exact ⟨h, Nat.le_refl _⟩
    · split
      · exact beg_ok2 h hd
      · exact ⟨h, Nat.le_refl _⟩
  · rw [nx_168 k]; unfold plaS; split
    · show (lokS C data D).1.ok ∧ (lokS C data D).1.sd ≤ C.sd; by_cases hj : judS C data D = 0
      · obtain ⟨Z, hZ⟩ : ∃ q, rdV (sl D.data) = q := ⟨_, rfl⟩; by_cases hz : Z.2 = 0
        · rw [lk_o hj hZ hz]; exact ⟨⟨h.nm, h.sc, h.nc, h.key, h.num, h.pl, hd.f.q, h.mx, hd.s.2.2.2.2, h.st⟩, Nat.le_refl _⟩
        · rw [lk_e hj hZ hz]; exact ⟨h, Nat.le_refl _⟩
      · unfold lokS; rw [if_pos hj]; exact ⟨h, Nat.le_refl _⟩
    · split
      · show (disS C data D).1.ok ∧ (disS C data D).1.sd ≤ C.sd; unfold disS; split
        · exact ⟨h, Nat.le_refl _⟩
        · exact ⟨endk h, Nat.zero_le _⟩
      · exact ⟨h, Nat.le_refl _⟩
theorem hea_ok {C : Cl} {data : ByteArray} (h : C.ok) : (heaS C data).2.2.ok ∧ (heaS C data).2.2.sd ≤ C.sd := by
  unfold heaS; split
  · exact ⟨h, Nat.le_refl _⟩
  · rename_i hz; split
    · exact ⟨h, Nat.le_refl _⟩
    · exact nxt_ok h (okd_came (dec_back (by simpa using hz)).2.2.1)
theorem hel_ok {C : Cl} (h : C.ok) : (helS C).2.2.ok ∧ (helS C).2.2.sd ≤ C.sd := by
  unfold helS; split
  · exact ⟨h, Nat.le_refl _⟩
  · exact ⟨⟨h.nm, h.sc, h.nc, h.key, h.num, h.pl, h.bl, h.mx, h.vw, .inr (.inl rfl)⟩, Nat.le_refl _⟩
theorem sls_ok {C : Cl} {d : Dg} (h : C.ok) : (slS C d).ok ∧ (slS C d).sd ≤ C.sd + 1 := by
  unfold slS; split
  · exact ⟨⟨h.nm, h.sc, h.nc, h.key, h.num, h.pl, h.bl, h.mx, h.vw, h.st⟩, Nat.le_refl _⟩
  · exact ⟨h, Nat.le_succ _⟩
theorem bye_ok {C : Cl} (h : C.ok) : (byeS C).2.2.ok ∧ (byeS C).2.2.sd ≤ C.sd := by
  unfold byeS; show (if _ then endS C else C).ok ∧ (if _ then endS C else C).sd ≤ C.sd; split
  · exact ⟨endk h, Nat.zero_le _⟩
  · exact ⟨h, Nat.le_refl _⟩
def rhelS (R : Rf) : Rf := if R.num = 0 then { R with sa := true } else R
theorem Ti.hel {w : World} {cb rb : Nat} {C : Cl} {R : Rf} (h : Ti w cb rb C R) : Ti w cb rb (helS C).2.2 (rhelS R) ∧ (rhelS R).sq = R.sq := by
  unfold helS rhelS; by_cases hz : C.num = 0
  · rw [if_neg (fun q => q hz), if_pos (by rw [h.num]; exact hz)]; exact ⟨⟨h.nm, h.sc, h.nc, rfl, h.num, fun q => absurd hz q, fun q => ⟨by show (54 : Nat) ≠ 168; omega, (h.off q).2⟩, h.cur, h.mo, h.vw, h.has, h.rk, h.se⟩, rfl⟩
  · rw [if_pos hz, if_neg (by rw [h.num]; exact hz)]; exact ⟨h, rfl⟩
theorem Ti.helA {w : World} {cb rb : Nat} {C : Cl} {R : Rf} (h : Ti w cb rb C R) : (if R.num = 0 then #[Value.string (ba (enc (helD R.cl)).1), .int .i64 (enc (helD R.cl)).2] else #[.string nob, .int .i64 240]) = #[.string (helS C).1, iv (helS C).2.1] := by
  have e : helD R.cl = helD C := by unfold helD; rw [show R.cl.nc = C.nc from h.nc]
  unfold helS; by_cases hz : C.num = 0
  · rw [if_pos (by rw [h.num]; exact hz), if_neg (fun q => q hz), e]
  · rw [if_neg (by rw [h.num]; exact hz), if_pos hz]
theorem Ti.slx {w : World} {cb rb : Nat} {C : Cl} {R : Rf} (h : Ti w cb rb C R) (d : Dg) : slX R.cl d = slX C d := by
  unfold slX; rw [show R.cl.num = C.num from h.num]; by_cases hz : C.num = 0
  · rw [if_pos hz, if_pos hz]
  · rw [if_neg hz, if_neg hz]
    have e : sesD R.cl d = sesD C d := by
      unfold sesD; rw [show R.cl.num = C.num from h.num, show R.cl.sd = C.sd from (h.cur hz).2.2.1]
    rw [e, show R.cl.key = C.key from (h.cur hz).2.1]
theorem Ti.cmd {w : World} {cb rb : Nat} {C : Cl} {R : Rf} (h : Ti w cb rb C R) (d : Dg) : Ti w cb rb (slS C d) (rslS R d) ∧ (rslS R d).sq ≤ R.sq + 1 := by
  unfold slS rslS; rw [h.slx d]; split
  · exact ⟨⟨h.nm, h.sc, h.nc, h.sa, h.num, h.on, h.off, fun q => ⟨(h.cur q).1, (h.cur q).2.1, by show R.sq + 1 = C.sd + 1; rw [(h.cur q).2.2.1], (h.cur q).2.2.2⟩, h.mo, h.vw, h.has, h.rk, h.se⟩, Nat.le_refl _⟩
  · exact ⟨h, Nat.le_succ _⟩
theorem Ti.bye {w : World} {cb rb : Nat} {C : Cl} {R : Rf} (h : Ti w cb rb C R) : Ti w cb rb (byeS C).2.2 (rbyS R) ∧ (rbyS R).sq ≤ R.sq + 1 := by
  unfold byeS rbyS; show Ti w cb rb (if _ then endS C else C) _ ∧ _; rw [h.slx]; split
  · rename_i hz; (have hn : C.num ≠ 0 := fun q => by rw [slX_0 q] at hz; revert hz; decide); (have hsa : R.sa = true := by rw [h.sa, h.on hn]; rfl); have h2 := h.cmd (Dg.zero 7)
    exact ⟨⟨by rw [show ({ rslS R (Dg.zero 7) with num := 0 } : Rf).nm = (rslS R (Dg.zero 7)).nm from rfl, h2.1.nm]; unfold slS; split <;> rfl,
      by rw [show ({ rslS R (Dg.zero 7) with num := 0 } : Rf).sc = (rslS R (Dg.zero 7)).sc from rfl, h2.1.sc]; unfold slS; split <;> rfl,
      by rw [show ({ rslS R (Dg.zero 7) with num := 0 } : Rf).nc = (rslS R (Dg.zero 7)).nc from rfl, h2.1.nc]; unfold slS; split <;> rfl,
      by show (rslS R (Dg.zero 7)).sa = _; unfold rslS; split <;> exact hsa,
      rfl, fun q => absurd rfl q, fun _ => ⟨by show (54 : Nat) ≠ 168; omega, rfl⟩, fun q => absurd rfl q,
      by show (rslS R (Dg.zero 7)).mo = C.mx; unfold rslS; split <;> exact h.mo,
      by show (rslS R (Dg.zero 7)).V = _; unfold rslS; split <;> exact h.vw,
      by show (rslS R (Dg.zero 7)).has = _; unfold rslS; split <;> exact h.has,
      by show (rslS R (Dg.zero 7)).key.size ≤ 32; unfold rslS; split <;> exact h.rk,
      by
        (have e1 : (rslS R (Dg.zero 7)).V = R.V := by unfold rslS; split <;> rfl); (have e2 : (rslS R (Dg.zero 7)).a = R.a := by unfold rslS; split <;> rfl); show (rslS R (Dg.zero 7)).V.S ≠ [] → ∃ sb so, (rslS R (Dg.zero 7)).a = _ ∧ _ ∧ _ ∧ SnR w sb so (rslS R (Dg.zero 7)).V.S; rw [e1, e2]
        exact h.se⟩, by show (rslS R (Dg.zero 7)).sq ≤ _; exact h2.2⟩
  · exact ⟨h, Nat.le_succ _⟩
theorem rd_zero : Vw.zero = (rdV (sl nob)).1 ∧ True := by
  refine ⟨?_, trivial⟩; have h := rd_none; unfold rdV at h ⊢; dsimp only at h ⊢; split
  · rename_i k; rw [if_pos k] at h; exact absurd rfl h
  · rfl
theorem Ti.new (w : World) (cb rb : Nat) (nm sc nc : ByteArray) : Ti w cb rb (newS nm sc nc) (rnewS nm sc nc) :=
  ⟨rfl, rfl, rfl, rfl, rfl, fun q => absurd rfl q, fun _ => ⟨by show (52 : Nat) ≠ 168; omega, rfl⟩, fun q => absurd rfl q, rfl, rd_zero.1, by rw [show (newS nm sc nc).vw = nob from rfl, decide_eq_false rd_none]; rfl, by show 0 ≤ 32; omega, fun q => absurd rfl q⟩
theorem Ti.play {w : World} {cb rb : Nat} {C : Cl} {R : Rf} (h : Ti w cb rb C R) : (if R.num = 0 then #[Value.int .u64 0, iv 0, .bool false] else #[uv R.num, iv R.pl, .bool true]) = #[uv C.num, iv C.pl, .bool (decide (C.num ≠ 0))] := by
  by_cases hz : C.num = 0
  · rw [if_pos (by rw [h.num]; exact hz), (h.off hz).2, hz]; rfl
  · rw [if_neg (by rw [h.num]; exact hz), h.num, (h.cur hz).1, decide_eq_true hz]
structure Pl (w0 w : World) (cb rb : Nat) (C : Cl) (R : Rf) (i : Nat) : Prop where
  g : w0.grownBy w none
  c : Has w cb C.cs 83
  r : Has w rb R.cs 103
  nc : w0.heap.size ≤ cb
  nr : w0.heap.size ≤ rb
  ne : cb ≠ rb
  ok : C.ok
  ti : Ti w cb rb C R
  sd : C.sd ≤ i
  sq : R.sq ≤ i
theorem Pl.kept {w0 w w' : World} {cb rb : Nat} {C : Cl} {R : Rf} {i : Nat} (h : Pl w0 w cb rb C R i) (g : w.grownBy w' none) : Pl w0 w' cb rb C R i := ⟨h.g.trans g, h.c.kept g (by simp), h.r.kept g (by simp), h.nc, h.nr, h.ne, h.ok, h.ti.keep g, h.sd, h.sq⟩
theorem Pl.up {w0 w : World} {cb rb : Nat} {C : Cl} {R : Rf} {i : Nat} (h : Pl w0 w cb rb C R i) : Pl w0 w cb rb C R (i + 1) := ⟨h.g, h.c, h.r, h.nc, h.nr, h.ne, h.ok, h.ti, Nat.le_succ_of_le h.sd, Nat.le_succ_of_le h.sq⟩
theorem Pl.mid {w0 w w' : World} {cb rb : Nat} {C : Cl} {R : Rf} {i : Nat} (h : Pl w0 w cb rb C R i) (g : w.grownBy w' (some cb)) : w0.grownBy w' none ∧ Has w' rb R.cs 103 ∧ Ti w' cb rb C R := ⟨gr_new h.g g h.nc, h.r.kept g (by simp; exact fun e => h.ne e.symm), h.ti.kept g (fun k e => by injection e with e; exact .inl e.symm)⟩
theorem Pl.two {w0 w w2 w3 : World} {cb rb : Nat} {C C' : Cl} {R R' : Rf} {i : Nat} (h : Pl w0 w cb rb C R i) (g : w.grownBy w2 (some cb)) (hc : Has w2 cb C'.cs 83) (g2 : w2.grownBy w3 (some rb)) (hr : Has w3 rb R'.cs 103) (ok : C'.ok) (ti : Ti w3 cb rb C' R') (sd : C'.sd ≤ i + 1) (sq : R'.sq ≤ i + 1) : Pl w0 w3 cb rb C' R' (i + 1) :=
  ⟨gr_new (gr_new h.g g h.nc) g2 h.nr, hc.kept g2 (by simp; exact h.ne), hr, h.nc, h.nr, h.ne, ok, ti, sd, sq⟩
theorem Ti.turn {w w3 : World} {cb rb : Nat} {C : Cl} {R : Rf} (h : Ti w cb rb C R) (g : w.grownBy w3 (some rb)) : Ti w3 cb rb C R := h.kept g (fun k e => by injection e with e; exact .inr e.symm)
open Go.Proofs.Tryz
theorem underSt : ∃ d, prog.underlying 73 = some d ∧ d.isRow = true := ⟨_, underlying73, rfl⟩
theorem infoSt : (prog.info? 73).map (·.size) = some 39 := by kernel_rfl
theorem stp_one (s : Stp) : ∀ v ∈ s.cs, v.oneCell' = true := by
  intro v hv; rw [Stp.cs_D] at hv; rcases List.mem_append.1 hv with hv | hv
  · simp only [List.mem_cons, List.not_mem_nil, or_false] at hv; rcases hv with rfl | rfl | rfl | rfl | rfl | rfl <;> rfl
  · rcases List.mem_append.1 hv with hv | hv
    · exact dg_one _ v hv
    · rcases List.mem_append.1 hv with hv | hv
      · exact vw_one _ _ _ v hv
      · simp only [List.mem_cons, List.not_mem_nil, or_false] at hv; rcases hv with rfl | rfl <;> rfl
theorem stp_cmd {w : World} {b : Nat} {s : Stp} {ty : TypeId} (h : Has w b s.cs ty) : w.rangeAt b 2 [.int .i64 s.t, .int .i64 s.u, .bool s.f, .bool s.b] := fun i z hz => by
  have hl : i < 4 := (List.getElem?_eq_some_iff.1 hz).1; refine h.cellv (2 + i) z ?_; rcases i with _ | _ | _ | _ | i
  · exact hz
  · exact hz
  · exact hz
  · exact hz
  · omega
theorem rdS_few (b : List UInt8) : (rdV b).1.S.length ≤ 1000000000000 := by
  obtain ⟨a0, a1, a2, a3, a4, a5, a6, a7, a8, a9, a10, a11, st4, _, h2⟩ := take_head (st := (b, 0)) rfl rfl rfl; have h3 := h2 _ _ rfl; unfold rdV; dsimp only; rw [h3]; split
  · show (takeSn _ _).1.length ≤ _; rw [takeSn_len]; show (((rNum st4 1).1 : Int)).toNat ≤ _; have := num1_lt st4; omega
  · show 0 ≤ _; omega
theorem clientPlays_c (nm sc nc : ByteArray) (a : Option Addr) (c : Nat) (S : List Stp) (w : World) (hk : Kc w) (hna : Na.Kc w) (hr : RK w) (h5 : 5 ≤ w.heap.size) (h1 : nm.size ≤ 1048576) (h2 : sc.size ≤ 1048576) (h3 : nc.size ≤ 1048576) (hS : 0 < S.length → ∃ b o, a = some ⟨b, o, none⟩ ∧ ∀ j x, S[j]? = some x → w.rangeAt b (o + j * 39) x.cs) (hO : ∀ x ∈ S, StpOk w x) :
    CRt 6 #[.agg #[.string nm, .string sc, .string nc], .slice a S.length c] w (.bool true) := by
  obtain ⟨da, hda, hdar⟩ := underA; obtain ⟨dp, hdp, hdpr⟩ := underSt; obtain ⟨dm, hdm, hdmr⟩ := underM; obtain ⟨dvw, hdvw, hdvr⟩ := underV; obtain ⟨w0, hw0⟩ : ∃ q, w.alloc (.cells #[.string nm, .string sc, .string nc] 65) = q := ⟨_, rfl⟩; obtain ⟨h0, g0, s0⟩ := hasN hw0; have HK : Kp (Kc w ∧ Na.Kc w ∧ RK w ∧ 5 ≤ w.heap.size) := ⟨hk, hna, hr, h5⟩; have HN : Kp (nm.size ≤ 1048576 ∧ sc.size ≤ 1048576 ∧ nc.size ≤ 1048576) := ⟨h1, h2, h3⟩; have HO := Kp.mk hO; have HLS := Kp.mk hS; obtain ⟨n, hn⟩ : ∃ n, S.length = n := ⟨_, rfl⟩; rw [hn] at HLS ⊢; have HNN := Kp.mk hn; clear hn; have H0 : Kp (Has w0 w.heap.size [.string nm, .string sc, .string nc] 65 ∧ w.grownBy w0 none) := ⟨h0, g0⟩; have HBE := Kp.mk (begun_c { data := #[115, 101, 99, 114, 101, 116] } { data := #[110, 111, 110, 99, 101] } 5 w0 (hk.kept g0 (by simp)) (hna.kept g0) (by omega) (by omega)); have hcast : ((5 : Nat) : Int) = 5 := rfl; rw [hcast] at HBE; clear hcast h0 g0 s0 hk hna hr h5 h1 h2 h3 hO hS; go_enter func6, ntmps6; go_wp2_with fail; refine HBE.out.mono ?_; rintro e w1 ⟨cb0, rfl, _, g1, _⟩; have H1 : Kp (Has w1 w.heap.size [.string nm, .string sc, .string nc] 65 ∧ w.grownBy w1 none) := ⟨H0.out.1.kept g1 (by simp), H0.out.2.trans g1⟩
  have hrg1 : Kp (w1.rangeAt w.heap.size 0 [.string nm, .string sc]) := ⟨fun i z hz => H1.out.1.cellv (0 + i) z (by
    rw [Nat.zero_add]; rcases i with _ | _ | i
    · exact hz
    · exact hz
    · simp at hz)⟩
  have c2 : w1.cell? ⟨w.heap.size, 2, none⟩ = some (.string nc) := H1.out.1.cellv 2 _ rfl; clear g1 HBE H0; have HNW := Kp.mk (new_c nm sc nc w1 (HK.out.2.1.kept H1.out.2) (by have := HN.out; omega) (by have := HN.out; omega) (by have := HN.out; omega)); obtain ⟨E, hE⟩ : ∃ q, newE nm sc nc = q := ⟨_, rfl⟩; have HE := Kp.mk hE; rw [hE] at HNW; clear hE
  go_wp2_with (first
    | (with_reducible show wpList _ _ _ ({ dst := _, op := Op.load 63 _, type := _, pos := _, after := _, guard := _ } :: _) _ _
       refine load_g rfl 63 _ rfl w.heap.size 0 rfl [.string nm, .string sc] da hrg1.out hda hdar infoA ?_
       simp only [Act.put, uz]))
  refine HNW.out.mono ?_; rintro e w2 (⟨hne, rfl, g2⟩ | ⟨heq, cb, rfl, hc2, g2, hcb⟩)
  · have HG2 : Kp (w.grownBy w2 none ∧ w2.rangeAt w.heap.size 0 [.string nm, .string sc] ∧ E ≠ 0) := ⟨H1.out.2.trans g2, fun i z hz => g2.cell (hrg1.out i z hz) (by simp), hne⟩; have c2' := g2.cell c2 (by simp); have HRN := Kp.mk (rnew_c nm sc nc w2 HN.out.1); rw [HE.out] at HRN; (have x1 : (E != E) = false := by simp); clear g2 HNW hne hrg1 c2
    go_wp2_with (first
      | (with_reducible show wpList _ _ _ ({ dst := _, op := Op.load 63 _, type := _, pos := _, after := _, guard := _ } :: _) _ _
         refine load_g rfl 63 _ rfl w.heap.size 0 rfl [.string nm, .string sc] da HG2.out.2.1 hda hdar infoA ?_
         simp only [Act.put, uz]))
    refine HRN.out.mono ?_; rintro e w3 (⟨_, rfl, g3⟩ | ⟨h, _⟩)
    · have HG3 := Kp.mk (HG2.out.1.trans g3); clear g3 HRN; go_wp2_with fail; go_ret; exact ⟨rfl, HG3.out⟩
    · exact absurd h HG2.out.2.2
  have HG2 : Kp (w.grownBy w2 none ∧ w2.rangeAt w.heap.size 0 [.string nm, .string sc] ∧ Has w2 cb (newS nm sc nc).cs 83 ∧ w.heap.size ≤ cb ∧ newE nm sc nc = 0) := ⟨H1.out.2.trans g2, fun i z hz => g2.cell (hrg1.out i z hz) (by simp), hc2, by have := H1.out.2.size; omega, by rw [HE.out]; exact heq⟩; have c2' := g2.cell c2 (by simp); have HRN := Kp.mk (rnew_c nm sc nc w2 HN.out.1); rw [HE.out] at HRN; subst heq; clear g2 HNW hrg1 c2 hc2 hcb H1
  go_wp2_with (first
    | (with_reducible show wpList _ _ _ ({ dst := _, op := Op.load 63 _, type := _, pos := _, after := _, guard := _ } :: _) _ _
       refine load_g rfl 63 _ rfl w.heap.size 0 rfl [.string nm, .string sc] da HG2.out.2.1 hda hdar infoA ?_
       simp only [Act.put, uz]))
  refine HRN.out.mono ?_; rintro e w3 (⟨h, _⟩ | ⟨_, rb, rfl, hr3, g3, hrb⟩)
  · exact absurd rfl h
  have HP0 : Kp (Pl w w3 cb rb (newS nm sc nc) (rnewS nm sc nc) 0) := ⟨HG2.out.1.trans g3, HG2.out.2.2.1.kept g3 (by simp), hr3, HG2.out.2.2.2.1, by have := HG2.out.1.size; omega, by have := HG2.out.2.2.1.lt; omega, new_ok HG2.out.2.2.2.2, Ti.new _ _ _ _ _ _, Nat.le_refl _, Nat.le_refl _⟩; clear hr3 g3 hrb HRN HG2 c2'; go_wp2_with fail
  go_loopw [12] (fun t w' => ∃ (i : Nat) (C : Cl) (R : Rf), t = .int .i64 (i : Int) ∧ i ≤ n ∧ Kp (Pl w w' cb rb C R i)) (fun t _ => n - (intOf t).toNat)
  case atStart => exact ⟨0, newS nm sc nc, rnewS nm sc nc, rfl, by omega, HP0⟩
  case round =>
    obtain ⟨i, C, R, rfl, hi, H⟩ := hrel; clear HP0; by_cases him : i < n; rotate_left
    · have q1 : decide ((i : Int) < (n : Int)) = false := decide_eq_false (by omega); have q2 : decide (i < n) = false := decide_eq_false him; go_wp2_with fail; go_ret; exact ⟨rfl, H.out.g⟩
    by_cases hi100 : i < 100; rotate_left
    · have q1 : decide ((i : Int) < (n : Int)) = true := decide_eq_true (by omega); have q2 : decide (i < n) = true := decide_eq_true him; have q4 : decide ((i : Int) < 100) = false := decide_eq_false (by omega); have q5 : decide (i < 100) = false := decide_eq_false hi100; go_wp2_with fail; go_ret; exact ⟨rfl, H.out.g⟩
    obtain ⟨bk, o, rfl, hrw⟩ := HLS.out (by omega); obtain ⟨s, hsj⟩ : ∃ s, S[i]? = some s := ⟨_, List.getElem?_eq_getElem (by have := HNN.out; omega)⟩; have HRG : Kp (wr.rangeAt bk (o + i * 39) s.cs) := ⟨fun q z hz => H.out.g.cell (hrw i s hsj q z hz) (by simp)⟩; have HSO : Kp (StpOk w s) := ⟨HO.out s (List.mem_of_getElem? hsj)⟩; have q1 : decide ((i : Int) < (n : Int)) = true := decide_eq_true (by omega); have q2 : decide (i < n) = true := decide_eq_true him; (have q3 : (i : Int) < (n : Int) := by omega); have q4 : decide ((i : Int) < 100) = true := decide_eq_true (by omega); have q5 : decide (i < 100) = true := decide_eq_true hi100; clear hrw hsj; (have hop : s.op = 1 ∨ (s.op = 2 ∨ s.op = 5) ∨ s.op = 3 ∨ s.op = 4 ∨ (s.op ≠ 1 ∧ s.op ≠ 2 ∧ s.op ≠ 5 ∧ s.op ≠ 3 ∧ s.op ≠ 4) := by omega); rcases hop with ho | (ho | ho) | ho | ho | ho
    case' inl =>
      (have o1 : (s.op == 1) = true := by simp; omega); clear ho
      go_wp2_with (first
        | (with_reducible show wpList _ _ _ ({ dst := _, op := Op.load 73 (Operand.tmp 76), type := _, pos := _, after := _, guard := _ } :: _) _ _
           refine load_g rfl 73 _ rfl bk (o + i * 39) rfl s.cs dp HRG.out hdp hdpr infoSt ?_
           simp only [Act.put, uz])
        | (with_reducible show wpList _ _ _ ({ dst := none, op := Op.store 73 _ _, type := _, pos := _, after := _, guard := _ } :: _) _ _
           refine st_new wr s.cs 73 rfl rfl rfl rfl rfl infoSt (stp_one _) ?_; intro wp h6 g6; have HB : Kp (Has wp wr.heap.size s.cs 73) := ⟨h6⟩; have HP := Kp.mk (H.out.kept g6); have HBN : Kp (wr.heap.size ≠ cb ∧ wr.heap.size ≠ rb) := ⟨by have := H.out.c.lt; omega, by have := H.out.r.lt; omega⟩; have b0 : wp.cell? ⟨wr.heap.size, 0, none⟩ = some (iv s.op) := h6.cellv 0 _ rfl
           clear h6 g6))
      clear HRG H; have HC1 := Kp.mk (hello_c cb C wp (HK.out.1.kept HP.out.g (by simp)) HP.out.c HP.out.ok); have HOK := Kp.mk (hel_ok HP.out.ok); refine HC1.out.mono ?_; rintro e w6 ⟨rfl, h6, g6⟩; have H6 : Kp (Has w6 cb (helS C).2.2.cs 83 ∧ wp.grownBy w6 (some cb) ∧ w.grownBy w6 none ∧ Has w6 rb R.cs 103 ∧ Ti w6 cb rb C R) := ⟨h6, g6, HP.out.mid g6⟩; clear h6 g6 HC1
      have HC2 : Kp (Calls prog 23 #[pa rb 0] w6 fun e w' => e = .returned (.tuple #[.string (helS C).1, iv (helS C).2.1]) ∧ Has w' rb (rhelS R).cs 103 ∧ w6.grownBy w' (some rb)) := ⟨by
        have h := rhello_c rb R w6 H6.out.2.2.2.1 (by rw [H6.out.2.2.2.2.nc]; exact HP.out.ok.nc); rw [H6.out.2.2.2.2.helA] at h
        exact h⟩
      have HTI := Kp.mk H6.out.2.2.2.2.hel; obtain ⟨Y, hY⟩ : ∃ q, helS C = q := ⟨_, rfl⟩; rw [hY] at HC2 HTI H6 HOK ⊢; obtain ⟨X, k, C2⟩ := Y; obtain ⟨R2, hR2⟩ : ∃ q, rhelS R = q := ⟨_, rfl⟩; rw [hR2] at HC2 HTI; clear hY hR2; go_wp2_with fail; refine HC2.out.mono ?_; rintro e w7 ⟨rfl, h7, g7⟩; have HP9 : Kp (Pl w w7 cb rb C2 R2 (i + 1)) := ⟨HP.out.two H6.out.2.1 H6.out.1 g7 h7 HOK.out.1 (HTI.out.1.turn g7) (Nat.le_succ_of_le (Nat.le_trans HOK.out.2 HP.out.sd)) (by rw [HTI.out.2]; exact Nat.le_succ_of_le HP.out.sq)⟩; clear h7 g7 HC2 HTI H6 HOK HP; have HP := HP9; clear HP9
    case' inr.inl.inl | inr.inl.inr =>
      have o1 : (s.op == 1) = false := by simp; omega
      first
        | (have o2 : (s.op == 2) = true := by (simp; omega))
        | (have o2 : (s.op == 2) = false := by (simp; omega)
           have o5 : (s.op == 5) = true := by (simp; omega))
      clear ho
      go_wp2_with (first
        | (with_reducible show wpList _ _ _ ({ dst := _, op := Op.load 73 (Operand.tmp 76), type := _, pos := _, after := _, guard := _ } :: _) _ _
           refine load_g rfl 73 _ rfl bk (o + i * 39) rfl s.cs dp HRG.out hdp hdpr infoSt ?_
           simp only [Act.put, uz])
        | (with_reducible show wpList _ _ _ ({ dst := none, op := Op.store 73 _ _, type := _, pos := _, after := _, guard := _ } :: _) _ _
           refine st_new wr s.cs 73 rfl rfl rfl rfl rfl infoSt (stp_one _) ?_; intro wp h6 g6; have HB : Kp (Has wp wr.heap.size s.cs 73) := ⟨h6⟩; have HP := Kp.mk (H.out.kept g6); have HBN : Kp (wr.heap.size ≠ cb ∧ wr.heap.size ≠ rb) := ⟨by have := H.out.c.lt; omega, by have := H.out.r.lt; omega⟩; have b0 : wp.cell? ⟨wr.heap.size, 0, none⟩ = some (iv s.op) := h6.cellv 0 _ rfl
           clear h6 g6)
        | (with_reducible show wpList _ _ _ ({ dst := _, op := Op.load 73 (Operand.tmp 13), type := _, pos := _, after := _, guard := _ } :: _) _ _
           refine load_g rfl 73 _ rfl wr.heap.size 0 rfl s.cs dp HB.out.range hdp hdpr infoSt ?_
           simp only [Act.put, uz]))
      clear HRG H
      have HDT := Kp.mk (rdat_c rb R s wp (HK.out.2.2.1.kept HP.out.g) (gr_l HP.out.g HK.out.2.2.2) HP.out.r (by
        rw [HP.out.ti.nc, HP.out.ti.sc, HP.out.ti.num]
        exact ⟨HP.out.ok.nc, HP.out.ok.sc, HP.out.ti.rk, HP.out.ok.num⟩) HSO.out.1 (HSO.out.2.kept HP.out.g))
      refine HDT.out.mono ?_; rintro e w5 ⟨dt, rfl, hdt, g5⟩; have HP5 := Kp.mk (HP.out.kept g5); have HDZ := Kp.mk hdt; clear g5 HDT hdt HP HB; have HC1 := Kp.mk (hear_c cb C dt w5 (HK.out.1.kept HP5.out.g (by simp)) HP5.out.c HP5.out.ok (by have := HDZ.out; omega)); have HOK := Kp.mk (hea_ok (data := dt) HP5.out.ok); go_wp2_with fail; refine HC1.out.mono ?_; rintro e w6 ⟨rfl, h6, g6⟩; have H6 : Kp (Has w6 cb (heaS C dt).2.2.cs 83 ∧ w5.grownBy w6 (some cb) ∧ w.grownBy w6 none ∧ Has w6 rb R.cs 103 ∧ Ti w6 cb rb C R) := ⟨h6, g6, HP5.out.mid g6⟩; clear h6 g6 HC1; have HC2 := Kp.mk (rhear_c cb rb C R dt w6 (HK.out.2.2.1.kept H6.out.2.2.1) (gr_l H6.out.2.2.1 HK.out.2.2.2) H6.out.2.2.2.1 H6.out.1.lt HP5.out.ok H6.out.2.2.2.2); obtain ⟨Y, hY⟩ : ∃ q, heaS C dt = q := ⟨_, rfl⟩; rw [hY] at HC2 H6 HOK ⊢; obtain ⟨X, k, C2⟩ := Y; clear hY; go_wp2_with fail; refine HC2.out.mono ?_; rintro e w7 ⟨rfl, hE⟩; obtain ⟨R2, h7, t7, g7, q7⟩ := hE.out; have HP9 : Kp (Pl w w7 cb rb C2 R2 (i + 1)) := ⟨HP5.out.two H6.out.2.1 H6.out.1 g7 h7 HOK.out.1 t7 (Nat.le_succ_of_le (Nat.le_trans HOK.out.2 HP5.out.sd)) (Nat.le_succ_of_le (Nat.le_trans q7 HP5.out.sq))⟩; clear h7 g7 t7 q7 hE HC2 H6 HOK HP5; have HP := HP9; clear HP9
    case' inr.inr.inl =>
      (have o1 : (s.op == 1) = false := by simp; omega); (have o2 : (s.op == 2) = false := by simp; omega); (have o5 : (s.op == 5) = false := by simp; omega); (have o3 : (s.op == 3) = true := by simp; omega); clear ho
      go_wp2_with (first
        | (with_reducible show wpList _ _ _ ({ dst := _, op := Op.load 73 (Operand.tmp 76), type := _, pos := _, after := _, guard := _ } :: _) _ _
           refine load_g rfl 73 _ rfl bk (o + i * 39) rfl s.cs dp HRG.out hdp hdpr infoSt ?_
           simp only [Act.put, uz])
        | (with_reducible show wpList _ _ _ ({ dst := none, op := Op.store 73 _ _, type := _, pos := _, after := _, guard := _ } :: _) _ _
           refine st_new wr s.cs 73 rfl rfl rfl rfl rfl infoSt (stp_one _) ?_; intro wp h6 g6; have HB : Kp (Has wp wr.heap.size s.cs 73) := ⟨h6⟩; have HP := Kp.mk (H.out.kept g6); have HBN : Kp (wr.heap.size ≠ cb ∧ wr.heap.size ≠ rb) := ⟨by have := H.out.c.lt; omega, by have := H.out.r.lt; omega⟩; have b0 : wp.cell? ⟨wr.heap.size, 0, none⟩ = some (iv s.op) := h6.cellv 0 _ rfl
           clear h6 g6)
        | (with_reducible show wpList _ _ _ ({ dst := _, op := Op.load 29 _, type := _, pos := _, after := _, guard := _ } :: _) _ _
           refine load_g rfl 29 _ rfl wr.heap.size 2 rfl [.int .i64 s.t, .int .i64 s.u, .bool s.f, .bool s.b] dm (stp_cmd HB.out) hdm hdmr infoM ?_
           simp only [Act.put, uz]))
      clear HRG H; have HC1 := Kp.mk (command_c cb C wp (HK.out.1.kept HP.out.g (by simp)) HP.out.c HP.out.ok (by have := HP.out.sd; omega) s.t s.u s.f s.b HSO.out.1.t HSO.out.1.u); have HOK := Kp.mk (sls_ok (d := cmdD s.t s.u s.f s.b) HP.out.ok); refine HC1.out.mono ?_; rintro e w6 ⟨rfl, h6, g6⟩; have H6 : Kp (Has w6 cb (slS C (cmdD s.t s.u s.f s.b)).cs 83 ∧ wp.grownBy w6 (some cb) ∧ w.grownBy w6 none ∧ Has w6 rb R.cs 103 ∧ Ti w6 cb rb C R) := ⟨h6, g6, HP.out.mid g6⟩; have HB6 : Kp (Has w6 wr.heap.size s.cs 73) := ⟨HB.out.kept g6 (by simp; exact HBN.out.1)⟩; clear h6 g6 HC1
      have HC2 : Kp (Calls prog 26 #[pa rb 0, .agg #[.int .i64 s.t, .int .i64 s.u, .bool s.f, .bool s.b]] w6 fun e w' => e = .returned (.tuple #[.string (slX C (cmdD s.t s.u s.f s.b)).1, iv (slX C (cmdD s.t s.u s.f s.b)).2]) ∧ Has w' rb (rslS R (cmdD s.t s.u s.f s.b)).cs 103 ∧ w6.grownBy w' (some rb)) := ⟨by
        have h := rcmd_c rb R w6 (HK.out.2.2.1.kept H6.out.2.2.1) (gr_l H6.out.2.2.1 HK.out.2.2.2) H6.out.2.2.2.1 (by rw [H6.out.2.2.2.2.num]; exact HP.out.ok.num) (by have := HP.out.sq; omega) H6.out.2.2.2.2.rk s.t s.u s.f s.b HSO.out.1.t HSO.out.1.u; rw [H6.out.2.2.2.2.slx] at h
        exact h⟩
      have HTI := Kp.mk (H6.out.2.2.2.2.cmd (cmdD s.t s.u s.f s.b)); obtain ⟨Y, hY⟩ : ∃ q, slX C (cmdD s.t s.u s.f s.b) = q := ⟨_, rfl⟩; rw [hY] at HC2 ⊢; obtain ⟨X, k⟩ := Y; obtain ⟨C2, hC2⟩ : ∃ q, slS C (cmdD s.t s.u s.f s.b) = q := ⟨_, rfl⟩; obtain ⟨R2, hR2⟩ : ∃ q, rslS R (cmdD s.t s.u s.f s.b) = q := ⟨_, rfl⟩; rw [hC2] at HTI H6 HOK; rw [hR2] at HC2 HTI; clear hY hR2 hC2
      go_wp2_with (first
        | (with_reducible show wpList _ _ _ ({ dst := _, op := Op.load 29 _, type := _, pos := _, after := _, guard := _ } :: _) _ _
           refine load_g rfl 29 _ rfl wr.heap.size 2 rfl [.int .i64 s.t, .int .i64 s.u, .bool s.f, .bool s.b] dm (stp_cmd HB6.out) hdm hdmr infoM ?_
           simp only [Act.put, uz]))
      refine HC2.out.mono ?_; rintro e w7 ⟨rfl, h7, g7⟩; have HP9 : Kp (Pl w w7 cb rb C2 R2 (i + 1)) := ⟨HP.out.two H6.out.2.1 H6.out.1 g7 h7 HOK.out.1 (HTI.out.1.turn g7) (Nat.le_trans HOK.out.2 (Nat.succ_le_succ HP.out.sd)) (Nat.le_trans HTI.out.2 (Nat.succ_le_succ HP.out.sq))⟩; clear h7 g7 HC2 HTI H6 HOK HP HB6; have HP := HP9; clear HP9
    case' inr.inr.inr.inl =>
      (have o1 : (s.op == 1) = false := by simp; omega); (have o2 : (s.op == 2) = false := by simp; omega); (have o5 : (s.op == 5) = false := by simp; omega); (have o3 : (s.op == 3) = false := by simp; omega); (have o4 : (s.op == 4) = true := by simp; omega); clear ho
      go_wp2_with (first
        | (with_reducible show wpList _ _ _ ({ dst := _, op := Op.load 73 (Operand.tmp 76), type := _, pos := _, after := _, guard := _ } :: _) _ _
           refine load_g rfl 73 _ rfl bk (o + i * 39) rfl s.cs dp HRG.out hdp hdpr infoSt ?_
           simp only [Act.put, uz])
        | (with_reducible show wpList _ _ _ ({ dst := none, op := Op.store 73 _ _, type := _, pos := _, after := _, guard := _ } :: _) _ _
           refine st_new wr s.cs 73 rfl rfl rfl rfl rfl infoSt (stp_one _) ?_; intro wp h6 g6; have HB : Kp (Has wp wr.heap.size s.cs 73) := ⟨h6⟩; have HP := Kp.mk (H.out.kept g6); have HBN : Kp (wr.heap.size ≠ cb ∧ wr.heap.size ≠ rb) := ⟨by have := H.out.c.lt; omega, by have := H.out.r.lt; omega⟩; have b0 : wp.cell? ⟨wr.heap.size, 0, none⟩ = some (iv s.op) := h6.cellv 0 _ rfl
           clear h6 g6))
      clear HRG H; have HC1 := Kp.mk (bye_c cb C wp (HK.out.1.kept HP.out.g (by simp)) HP.out.c HP.out.ok (by have := HP.out.sd; omega)); have HOK := Kp.mk (bye_ok HP.out.ok); refine HC1.out.mono ?_; rintro e w6 ⟨rfl, h6, g6⟩; have H6 : Kp (Has w6 cb (byeS C).2.2.cs 83 ∧ wp.grownBy w6 (some cb) ∧ w.grownBy w6 none ∧ Has w6 rb R.cs 103 ∧ Ti w6 cb rb C R) := ⟨h6, g6, HP.out.mid g6⟩; clear h6 g6 HC1
      have HC2 : Kp (Calls prog 27 #[pa rb 0] w6 fun e w' => e = .returned (.tuple #[.string (byeS C).1, iv (byeS C).2.1]) ∧ Has w' rb (rbyS R).cs 103 ∧ w6.grownBy w' (some rb)) := ⟨by
        have h := rbye_c rb R w6 (HK.out.2.2.1.kept H6.out.2.2.1) (gr_l H6.out.2.2.1 HK.out.2.2.2) H6.out.2.2.2.1 (by rw [H6.out.2.2.2.2.num]; exact HP.out.ok.num) (by have := HP.out.sq; omega) H6.out.2.2.2.2.rk; rw [H6.out.2.2.2.2.slx] at h
        exact h⟩
      have HTI := Kp.mk H6.out.2.2.2.2.bye; obtain ⟨Y, hY⟩ : ∃ q, byeS C = q := ⟨_, rfl⟩; rw [hY] at HC2 HTI H6 HOK ⊢; obtain ⟨X, k, C2⟩ := Y; obtain ⟨R2, hR2⟩ : ∃ q, rbyS R = q := ⟨_, rfl⟩; rw [hR2] at HC2 HTI; clear hY hR2; go_wp2_with fail; refine HC2.out.mono ?_; rintro e w7 ⟨rfl, h7, g7⟩; have HP9 : Kp (Pl w w7 cb rb C2 R2 (i + 1)) := ⟨HP.out.two H6.out.2.1 H6.out.1 g7 h7 HOK.out.1 (HTI.out.1.turn g7) (Nat.le_succ_of_le (Nat.le_trans HOK.out.2 HP.out.sd)) (Nat.le_trans HTI.out.2 (Nat.succ_le_succ HP.out.sq))⟩; clear h7 g7 HC2 HTI H6 HOK HP; have HP := HP9; clear HP9
    case' inr.inr.inr.inr =>
      (have o1 : (s.op == 1) = false := by simp; omega); (have o2 : (s.op == 2) = false := by simp; omega); (have o5 : (s.op == 5) = false := by simp; omega); (have o3 : (s.op == 3) = false := by simp; omega); (have o4 : (s.op == 4) = false := by simp; omega); clear ho
      go_wp2_with (first
        | (with_reducible show wpList _ _ _ ({ dst := _, op := Op.load 73 (Operand.tmp 76), type := _, pos := _, after := _, guard := _ } :: _) _ _
           refine load_g rfl 73 _ rfl bk (o + i * 39) rfl s.cs dp HRG.out hdp hdpr infoSt ?_
           simp only [Act.put, uz])
        | (with_reducible show wpList _ _ _ ({ dst := none, op := Op.store 73 _ _, type := _, pos := _, after := _, guard := _ } :: _) _ _
           refine st_new wr s.cs 73 rfl rfl rfl rfl rfl infoSt (stp_one _) ?_; intro w7 h6 g6; have HB : Kp (Has w7 wr.heap.size s.cs 73) := ⟨h6⟩; have HP := Kp.mk (H.out.kept g6); have HBN : Kp (wr.heap.size ≠ cb ∧ wr.heap.size ≠ rb) := ⟨by have := H.out.c.lt; omega, by have := H.out.r.lt; omega⟩; have b0 : w7.cell? ⟨wr.heap.size, 0, none⟩ = some (iv s.op) := h6.cellv 0 _ rfl
           clear h6 g6))
      clear HRG H; obtain ⟨X, _⟩ : ∃ _ : ByteArray, True := ⟨⟨#[]⟩, trivial⟩; obtain ⟨k, _⟩ : ∃ _ : Int, True := ⟨0, trivial⟩; have HP9 := Kp.mk HP.out.up; clear HP; have HP := HP9; clear HP9; rename Cl => C2; rename Rf => R2
    all_goals
      have HPY := Kp.mk (playing_t cb C2 w7 HP.out.c)
      first | go_wp2_with fail | skip
      refine HPY.out.mono ?_; rintro e wq ⟨rfl, gq⟩; have HP2 := Kp.mk (HP.out.kept gq); clear gq HPY HP
      have HPR : Kp (CRt 28 #[pa rb 0] wq (.tuple #[uv C2.num, iv C2.pl, .bool (decide (C2.num ≠ 0))])) := ⟨by
        have h := rplaying_c rb R2 wq HP2.out.r; rw [HP2.out.ti.play] at h
        exact h⟩
      obtain ⟨nz, hnz⟩ : ∃ q, decide (C2.num ≠ 0) = q := ⟨_, rfl⟩; rw [hnz] at HPR ⊢; clear hnz; go_wp2_with fail; refine HPR.out.mono ?_; rintro e wr2 ⟨rfl, gq⟩; have HP3 := Kp.mk (HP2.out.kept gq); clear gq HPR HP2; have HVW := Kp.mk (view_t cb C2 wr2 HP3.out.c); go_wp2_with fail; refine HVW.out.mono ?_; rintro e ws ⟨va, vc, rfl, hsn, gq⟩; have HP4 : Kp (Pl w ws cb rb C2 R2 (i + 1) ∧ SeenR ws va (rdV (sl C2.vw)).1.S) := ⟨HP3.out.kept gq, hsn⟩; clear gq hsn HVW HP3; have HVN : Kp (R2.V = (rdV (sl C2.vw)).1 ∧ R2.has = decide ((rdV (sl C2.vw)).2 = 0) ∧ SeenR ws R2.a R2.V.S ∧ R2.V.S.length ≤ 1000000000000) := ⟨HP4.out.1.ti.vw, HP4.out.1.ti.has, HP4.out.1.ti.seen, by rw [HP4.out.1.ti.vw]; exact rdS_few _⟩; obtain ⟨vz, hvz⟩ : ∃ q, decide ((rdV (sl C2.vw)).2 = 0) = q := ⟨_, rfl⟩; obtain ⟨VW, hVW⟩ : ∃ q, (rdV (sl C2.vw)).1 = q := ⟨_, rfl⟩
      have HRV : Kp (∀ w6 : World, ws.grownBy w6 none → CRt 29 #[pa rb 0] w6 (.tuple #[.agg (VW.cs R2.a R2.c).toArray, .bool vz])) := ⟨fun w6 g => by
        have h := rview_c rb R2 w6 (HP4.out.1.r.kept g (by simp)); rw [HVN.out.1, HVN.out.2.1, hvz, hVW] at h
        exact h⟩
      rw [hVW, hvz]; rw [hVW] at HP4; rw [HVN.out.1, hVW] at HVN; clear hvz hVW
      go_wp2_with (first
        | (with_reducible show wpList _ _ _ ({ dst := none, op := Op.store 49 (Operand.tmp 25) _, type := _, pos := _, after := _, guard := _ } :: _) _ _
           refine st_new ws (VW.cs va vc) 49 rfl rfl rfl rfl rfl infoV (vw_one _ _ _) ?_; intro wt h6 g6; have HP5 : Kp (Pl w wt cb rb C2 R2 (i + 1) ∧ SeenR wt va VW.S ∧ Has wt ws.heap.size (VW.cs va vc) 49 ∧ ws.grownBy wt none) := ⟨HP4.out.1.kept g6, HP4.out.2.kept g6, h6, g6⟩
           clear h6 g6))
      refine (HRV.out wt HP5.out.2.2.2).mono ?_; rintro e wu ⟨rfl, gq⟩; have HP6 : Kp (Pl w wu cb rb C2 R2 (i + 1) ∧ SeenR wu va VW.S ∧ Has wu ws.heap.size (VW.cs va vc) 49 ∧ ws.grownBy wu none) := ⟨HP5.out.1.kept gq, HP5.out.2.1.kept gq, HP5.out.2.2.1.kept gq (by simp), HP5.out.2.2.2.trans gq⟩; clear gq HP5 HRV HP4; have HEQ : Kp (∀ w6 : World, wu.grownBy w6 none → CRt 30 #[.agg (VW.cs va vc).toArray, .agg (VW.cs R2.a R2.c).toArray] w6 (.bool true)) := ⟨fun w6 g => requal_c VW va R2.a vc R2.c w6 (HP6.out.2.1.kept g) (HVN.out.2.2.1.kept (HP6.out.2.2.2.trans g)) HVN.out.2.2.2⟩; (have x1 : (X.toList != X.toList) = false := by simp); (have x2 : (k != k) = false := by simp); (have x3 : ((C2.num : Int) != (C2.num : Int)) = false := by simp); have x4 : (C2.pl != C2.pl) = false := by simp
      go_wp2_with (first
        | (with_reducible show wpList _ _ _ ({ dst := none, op := Op.store 49 (Operand.tmp 27) _, type := _, pos := _, after := _, guard := _ } :: _) _ _
           refine st_new wu (VW.cs R2.a R2.c) 49 rfl rfl rfl rfl rfl infoV (vw_one _ _ _) ?_; intro wv h6 g6; have HP7 : Kp (Pl w wv cb rb C2 R2 (i + 1) ∧ Has wv ws.heap.size (VW.cs va vc) 49 ∧ Has wv wu.heap.size (VW.cs R2.a R2.c) 49 ∧ wu.grownBy wv none) := ⟨HP6.out.1.kept g6, HP6.out.2.2.1.kept g6 (by simp), h6, g6⟩
           clear h6 g6)
        | (with_reducible show wpList _ _ _ ({ dst := _, op := Op.load 49 (Operand.tmp 25), type := _, pos := _, after := _, guard := _ } :: _) _ _
           refine load_g rfl 49 _ rfl ws.heap.size 0 rfl (VW.cs va vc) dvw HP7.out.2.1.range hdvw hdvr infoV ?_
           simp only [Act.put, uz])
        | (with_reducible show wpList _ _ _ ({ dst := _, op := Op.load 49 (Operand.tmp 27), type := _, pos := _, after := _, guard := _ } :: _) _ _
           refine load_g rfl 49 _ rfl wu.heap.size 0 rfl (VW.cs R2.a R2.c) dvw HP7.out.2.2.1.range hdvw hdvr infoV ?_
           simp only [Act.put, uz]))
      refine (HEQ.out wv HP7.out.2.2.2).mono ?_; rintro e wx ⟨rfl, gq⟩; have HP8 := Kp.mk (HP7.out.1.kept gq); clear gq HP7 HP6 HEQ x1 x2 x3 x4; go_wp2_with fail; refine ⟨⟨i + 1, C2, R2, by go_num, by omega, HP8⟩, ?_⟩; simp [intOf]; omega
end Go.Proofs.YtldnpebnpbahjaaGreatDoor.Pk.Sn
