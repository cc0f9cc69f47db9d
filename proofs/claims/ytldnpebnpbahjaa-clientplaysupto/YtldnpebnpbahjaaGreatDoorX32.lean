import Derived.Test.YtldnpebnpbahjaaGreatDoorX29
import Derived.Test.YtldnpebnpbahjaaGreatDoorX31
import Derived.Test.YtldnpebnpbahjaaGreatDoorX25
import Derived.Test.YtldnpebnpbahjaaGreatDoorCK
import Derived.WalkKit
import Derived.ProofKit
import Derived.OpenShut
import Derived.ChangeMaps5
import Derived.SizedLaws
import Derived.JoinedCond
import Derived.Deep.Slices
import Derived.Deep.Strs
import Derived.Deep.CondSized
set_option maxRecDepth 100000
set_option maxHeartbeats 8000000
namespace Go.Proofs.YtldnpebnpbahjaaGreatDoor.Pk.Sn
open Go Go.RowKit Go.Proofs.Tryz
theorem fin_none (V : Vw) (n : Nat) (st : WS) (h : 255 < n) (h2 : n < 9223372036854775808) : laySn V.S (wNum st (u64 (n : Int)) 1) = none := by
  have e : wNum st (u64 (n : Int)) 1 = none := wNum_big st (u64 (n : Int)) 1 1 rfl (by unfold u64; omega); rw [e, laySn_none]
theorem wrV_is (V : Vw) (ho : V.ok) : wrV V = ((wrS V).getD [], werr (wrS V)) := by
  unfold wrV; by_cases h : 255 < V.S.length
  · rw [if_pos h]
    have h2 : V.S.length < 9223372036854775808 := by
      have q := ho.h.2.2.2.2.2.2.2.2.2.2.2.2.2.2.2.1.2; have q : (V.S.length : Int) < 9223372036854775808 := q; omega
    have e : wrS V = none := by
      obtain ⟨t, p, nm, a0, a1, a2, a3, a4, a5, a6, a7, a8, a9, a10, a11, S⟩ := V; exact fin_none ⟨t, p, nm, a0, a1, a2, a3, a4, a5, a6, a7, a8, a9, a10, a11, S⟩ S.length _ h h2
    rw [e]; rfl
  · rw [if_neg h]
theorem rwrite_c (V : Vw) (a : Option Addr) (c : Nat) (w : World) (ho : V.ok) (hr : SeenR w a V.S) :
    CRt 58 #[.agg (V.cs a c).toArray] w (.tuple #[.string ⟨(wrV V).1.toArray⟩, iv (wrV V).2]) := by
  rw [wrV_is V ho]; obtain ⟨⟨h1, h2, h3, b0, b1, b2, b3, b4, b5, b6, b7, b8, b9, b10, b11, h4, _⟩, hs⟩ := ho; obtain ⟨t, p, nm, a0, a1, a2, a3, a4, a5, a6, a7, a8, a9, a10, a11, S⟩ := V; have h1 : 0 ≤ t ∧ t < 18446744073709551616 := h1; obtain ⟨T1, rfl⟩ : ∃ T : Nat, t = (T : Int) := ⟨t.toNat, by omega⟩; have h4 : (S.length : Int) < 9223372036854775808 := h4.2
  exact rwrite_in T1 p nm a0 a1 a2 a3 a4 a5 a6 a7 a8 a9 a10 a11 S a c S.length _ _ _ _ _ w (by omega) h2 h3
    (fun i x hx => by
      have hm := List.mem_of_getElem? hx; simp only [List.mem_cons, List.not_mem_nil, or_false] at hm
      rcases hm with rfl | rfl | rfl | rfl | rfl | rfl | rfl | rfl | rfl | rfl | rfl | rfl <;> assumption) hs rfl (by omega) hr rfl rfl rfl rfl rfl
structure Stp where
  op : Int
  data : ByteArray
  t : Int
  u : Int
  f : Bool
  b : Bool
  D : Dg
  V : Vw
  a : Option Addr
  c : Nat
  right : Bool
  byte : Int
def Stp.cs (s : Stp) : List Value := [iv s.op, .string s.data, iv s.t, iv s.u, .bool s.f, .bool s.b,
  iv s.D.kind, .string s.D.nonce, uv s.D.epoch, .string s.D.cookie, .string s.D.name, uv s.D.session, iv s.D.player, .string s.D.salt, uv s.D.seq, iv s.D.thr, iv s.D.turn, .bool s.D.fire, .bool s.D.boost, .string s.D.data, .string s.D.tag,
  uv s.V.t, iv s.V.p, .string s.V.n, iv s.V.x, iv s.V.y, iv s.V.u, iv s.V.v, iv s.V.h, iv s.V.he, iv s.V.en, iv s.V.am, iv s.V.co, iv s.V.wt, iv s.V.sp, iv s.V.sc, .slice s.a s.V.S.length s.c,
  .bool s.right, iv s.byte]
theorem Stp.cs_D (s : Stp) : s.cs = [iv s.op, .string s.data, iv s.t, iv s.u, .bool s.f, .bool s.b] ++ (s.D.cells ++ (s.V.cs s.a s.c ++ [.bool s.right, iv s.byte])) := rfl
theorem Stp.rD {w : World} {sb : Nat} {s : Stp} {ty : TypeId} (h : Has w sb s.cs ty) : w.rangeAt sb 6 s.D.cells := fun i z hz => by
  have hl : i < 15 := (List.getElem?_eq_some_iff.1 hz).1; refine h.cellv (6 + i) z ?_; rw [Stp.cs_D, List.getElem?_append_right (by show 6 ≤ 6 + i; omega), show 6 + i - [iv s.op, .string s.data, iv s.t, iv s.u, Value.bool s.f, .bool s.b].length = i by show 6 + i - 6 = i; omega, List.getElem?_append_left (by show i < 15; omega)]; exact hz
theorem Stp.rV {w : World} {sb : Nat} {s : Stp} {ty : TypeId} (h : Has w sb s.cs ty) : w.rangeAt sb 21 (s.V.cs s.a s.c) := fun i z hz => by
  have hl : i < 16 := (List.getElem?_eq_some_iff.1 hz).1; refine h.cellv (21 + i) z ?_; rw [Stp.cs_D, ← List.append_assoc, List.getElem?_append_right (by show 21 ≤ 21 + i; omega), show 21 + i - ([iv s.op, .string s.data, iv s.t, iv s.u, Value.bool s.f, .bool s.b] ++ s.D.cells).length = i by show 21 + i - 21 = i; omega, List.getElem?_append_left (by show i < 16; omega)]; exact hz
structure Stp.ok (s : Stp) : Prop where
  o : -9223372036854775808 ≤ s.op ∧ s.op < 9223372036854775808
  d : s.data.size ≤ 1048576
  t : -9223372036854775808 ≤ s.t ∧ s.t < 9223372036854775808
  u : -9223372036854775808 ≤ s.u ∧ s.u < 9223372036854775808
  df : s.D.fine
  ds : s.D.nonce.size ≤ 1048576 ∧ s.D.cookie.size ≤ 1048576 ∧ s.D.name.size ≤ 1048576 ∧ s.D.salt.size ≤ 1048576 ∧ s.D.data.size ≤ 1048576 ∧ s.D.tag.size ≤ 1048576
  v : s.V.ok
  b : -9223372036854775808 ≤ s.byte ∧ s.byte < 9223372036854775808
structure Dok (D : Dg) : Prop where
  f : D.fine
  s : D.nonce.size ≤ 1048576 ∧ D.cookie.size ≤ 1048576 ∧ D.name.size ≤ 1048576 ∧ D.salt.size ≤ 1048576 ∧ D.data.size ≤ 1048576 ∧ D.tag.size ≤ 1048576
theorem Dok.small {D : Dg} (h : Dok D) : D.small := ⟨by have := h.s.1; omega, by have := h.s.2.1; omega, by have := h.s.2.2.1; omega, by have := h.s.2.2.2.1; omega, by have := h.s.2.2.2.2.1; omega, by have := h.s.2.2.2.2.2; omega⟩
theorem wrV_len2 {V : Vw} (h : V.ok) : (wrV V).1.length ≤ 7000 := wrV_len h
theorem enc_sz (d : Dg) : (ba (enc d).1).size ≤ 1200 := by rw [ba_size]; exact enc_le d
theorem seal_sz (d : Dg) (k : ByteArray) : (sealD d k).1.size ≤ 1300 := by
  unfold sealD; split
  · split
    · rw [ByteArray.size_append]; have h1 : (bodyB (ba (enc d.bare).1)).size ≤ (ba (enc d.bare).1).size := bodyB_size _; have h2 := enc_sz d.bare
      have h3 : (hmacB k (bodyB (ba (enc d.bare).1))).size = 32 := by
        show (Mac.hmac _ _).toArray.size = 32; rw [List.size_toArray, Mac.hmac_len]
      omega
    · show 0 ≤ _; omega
  · show 0 ≤ _; omega
structure DA (w0 w : World) (sb db rb : Nat) (s : Stp) (D : Dg) (R : Rf) : Prop where
  s : Has w sb s.cs 73
  d : Has w db D.cells 34
  r : Has w rb R.cs 103
  g : w0.grownBy w none
  k : RK w
  h : 5 ≤ w.heap.size
  n : w0.heap.size ≤ db
  sd : sb ≠ db
  rd : rb ≠ db
theorem DA.kept {w0 w w' : World} {sb db rb : Nat} {s : Stp} {D : Dg} {R : Rf} (h : DA w0 w sb db rb s D R) (g : w.grownBy w' none) : DA w0 w' sb db rb s D R := ⟨h.s.kept g (by simp), h.d.kept g (by simp), h.r.kept g (by simp), h.g.trans g, h.k.kept g, gr_l g h.h, h.n, h.sd, h.rd⟩
theorem DA.over {w0 w w' : World} {sb db rb : Nat} {s : Stp} {D D' : Dg} {R : Rf} (h : DA w0 w sb db rb s D R) (hd : Has w' db D'.cells 34) (g : w.grownBy w' (some db)) (h0 : RK w0) (h5 : 5 ≤ w0.heap.size) : DA w0 w' sb db rb s D' R :=
  ⟨h.s.kept g (by simp; exact h.sd), hd, h.r.kept g (by simp; exact h.rd), gr_new h.g g h.n, h0.kept (gr_new h.g g h.n), gr_l (gr_new h.g g h.n) h5, h.n, h.sd, h.rd⟩
theorem rdat_c (rb : Nat) (R : Rf) (s : Stp) (w : World) (hk : RK w) (h5 : 5 ≤ w.heap.size) (hh : Has w rb R.cs 103) (hr : R.nc.size = 16 ∧ R.sc.size = 32 ∧ R.key.size ≤ 32 ∧ R.num < 18446744073709551616) (hs : s.ok) (hv : SeenR w s.a s.V.S) :
    Calls prog 24 #[pa rb 0, .agg s.cs.toArray] w fun e w' => ∃ t, e = .returned (.string t) ∧ t.size ≤ 1048576 ∧ w.grownBy w' none := by
  obtain ⟨du, hdu, hdr⟩ := under26; obtain ⟨dvw, hdvw, hdvr⟩ := underV; obtain ⟨w0, hw0⟩ : ∃ q, w.alloc (.cells s.cs.toArray 73) = q := ⟨_, rfl⟩; obtain ⟨h0, g0, s0⟩ := hasN hw0; have hrb := hh.lt; have HG : Kp (w.grownBy w0 none ∧ Has w0 w.heap.size s.cs 73 ∧ Has w0 rb R.cs 103) := ⟨g0, h0, hh.kept g0 (by simp)⟩; have HK : Kp (RK w ∧ 5 ≤ w.heap.size ∧ s.ok ∧ SeenR w s.a s.V.S ∧ R.nc.size = 16 ∧ R.sc.size = 32 ∧ R.key.size ≤ 32 ∧ R.num < 18446744073709551616) := ⟨hk, h5, hs, hv, hr⟩; have HNE : Kp (w.heap.size ≠ w0.heap.size ∧ rb ≠ w0.heap.size ∧ w.heap.size ≤ w0.heap.size) := ⟨by have := h0.lt; omega, by have := h0.lt; omega, g0.size⟩; have s0c := HG.out.2.1.cellv 0 _ (rfl : s.cs[0]? = some (iv s.op)); have s1c := HG.out.2.1.cellv 1 _ (rfl : s.cs[1]? = some (.string s.data)); have HRD : Kp (w0.rangeAt w.heap.size 6 s.D.cells) := ⟨Stp.rD h0⟩; have sr : w0.cell? ⟨w.heap.size, 37, none⟩ = some (.bool s.right) := HG.out.2.1.cellv 37 _ rfl; unfold Stp.cs at hw0 ⊢; generalize s.right = rt at hw0 sr ⊢; clear h0 g0 s0 hk h5 hh hr hs hv hrb; by_cases ho : s.op = 2
  · (have q0 : (s.op == 2) = true := by simp [ho]); clear ho; go_enter func24, ntmps24; go_wp2_with fail; go_ret; exact ⟨_, rfl, HK.out.2.2.1.d, HG.out.1⟩
  have q0 : (s.op == 2) = false := by simp [ho]
  clear ho; go_enter func24, ntmps24; have c6 : w0.cell? ⟨rb, 6, none⟩ = some (.string R.key) := HG.out.2.2.cellv 6 _ rfl
  go_upto_if 26 with (first
    | (with_reducible show wpList _ _ _ ({ dst := _, op := Op.load 34 _, type := _, pos := _, after := _, guard := _ } :: _) _ _
       refine load_g rfl 34 _ rfl w.heap.size 6 rfl s.D.cells du HRD.out hdu hdr info26 ?_
       simp only [Act.put, uz])
    | (with_reducible show wpList _ _ _ ({ dst := none, op := Op.store 34 _ _, type := _, pos := _, after := _, guard := _ } :: _) _ _
       refine st_new w0 s.D.cells 34 rfl rfl rfl rfl rfl info26 (dg_one _) ?_; intro w1 h1 g1; have H1 : Kp (DA w w1 w.heap.size w0.heap.size rb s s.D R) := ⟨⟨HG.out.2.1.kept g1 (by simp), h1, HG.out.2.2.kept g1 (by simp), HG.out.1.trans g1, (HK.out.1.kept HG.out.1).kept g1, gr_l g1 (gr_l HG.out.1 HK.out.2.1), HNE.out.2.2, HNE.out.1, HNE.out.2.1⟩⟩; have c6' := g1.cell c6 (by simp); have sr' := g1.cell sr (by simp)
       clear h1 g1))
  go_cut [5] (fun sv wx => sv = pa w0.heap.size 0 ∧ Kp (∃ D : Dg, DA w wx w.heap.size w0.heap.size rb s D R ∧ D.kind = s.D.kind ∧ Dok D))
  case first =>
    cases rt with
    | false =>
      go_wp2_with fail; go_meet; exact ⟨rfl, ⟨_, H1.out, rfl, ⟨HK.out.2.2.1.df, HK.out.2.2.1.ds⟩⟩⟩
    | true =>
      have c2 : w1.cell? ⟨rb, 2, none⟩ = some (.string R.nc) := H1.out.r.cellv 2 _ rfl; have e1 : w1.cell? ⟨w0.heap.size, 1, none⟩ = some (.string s.D.nonce) := H1.out.d.cellv 1 _ rfl; have z1 := H1.out.d.frozen 1; obtain ⟨w2, hw2⟩ : ∃ q, w1.setCell ⟨w0.heap.size, 1, none⟩ (.string R.nc) = q := ⟨_, rfl⟩; have H2 : Kp (DA w w2 w.heap.size w0.heap.size rb s { s.D with nonce := R.nc } R) := ⟨H1.out.over (by rw [← hw2]; exact H1.out.d.setCell 1 _) (by rw [← hw2]; exact gr_set _ _ _ _) HK.out.1 HK.out.2.1⟩; have e0 : w2.cell? ⟨w0.heap.size, 0, none⟩ = some (iv s.D.kind) := H2.out.d.cellv 0 _ rfl; by_cases k4 : s.D.kind = 4
      · (have q4 : (s.D.kind != 4) = false := by simp [k4]); clear k4; go_wp2_with fail; go_meet; exact ⟨rfl, ⟨_, H2.out, rfl, ⟨HK.out.2.2.1.df.k, HK.out.2.2.1.df.e, HK.out.2.2.1.df.s, HK.out.2.2.1.df.p, HK.out.2.2.1.df.q, HK.out.2.2.1.df.h, HK.out.2.2.1.df.t⟩, ⟨by show R.nc.size ≤ _; have := HK.out.2.2.2.2.1; omega, HK.out.2.2.1.ds.2⟩⟩⟩
      · (have q4 : (s.D.kind != 4) = true := by simp [k4]); have c4 : w2.cell? ⟨rb, 4, none⟩ = some (uv R.num) := H2.out.r.cellv 4 _ rfl; have e5 : w2.cell? ⟨w0.heap.size, 5, none⟩ = some (uv s.D.session) := H2.out.d.cellv 5 _ rfl; have z5 := H2.out.d.frozen 5; have H3 : Kp (DA w (w2.setCell ⟨w0.heap.size, 5, none⟩ (uv R.num)) w.heap.size w0.heap.size rb s { s.D with nonce := R.nc, session := R.num } R) := ⟨H2.out.over (H2.out.d.setCell 5 _) (gr_set _ _ _ _) HK.out.1 HK.out.2.1⟩; clear k4; go_wp2_with fail; go_meet; exact ⟨rfl, ⟨_, H3.out, rfl, ⟨HK.out.2.2.1.df.k, HK.out.2.2.1.df.e, HK.out.2.2.2.2.2.2.2, HK.out.2.2.1.df.p, HK.out.2.2.1.df.q, HK.out.2.2.1.df.h, HK.out.2.2.1.df.t⟩, ⟨by show R.nc.size ≤ _; have := HK.out.2.2.2.2.1; omega, HK.out.2.2.1.ds.2⟩⟩⟩
  case rest =>
  obtain ⟨rfl, HC⟩ := hcut; obtain ⟨D, hD, hkd, hok⟩ := HC.out; have hD2 := hD; obtain ⟨b4, q4⟩ : ∃ q, (D.kind == 4) = q := ⟨_, rfl⟩; have e0 : wc.cell? ⟨w0.heap.size, 0, none⟩ = some (iv D.kind) := hD.d.cellv 0 _ rfl; have H5 := Kp.mk hD; have HO := Kp.mk hok; clear hD hD2 hok HC hkd
  go_upto_if 42 with fail
  go_cut [6] (fun sv wx => ∃ kb : ByteArray, sv = .string kb ∧ kb.size ≤ 32 ∧ Kp (DA w wx w.heap.size w0.heap.size rb s D R))
  case first =>
    cases b4 with
    | false =>
      go_wp2_with fail; go_meet; exact ⟨_, rfl, HK.out.2.2.2.2.2.2.1, H5⟩
    | true =>
      have c1 : wc.cell? ⟨rb, 1, none⟩ = some (.string R.sc) := H5.out.r.cellv 1 _ rfl; have e1 : wc.cell? ⟨w0.heap.size, 1, none⟩ = some (.string D.nonce) := H5.out.d.cellv 1 _ rfl; have e5 : wc.cell? ⟨w0.heap.size, 5, none⟩ = some (uv D.session) := H5.out.d.cellv 5 _ rfl; have e7 : wc.cell? ⟨w0.heap.size, 7, none⟩ = some (.string D.salt) := H5.out.d.cellv 7 _ rfl; obtain ⟨KY, hKY⟩ : ∃ q, keyB R.sc D.nonce D.salt D.session = q := ⟨_, rfl⟩; have HKY : Kp (KY.size ≤ 32) := ⟨by rw [← hKY, keyB_size]; omega⟩; have HEI := Kp.mk (fun w => reight_c D.session w)
      have HDR : Kp (∀ w' : World, wc.grownBy w' none → ∀ {b : Nat}, Strs w' (some ⟨b, 0, none⟩) 3 [D.nonce, D.salt, eiB D.session] → Calls prog 56 #[.string R.sc, .string { data := #[115, 101, 115, 115, 105, 111, 110] }, .slice (some ⟨b, 0, none⟩) 3 3] w' fun e w2 => e = .returned (.string KY) ∧ w'.grownBy w2 none) := ⟨fun w' g b hs => by
        rw [← hKY]; unfold keyB
        exact rderive_any R.sc sesU _ 3 3 [D.nonce, D.salt, eiB D.session] w' (H5.out.k.kept g) (gr_l g H5.out.h) hs (by have := HK.out.2.2.2.2.2.1; omega) (by
          rw [said3]; have h1 := HO.out.s.1; have h2 := HO.out.s.2.2.2.1; show 7 + 25 + D.nonce.size + D.salt.size + 8 ≤ _
          omega)⟩
      clear hKY; generalize hnv : D.nonce = nnV at HDR e1; generalize hsl : D.salt = slB at HDR e7; generalize hei : eiB D.session = eB at HDR HEI; go_wp2_with fail; refine region_Y (S := fun w' => wc.grownBy w' none) [] (by kernel_rfl) ?_; have hHeld := gr_drew wc none; refine yq 0 rfl ?_; simp only [Act.put, uz]; refine yq 1 rfl ?_; simp only [Act.put, uz]; refine yq 2 rfl ?_; simp only [Act.put, uz]; refine yq 3 rfl ?_; simp only [Act.put, uz]; refine yk 4 rfl ?_ (fun w hSw => by have k0 := hSw.cell c1 (by simp); go_simp; first | done | (with_reducible rfl)); simp only [Act.put, uz]; refine yq 5 rfl ?_; simp only [Act.put, uz]; refine yk 6 rfl ?_ (fun w hSw => by have k0 := hSw.cell e1 (by simp); go_simp; first | done | (with_reducible rfl)); simp only [Act.put, uz]; refine yq 7 rfl ?_; simp only [Act.put, uz]; refine yk 8 rfl ?_ (fun w hSw => by have k0 := hSw.cell e7 (by simp); go_simp; first | done | (with_reducible rfl)); simp only [Act.put, uz]; refine yq 9 rfl ?_; simp only [Act.put, uz]; refine yk 10 rfl ?_ (fun w hSw => by have k0 := hSw.cell e5 (by simp); go_simp; first | done | (with_reducible rfl)); simp only [Act.put, uz]; refine yo 11 (fun K hK => ?_) rfl; go_simp; refine (HEI.out _).mono ?_; rintro e w6 ⟨rfl, g60⟩; have g6 := Kp.mk (hHeld.trans g60); refine hK.out _ _ (fun q => q.trans g60) ?_; clear hK K g60; have hHeld := g6.out; refine yo 12 (fun K hK => ?_) rfl; go_simp; refine hK.out _ _ (fun q => q.trans (gAl _ _ _)) ?_; clear hK K; refine yo 13 (fun K hK => ?_) rfl; go_simp; refine (HDR.out _ (g6.out.trans (gAl _ _ _)) (strs_new w6 [nnV, slB, eB])).mono ?_; rintro e w7 ⟨rfl, g7⟩; have G7 := Kp.mk ((g6.out.trans (gAl w6 (.cells ([nnV, slB, eB].map Value.string).toArray 9) none)).trans g7); refine hK.out _ _ (fun q => q.trans g7) ?_; clear hK K g7; refine yo 14 (fun K hK => ?_) rfl; go_simp; refine hK.out _ _ (fun h => h) ?_; clear hK K; refine yd ?_; have H7 := Kp.mk (H5.out.kept G7.out); clear c1 e1 e5 e7 G7 g6 hHeld HDR HEI hei H5; go_wp2_with fail; go_meet; exact ⟨_, rfl, HKY.out, H7⟩
  case rest =>
  obtain ⟨kb, rfl, hkb, H5b⟩ := hcut; have HKB := Kp.mk hkb; obtain ⟨b6, q6⟩ : ∃ q, (D.kind == 6) = q := ⟨_, rfl⟩; clear e0 q4 H5 hkb; have e0 : wc.cell? ⟨w0.heap.size, 0, none⟩ = some (iv D.kind) := H5b.out.d.cellv 0 _ rfl
  go_upto_if 59 with fail
  go_cut [7, 8] (fun sv su wx => Kp (∃ D : Dg, DA w wx w.heap.size w0.heap.size rb s D R ∧ Dok D))
  case first =>
    cases b6 with
    | false =>
      go_wp2_with fail; go_meet; exact ⟨⟨_, H5b.out, HO.out⟩⟩
    | true =>
      have HWR := Kp.mk (rwrite_c s.V s.a s.c wc HK.out.2.2.1.v (HK.out.2.2.2.1.kept H5b.out.g)); have hWl := wrV_len2 HK.out.2.2.1.v; obtain ⟨X, hX⟩ : ∃ q, wrV s.V = q := ⟨_, rfl⟩; rw [hX] at HWR hWl; obtain ⟨L, vd⟩ := X; have HWL : Kp ((⟨L.toArray⟩ : ByteArray).size ≤ 7000) := ⟨by show L.toArray.size ≤ _; rw [List.size_toArray]; exact hWl⟩; clear hX hWl; generalize (⟨L.toArray⟩ : ByteArray) = LB at HWR HWL
      go_wp2_with (first
        | (with_reducible show wpList _ _ _ ({ dst := _, op := Op.load 49 _, type := _, pos := _, after := _, guard := _ } :: _) _ _
           refine load_g rfl 49 _ rfl w.heap.size 21 rfl (s.V.cs s.a s.c) dvw (Stp.rV H5b.out.s) hdvw hdvr infoV ?_
           simp only [Act.put, uz]))
      refine HWR.out.mono ?_; rintro e w2 ⟨rfl, g2⟩; have H6 := Kp.mk (H5b.out.kept g2); clear g2 HWR e0; by_cases hz : vd = 0
      · (have q7 : (vd == 0) = true := by simp [hz]); have e13 : w2.cell? ⟨w0.heap.size, 13, none⟩ = some (.string D.data) := H6.out.d.cellv 13 _ rfl; have z13 := H6.out.d.frozen 13; have H7 : Kp (DA w (w2.setCell ⟨w0.heap.size, 13, none⟩ (.string LB)) w.heap.size w0.heap.size rb s { D with data := LB } R) := ⟨H6.out.over (H6.out.d.setCell 13 _) (gr_set _ _ _ _) HK.out.1 HK.out.2.1⟩; clear hz; go_wp2_with fail; go_meet; exact ⟨⟨_, H7.out, ⟨HO.out.f.k, HO.out.f.e, HO.out.f.s, HO.out.f.p, HO.out.f.q, HO.out.f.h, HO.out.f.t⟩, ⟨HO.out.s.1, HO.out.s.2.1, HO.out.s.2.2.1, HO.out.s.2.2.2.1, by show LB.size ≤ _; have := HWL.out; omega, HO.out.s.2.2.2.2.2⟩⟩⟩
      · (have q7 : (vd == 0) = false := by simp [hz]); clear hz; go_wp2_with fail; go_meet; exact ⟨⟨_, H6.out, HO.out⟩⟩
  case rest =>
  clear H5b HO e0 q6 D; obtain ⟨D, hD, hok⟩ := hcut.out; have e0 : wc.cell? ⟨w0.heap.size, 0, none⟩ = some (iv D.kind) := hD.d.cellv 0 _ rfl; have H6 := Kp.mk hD; have HO := Kp.mk hok; clear hD hok hcut; by_cases hk12 : D.kind = 2 ∨ D.kind = 1
  · have HEN : Kp (CRt 55 #[dv D] wc (.tuple #[.string (ba (enc D).1), .int .i64 (enc D).2])) := ⟨renc_c D HO.out.f HO.out.small wc⟩; have hsz := enc_sz D; generalize ba (enc D).1 = eB at HEN hsz; generalize (enc D).2 = eC at HEN; have HSZ : Kp (eB.size ≤ 1200) := ⟨hsz⟩; unfold dv at HEN; clear hsz; rcases hk12 with k | k
    · (have q2 : (D.kind == 2) = true := by simp [k]); clear k
      go_wp2_with (first
        | (with_reducible show wpList _ _ _ ({ dst := _, op := Op.load 34 _, type := _, pos := _, after := _, guard := _ } :: _) _ _
           refine load_g rfl 34 _ rfl w0.heap.size 0 rfl D.cells du H6.out.d.range hdu hdr info26 ?_
           simp only [Act.put, uz]))
      refine HEN.out.mono ?_; rintro e w2 ⟨rfl, g2⟩; have G2 := Kp.mk (H6.out.g.trans g2); clear g2 HEN; go_wp2_with fail; go_ret; exact ⟨_, rfl, by have := HSZ.out; omega, G2.out⟩
    · (have q2 : (D.kind == 2) = false := by simp [k]); (have q1 : (D.kind == 1) = true := by simp [k]); clear k
      go_wp2_with (first
        | (with_reducible show wpList _ _ _ ({ dst := _, op := Op.load 34 _, type := _, pos := _, after := _, guard := _ } :: _) _ _
           refine load_g rfl 34 _ rfl w0.heap.size 0 rfl D.cells du H6.out.d.range hdu hdr info26 ?_
           simp only [Act.put, uz]))
      refine HEN.out.mono ?_; rintro e w2 ⟨rfl, g2⟩; have G2 := Kp.mk (H6.out.g.trans g2); clear g2 HEN; go_wp2_with fail; go_ret; exact ⟨_, rfl, by have := HSZ.out; omega, G2.out⟩
  have q2 : (D.kind == 2) = false := by simp; exact fun e => hk12 (.inl e)
  have q1 : (D.kind == 1) = false := by simp; exact fun e => hk12 (.inr e)
  have HSL : Kp (CRt 59 #[dv D, .string kb] wc (.tuple #[.string (sealD D kb).1, .int .i64 (sealD D kb).2])) := ⟨rseal_c D kb HO.out.f HO.out.small wc H6.out.k H6.out.h (by have := HKB.out; omega)⟩; have hsz := seal_sz D kb; generalize sealD D kb = X at HSL hsz; obtain ⟨tx, tc⟩ := X; have hsz : tx.size ≤ 1300 := hsz; obtain ⟨N, hN⟩ : ∃ N, tx.size = N := ⟨_, rfl⟩; have HN : Kp (tx.size = N ∧ N ≤ 1300) := ⟨hN, by omega⟩; unfold dv at HSL; clear hk12 hsz
  go_wp2_with (first
    | (with_reducible show wpList _ _ _ ({ dst := _, op := Op.load 34 _, type := _, pos := _, after := _, guard := _ } :: _) _ _
       refine load_g rfl 34 _ rfl w0.heap.size 0 rfl D.cells du H6.out.d.range hdu hdr info26 ?_
       simp only [Act.put, uz]))
  refine HSL.out.mono ?_; rintro e w2 ⟨rfl, g2⟩; have H7 := Kp.mk (H6.out.kept g2); clear g2 HSL e0 H6; have s38 : w2.cell? ⟨w.heap.size, 38, none⟩ = some (iv s.byte) := H7.out.s.cellv 38 _ rfl; by_cases hb0 : 0 ≤ s.byte; rotate_left
  · have t1 : decide (0 ≤ s.byte) = false := decide_eq_false hb0; have t2 : ¬ 0 ≤ s.byte := hb0; go_wp2_with fail; go_ret; exact ⟨_, rfl, by have := HN.out; omega, H7.out.g⟩
  obtain ⟨pp, hpp⟩ : ∃ pp : Nat, s.byte = (pp : Int) := ⟨s.byte.toNat, by omega⟩; rw [hpp] at s38; have t1 : decide (0 ≤ (pp : Int)) = true := decide_eq_true (by omega); clear hb0 hpp; by_cases hbN : pp < N; rotate_left
  · have t2 : decide ((pp : Int) < (N : Int)) = false := decide_eq_false (by omega); have t3 : decide (pp < N) = false := decide_eq_false hbN; (have t4 : ¬ (pp : Int) < (N : Int) := by omega); have t5 : decide ((pp : Int) < (tx.size : Int)) = false := decide_eq_false (by rw [hN]; omega); have t6 : decide (pp < tx.size) = false := decide_eq_false (by rw [hN]; exact hbN); (have t7 : ¬ pp < tx.size := by rw [hN]; exact hbN); go_wp2_with fail; go_ret; exact ⟨_, rfl, by have := HN.out; omega, H7.out.g⟩
  have t2 : decide ((pp : Int) < (N : Int)) = true := decide_eq_true (by omega); have t3 : decide (pp < N) = true := decide_eq_true hbN; have t4 : (pp : Int) < (N : Int) := by omega
  have t5 : decide ((pp : Int) < (tx.size : Int)) = true := decide_eq_true (by rw [hN]; omega); have t6 : decide (pp < tx.size) = true := decide_eq_true (by rw [hN]; exact hbN); have t7 : pp < tx.size := by rw [hN]; exact hbN
  obtain ⟨x, hx⟩ : ∃ x, (sl tx)[pp]? = some x := ⟨_, List.getElem?_eq_getElem (by rw [sl_len, hN]; omega)⟩; obtain ⟨u, hu⟩ : ∃ u, x + 1 = u := ⟨_, rfl⟩
  have hadd : IntKind.u8.wrap ((x.toNat : Int) + 1) = (u.toNat : Int) := by
    rw [← hu, UInt8.toNat_add]; have : IntKind.u8.wrap ((x.toNat : Int) + 1) = ((x.toNat : Int) + 1) % 256 := rfl; rw [this]; show _ = (((x.toNat + 1) % 256 : Nat) : Int); omega
  have hcvt : (convert 9 60 (.string tx)).run prog w2 = .ok (.slice (some ⟨w2.heap.size, 0, none⟩) tx.size (grownCap w2 tx.size 0 5)) (Lib.bytesWorld w2 5 tx) := Lib.run_convert_string_bytes (P := prog) w2 9 60 5 tx (u := .string) under9 under28 under5; obtain ⟨wb, hwb⟩ : ∃ q, Lib.bytesWorld w2 5 tx = q := ⟨_, rfl⟩; obtain ⟨bk, hbk⟩ : ∃ q, w2.heap.size = q := ⟨_, rfl⟩; obtain ⟨cap, hcap⟩ : ∃ q, grownCap w2 tx.size 0 5 = q := ⟨_, rfl⟩; have HW : Kp (Wb wb bk (sl tx) ∧ w2.grownBy wb none ∧ N ≤ cap) := ⟨by rw [← hwb, ← hbk]; exact Wb.new _ tx, by rw [← hwb]; exact gr_bytes _ tx, by rw [← hcap, ← hN]; exact grownCap_ge _ _ _ _⟩; have HBK : Kp (w2.heap.size ≤ bk) := ⟨by omega⟩; rw [hwb, hbk, hcap, hN] at hcvt; have b38 : wb.cell? ⟨w.heap.size, 38, none⟩ = some (.int .i64 (pp : Int)) := HW.out.2.1.cell s38 (by simp); have xc : wb.cell? ⟨bk, pp, none⟩ = some (.int .u8 (x.toNat : Int)) := HW.out.1.at_ pp x hx; have xz : wb.frozen? ⟨bk, pp, none⟩ = false := HW.out.1.fz pp (List.getElem?_eq_some_iff.1 hx).1; obtain ⟨we, hwe⟩ : ∃ q, wb.setCell ⟨bk, pp, none⟩ (.int .u8 (u.toNat : Int)) = q := ⟨_, rfl⟩; have HE : Kp (Wb we bk ((sl tx).set pp u) ∧ w.grownBy we none) := ⟨by rw [← hwe]; exact HW.out.1.set pp u, by rw [← hwe]; exact gr_new (H7.out.g.trans HW.out.2.1) (gr_set _ _ _ _) (by have := HBK.out; have := H7.out.g.size; omega)⟩; obtain ⟨t2', ht2⟩ : ∃ q, ba ((sl tx).set pp u) = q := ⟨_, rfl⟩
  have hcv2 : (convert 60 9 (.slice (some ⟨bk, 0, none⟩) N cap)).run prog we = .ok (.string t2') we := by
    have h := HE.out.1.bytes N cap (by rw [List.length_set, sl_len, hN]) HW.out.2.2; rw [ht2] at h; exact h
  have HT : Kp (t2'.size ≤ 1048576) := ⟨by rw [← ht2, ba_size, List.length_set, sl_len]; have := HN.out; omega⟩; clear hwb hbk hcap hx hu ht2 hN; go_wp2_with fail; go_ret; exact ⟨_, rfl, HT.out, HE.out.2⟩
open Go.ChangeShapes Go.WideShapes Go.ChangeAt
abbrev I64 (x : Int) : Prop := -9223372036854775808 ≤ x ∧ x ≤ 9223372036854775807
theorem laidOut : laidOutB prog = true := by kernel_rfl
def Ls {α : Type} (ec : α → List Value) (k : Nat) (W : World) (v : Value) (L : List α) : Prop := ∃ a c, v = .slice a L.length c ∧ (0 < L.length → ∃ b o, a = some ⟨b, o, none⟩ ∧ ∀ j x, L[j]? = some x → W.rangeAt b (o + j * k) (ec x))
structure CrOk (c : Cr) : Prop where
  n : c.n.size ≤ 1048576
  p : I64 c.p
  x : I64 c.x
  y : I64 c.y
  u : I64 c.u
  v : I64 c.v
  h : I64 c.h
  he : I64 c.he
  en : I64 c.en
  am : I64 c.am
  co : I64 c.co
  wt : I64 c.wt
  sp : I64 c.sp
  sc : I64 c.sc
structure SnOk (s : Sn) : Prop where
  k : I64 s.k
  i : I64 s.i
  x : I64 s.x
  y : I64 s.y
  h : I64 s.h
theorem in_wf {x : Int} (h : (Lit.int .i64 x).wf = true) : I64 x := by
  have h2 : IntKind.i64.min ≤ x ∧ x ≤ IntKind.i64.max := by simpa [Lit.wf] using h
  have e1 : IntKind.i64.min = -9223372036854775808 := by decide
  have e2 : IntKind.i64.max = 9223372036854775807 := by decide
  rw [e1, e2] at h2; exact h2
theorem in_u64 {a : Int} (h : (Lit.int .u64 a).wf = true) : 0 ≤ a ∧ a ≤ 18446744073709551615 := by
  have m1 : IntKind.u64.min = 0 := by decide
  have m2 : IntKind.u64.max = 18446744073709551615 := by decide
  simp [Lit.wf, m1, m2] at h; omega
theorem kc2 : prog.cellsOf 2 = 1 := by kernel_rfl
theorem kc3 : prog.cellsOf 3 = 1 := by kernel_rfl
theorem kc9 : prog.cellsOf 9 = 1 := by kernel_rfl
theorem kc26 : prog.cellsOf 26 = 1 := by kernel_rfl
theorem kcV : prog.cellsOf 44 = 2 := by kernel_rfl
theorem kcC : prog.cellsOf 46 = 14 := by kernel_rfl
theorem kcL : prog.cellsOf 47 = 1 := by kernel_rfl
theorem kcS : prog.cellsOf 98 = 5 := by kernel_rfl
theorem tf {H : Type} {enc : TypeId × Value → H} {W : World} {n ty k off : Nat} {l : List Value} {y : DataW H × List MemPlace} (hk : prog.cellsOf ty = k) (h : DataW.trod enc prog W 0 (fun _ => true) true n ty (List.take (prog.cellsOf ty) (List.drop off l)) = some y) : DataW.trod enc prog W 0 (fun _ => true) true n ty (List.take k (List.drop off l)) = some y := by
  rw [hk] at h; exact h
theorem vec_cells {H : Type} {enc : TypeId × Value → H} {W : World} {fuel : Nat} {c0 c1 : Value} {x : DataW H × List MemPlace} (hf : DataW.trod enc prog W 0 (fun _ => true) true fuel 44 [c0, c1] = some x) :
    ∃ a b : Int, c0 = .int .i64 a ∧ c1 = .int .i64 b ∧ I64 a ∧ I64 b := by
  obtain ⟨xs, n, _, hx, hlen, hxl, hfl⟩ := DataW.trod_struct underlying44 hf
  match xs, (show xs.length = 2 from hxl) with
  | [y0, y1], _ =>
  have t0 := tf kc2 (hfl 0 _ rfl); have t1 := tf kc2 (hfl 1 _ rfl); obtain ⟨x0, e0, f0, m0⟩ := DataW.trod_int underlying2 t0; obtain rfl : c0 = _ := by simpa using e0
  obtain ⟨x1, e1, f1, m1⟩ := DataW.trod_int underlying2 t1; obtain rfl : c1 = _ := by simpa using e1
  exact ⟨x0, x1, rfl, rfl, in_wf m0, in_wf m1⟩
theorem bulk_one {H : Type} (d : DataW H) : 1 ≤ Rows.uptoBulk d := by
  cases d with
  | lit l => cases l <;> simp [Rows.uptoBulk]
  | nil => simp [Rows.uptoBulk]
  | ptr d => simp [Rows.uptoBulk]
  | slice e s => simp [Rows.uptoBulk]
  | agg p => simp [Rows.uptoBulk]
  | iface t d => simp [Rows.uptoBulk]
  | map e => simp [Rows.uptoBulk]
  | held h => simp [Rows.uptoBulk]
theorem bulk_len {H : Type} (l : List (DataW H)) : l.length ≤ Rows.uptoBulkAll l := by
  induction l with
  | nil => simp
  | cons x r ih => have := bulk_one x; simp only [Rows.uptoBulkAll, List.length_cons]; omega
theorem bulk_mem {H : Type} : ∀ {l : List (DataW H)} {d : DataW H}, d ∈ l → Rows.uptoBulk d ≤ Rows.uptoBulkAll l
  | [], _, h => by cases h
  | x :: r, d, h => by
    simp only [Rows.uptoBulkAll]; rcases List.mem_cons.1 h with rfl | h
    · omega
    · have := bulk_mem h; omega
theorem car_cells {H : Type} {enc : TypeId × Value → H} {W : World} {fuel : Nat} {l : List Value} {d : DataW H} {pl : List MemPlace} (hf : DataW.trod enc prog W 0 (fun _ => true) true fuel 46 l = some (d, pl)) (hb : Rows.uptoBulk d ≤ 1048576) : ∃ c : Cr, l = crv c ∧ CrOk c := by
  obtain ⟨xs, n, _, hx, hlen0, hxl, hfl⟩ := DataW.trod_struct underlying46 hf; have hlen : l.length = 14 := hlen0.trans (by kernel_rfl); clear hf hlen0
  match l, hlen with
  | [c0, c1, c2, c3, c4, c5, c6, c7, c8, c9, c10, c11, c12, c13], _ =>
  match xs, (show xs.length = 12 from hxl) with
  | [y0, y1, y2, y3, y4, y5, y6, y7, y8, y9, y10, y11], _ =>
  have t0 := tf kc3 (hfl 0 _ rfl); have t1 := tf kc9 (hfl 1 _ rfl); have t2 := tf kcV (hfl 2 _ rfl); have t3 := tf kcV (hfl 3 _ rfl); have t4 := tf kc3 (hfl 4 _ rfl); have t5 := tf kc3 (hfl 5 _ rfl); have t6 := tf kc3 (hfl 6 _ rfl); have t7 := tf kc3 (hfl 7 _ rfl); have t8 := tf kc3 (hfl 8 _ rfl); have t9 := tf kc3 (hfl 9 _ rfl); have t10 := tf kc3 (hfl 10 _ rfl); have t11 := tf kc3 (hfl 11 _ rfl); obtain ⟨x0, e0, f0, m0⟩ := DataW.trod_int underlying3 t0; obtain rfl : c0 = _ := by simpa using e0
  obtain ⟨x1, e1, f1, m1⟩ := DataW.trod_string underlying9 t1; obtain rfl : c1 = _ := by simpa using e1
  obtain ⟨a2, b2, rfl, rfl, g2, h2⟩ := vec_cells t2; obtain ⟨a3, b3, rfl, rfl, g3, h3⟩ := vec_cells t3; obtain ⟨x4, e4, f4, m4⟩ := DataW.trod_int underlying3 t4; obtain rfl : c6 = _ := by simpa using e4
  obtain ⟨x5, e5, f5, m5⟩ := DataW.trod_int underlying3 t5; obtain rfl : c7 = _ := by simpa using e5
  obtain ⟨x6, e6, f6, m6⟩ := DataW.trod_int underlying3 t6; obtain rfl : c8 = _ := by simpa using e6
  obtain ⟨x7, e7, f7, m7⟩ := DataW.trod_int underlying3 t7; obtain rfl : c9 = _ := by simpa using e7
  obtain ⟨x8, e8, f8, m8⟩ := DataW.trod_int underlying3 t8; obtain rfl : c10 = _ := by simpa using e8
  obtain ⟨x9, e9, f9, m9⟩ := DataW.trod_int underlying3 t9; obtain rfl : c11 = _ := by simpa using e9
  obtain ⟨x10, e10, f10, m10⟩ := DataW.trod_int underlying3 t10; obtain rfl : c12 = _ := by simpa using e10
  obtain ⟨x11, e11, f11, m11⟩ := DataW.trod_int underlying3 t11; obtain rfl : c13 = _ := by simpa using e11
  have hd : d = .agg [y0.1, y1.1, y2.1, y3.1, y4.1, y5.1, y6.1, y7.1, y8.1, y9.1, y10.1, y11.1] := congrArg Prod.fst hx; rw [hd] at hb; simp only [Rows.uptoBulk, Rows.uptoBulkAll, f1] at hb; have e : x1.data.toList.length = x1.size := by rw [Array.length_toList]; rfl
  exact ⟨⟨x0, x1, a2, b2, a3, b3, x4, x5, x6, x7, x8, x9, x10, x11⟩, rfl, ⟨by show x1.size ≤ _; omega, in_wf m0, g2, h2, g3, h3, in_wf m4, in_wf m5, in_wf m6, in_wf m7, in_wf m8, in_wf m9, in_wf m10, in_wf m11⟩⟩
theorem sn_cells {H : Type} {enc : TypeId × Value → H} {W : World} {fuel : Nat} {l : List Value} {d : DataW H} {pl : List MemPlace} (hf : DataW.trod enc prog W 0 (fun _ => true) true fuel 98 l = some (d, pl)) : ∃ c : Sn, l = Sn.cs c ∧ SnOk c := by
  obtain ⟨xs, n, _, hx, hlen0, hxl, hfl⟩ := DataW.trod_struct underlying98 hf; have hlen : l.length = 5 := hlen0.trans (by kernel_rfl); clear hf hlen0
  match l, hlen with
  | [c0, c1, c2, c3, c4], _ =>
  match xs, (show xs.length = 4 from hxl) with
  | [y0, y1, y2, y3], _ =>
  have t0 := tf kc3 (hfl 0 _ rfl); have t1 := tf kc3 (hfl 1 _ rfl); have t2 := tf kcV (hfl 2 _ rfl); have t3 := tf kc3 (hfl 3 _ rfl); obtain ⟨x0, e0, f0, m0⟩ := DataW.trod_int underlying3 t0; obtain rfl : c0 = _ := by simpa using e0
  obtain ⟨x1, e1, f1, m1⟩ := DataW.trod_int underlying3 t1; obtain rfl : c1 = _ := by simpa using e1
  obtain ⟨a2, b2, rfl, rfl, g2, h2⟩ := vec_cells t2; obtain ⟨x3, e3, f3, m3⟩ := DataW.trod_int underlying3 t3; obtain rfl : c4 = _ := by simpa using e3
  have _hd : d = .agg [y0.1, y1.1, y2.1, y3.1] := congrArg Prod.fst hx; exact ⟨⟨x0, x1, a2, b2, x3⟩, rfl, ⟨in_wf m0, in_wf m1, g2, h2, in_wf m3⟩⟩
instance : Inhabited Sn := ⟨⟨0, 0, 0, 0, 0⟩⟩
theorem lst_cells {α : Type} [Inhabited α] {ec : α → List Value} {k : Nat} {t e : TypeId} {Ok : α → Prop} (ht : prog.underlying t = some (.slice e)) (hk : prog.cellsOf e = k) (hkpos : 0 < k) (hkl : ∀ x, (ec x).length = k) {H : Type} {enc : TypeId × Value → H} {W : World} {fuel : Nat} {l : List Value} {d : DataW H} {pl : List MemPlace}
    (hel : ∀ (fuel : Nat) (cs : List Value) (d' : DataW H) (pl' : List MemPlace), DataW.trod enc prog W 0 (fun _ => true) true fuel e cs = some (d', pl') → Rows.uptoBulk d' ≤ Rows.uptoBulk d → ∃ o, cs = ec o ∧ Ok o) (hf : DataW.trod enc prog W 0 (fun _ => true) true fuel t l = some (d, pl)) :
    ∃ v L, l = [v] ∧ Ls ec k W v L ∧ (∀ x ∈ L, Ok x) ∧ L.length + 1 ≤ Rows.uptoBulk d := by
  rcases Deep.open_slice ht hf with ⟨hcs, hx⟩ | ⟨a, len, cap, m, n, D, Pl, hcs, _, hl, hm, hmm, hx, hel2⟩
  · have hd : d = .nil := congrArg Prod.fst hx; subst hd; exact ⟨_, [], hcs, ⟨none, 0, rfl, fun h => by cases h⟩, fun o ho => (by cases ho), by simp [Rows.uptoBulk]⟩
  · simp only [if_true] at hmm; have hd : d = .slice ((List.range len).map D) ((List.range (m - len)).map fun j => D (len + j)) := congrArg Prod.fst hx
    have hbd : ∀ i, i < len → Rows.uptoBulk (D i) ≤ Rows.uptoBulk d := fun i hi => by
      have := bulk_mem (List.mem_map.2 ⟨i, List.mem_range.2 hi, rfl⟩ : D i ∈ (List.range len).map D); rw [hd]; simp only [Rows.uptoBulk]; omega
    have each : ∀ i, i < len → ∃ o : α, Ok o ∧ ∀ j v, (ec o)[j]? = some v → W.cell? (a.add (i * k + j)) = some v := by
      intro i hi; obtain ⟨cs', h1, h2⟩ := hel2 i (by omega); rw [hk] at h1; obtain ⟨_, hlen, hcell⟩ := World.cells?_some h1; obtain ⟨c, rfl, h3⟩ := hel _ _ _ _ h2 (hbd i hi); refine ⟨c, h3, fun j v hv => ?_⟩; have hj : j < k := by have := (List.getElem?_eq_some_iff.1 hv).1; rw [hkl] at this; exact this
      have g := hcell j (by simpa [hkl] using hj); rw [Deep.add_add] at g; rw [g]; exact hv
    have hq0 : ∀ i, ∃ o : α, i < len → Ok o ∧ ∀ j v, (ec o)[j]? = some v → W.cell? (a.add (i * k + j)) = some v := fun i => by
      by_cases hi : i < len
      · obtain ⟨o, ho⟩ := each i hi; exact ⟨o, fun _ => ho⟩
      · exact ⟨default, fun q => absurd q hi⟩
    obtain ⟨q, hq⟩ := Classical.axiomOfChoice hq0; subst hd; refine ⟨_, (List.range len).map q, hcs, ⟨some a, cap, by simp, fun hn => ?_⟩, fun o ho => ?_, ?_⟩
    · (have hn : 0 < len := by simpa using hn); obtain ⟨b, off, spot⟩ := a; by_cases hk0 : 0 < k
      · have hspot : spot = none := by
          have h0 : 0 < (ec (q 0)).length := by rw [hkl]; exact hk0
          simpa [Addr.add] using World.cell?_spot ((hq 0 (by omega)).2 0 _ (List.getElem?_eq_getElem h0))
        subst hspot; refine ⟨b, off, rfl, fun j o hj => ?_⟩
        have hj2 : j < len := by
          have := (List.getElem?_eq_some_iff.1 hj).1
          simpa using this
        have e : q j = o := by
          rw [List.getElem?_map, List.getElem?_range hj2] at hj
          simpa using hj
        have p := (hq j (by omega)).2; rw [e] at p; intro r v hv; have := p r v hv; rw [Addr.add_mid] at this; rw [Nat.add_assoc]; exact this
      · exact absurd hk0 (by
          have := hkpos
          omega)
    · obtain ⟨i, hi, rfl⟩ := List.mem_map.1 ho; exact (hq i (by have := List.mem_range.1 hi; omega)).1
    · have := bulk_len ((List.range len).map D); simp only [Rows.uptoBulk, List.length_map, List.length_range] at this ⊢; omega
theorem in_i {x : Int} (h : (Lit.int .i64 x).wf = true) : -9223372036854775808 ≤ x ∧ x < 9223372036854775808 := by
  have := in_wf h; exact ⟨this.1, by have := this.2; omega⟩
theorem kc4b : prog.cellsOf 4 = 1 := by kernel_rfl
theorem kcM : prog.cellsOf 29 = 4 := by kernel_rfl
theorem kcD : prog.cellsOf 34 = 15 := by kernel_rfl
theorem kcVw : prog.cellsOf 49 = 16 := by kernel_rfl
theorem kcA : prog.cellsOf 63 = 2 := by kernel_rfl
theorem kcP : prog.cellsOf 73 = 39 := by kernel_rfl
theorem in_un {a : Int} (h : (Lit.int .u64 a).wf = true) : ∃ n : Nat, a = (n : Int) ∧ n < 18446744073709551616 := ⟨a.toNat, by have := in_u64 h; omega, by have := in_u64 h; omega⟩
theorem vw_cells {H : Type} {enc : TypeId × Value → H} {W : World} {fuel : Nat} {l : List Value} {d : DataW H} {pl : List MemPlace} (hf : DataW.trod enc prog W 0 (fun _ => true) true fuel 49 l = some (d, pl)) (hb : Rows.uptoBulk d ≤ 1048576) :
    ∃ (V : Vw) (a : Option Addr) (c : Nat), l = V.cs a c ∧ V.ok ∧ SeenR W a V.S := by
  obtain ⟨xs, n, _, hx, hlen0, hxl, hfl⟩ := DataW.trod_struct underlying49 hf; have hlen : l.length = 16 := hlen0.trans (by kernel_rfl); clear hf hlen0
  match l, hlen with
  | [c0, c1, c2, c3, c4, c5, c6, c7, c8, c9, c10, c11, c12, c13, c14, c15], _ =>
  match xs, (show xs.length = 3 from hxl) with
  | [y0, y1, y2], _ =>
  have t0 := tf kc26 (hfl 0 _ rfl); have t1 := tf kcC (hfl 1 _ rfl); have t2 := tf kcL (hfl 2 _ rfl); obtain ⟨x0, e0, f0, m0⟩ := DataW.trod_int underlying26 t0; obtain rfl : c0 = _ := by simpa using e0
  have hd : d = .agg [y0.1, y1.1, y2.1] := congrArg Prod.fst hx; obtain ⟨y1d, y1p⟩ := y1; obtain ⟨y2d, y2p⟩ := y2; rw [hd] at hb; simp only [Rows.uptoBulk, Rows.uptoBulkAll] at hb; obtain ⟨c, hc, ok⟩ := car_cells t1 (by omega); obtain ⟨vs, LS, hvs, k1, k2, k3⟩ := lst_cells (α := Sn) (ec := Sn.cs) (k := 5) (Ok := SnOk) underSl kcS (by decide) (fun _ => rfl) (fun f cs d' pl' hq hb' => sn_cells hq) t2; obtain rfl : c15 = vs := by simpa using hvs
  have hc2 : [c1, c2, c3, c4, c5, c6, c7, c8, c9, c10, c11, c12, c13, c14] = crv c := by simpa using hc
  obtain ⟨a, cp, rfl, hL⟩ := k1; refine ⟨⟨x0, c.p, c.n, c.x, c.y, c.u, c.v, c.h, c.he, c.en, c.am, c.co, c.wt, c.sp, c.sc, LS⟩, a, cp, ?_, ⟨?_, ?_⟩, ?_⟩
  · show uv x0 :: [c1, c2, c3, c4, c5, c6, c7, c8, c9, c10, c11, c12, c13, c14] ++ [Value.slice a LS.length cp] = _; rw [hc2]; rfl
  · have i (x : Int) (h : I64 x) : -9223372036854775808 ≤ x ∧ x < 9223372036854775808 := ⟨h.1, by have := h.2; omega⟩; have ht := in_u64 m0; refine ⟨⟨ht.1, by show x0 < 18446744073709551616; have := ht.2; omega⟩, i _ ok.p, ?_, i _ ok.x, i _ ok.y, i _ ok.u, i _ ok.v, i _ ok.h, i _ ok.he, i _ ok.en, i _ ok.am, i _ ok.co, i _ ok.wt, i _ ok.sp, i _ ok.sc, ?_, trivial⟩
    · show (sl c.n).length ≤ _; rw [sl_len]; have := ok.n; omega
    · show -9223372036854775808 ≤ ((LS.length : Nat) : Int) ∧ ((LS.length : Nat) : Int) < 9223372036854775808; omega
  · intro s hs; have h := k2 s hs; have i (x : Int) (h : I64 x) : -9223372036854775808 ≤ x ∧ x < 9223372036854775808 := ⟨h.1, by have := h.2; omega⟩; exact ⟨i _ h.k, i _ h.i, i _ h.x, i _ h.y, i _ h.h, trivial⟩
  · intro hne; obtain ⟨b, o, e, hr⟩ := hL (List.length_pos_iff.2 hne); refine ⟨b, o, e, fun j s hj q z hz => ?_⟩; have := hr j s hj q z hz; rw [Nat.mul_comm j 5] at this; exact this
theorem dg_cells {H : Type} {enc : TypeId × Value → H} {W : World} {fuel : Nat} {l : List Value} {d : DataW H} {pl : List MemPlace} (hf : DataW.trod enc prog W 0 (fun _ => true) true fuel 34 l = some (d, pl)) (hb : Rows.uptoBulk d ≤ 1048576) : ∃ D : Dg, l = D.cells ∧ Dok D := by
  obtain ⟨xs, n, _, hx, hlen0, hxl, hfl⟩ := DataW.trod_struct underlying34 hf; have hlen : l.length = 15 := hlen0.trans (by kernel_rfl); clear hf hlen0
  match l, hlen with
  | [c0, c1, c2, c3, c4, c5, c6, c7, c8, c9, c10, c11, c12, c13, c14], _ =>
  match xs, (show xs.length = 12 from hxl) with
  | [y0, y1, y2, y3, y4, y5, y6, y7, y8, y9, y10, y11], _ =>
  have t0 := tf kc3 (hfl 0 _ rfl); have t1 := tf kc9 (hfl 1 _ rfl); have t2 := tf kc26 (hfl 2 _ rfl); have t3 := tf kc9 (hfl 3 _ rfl); have t4 := tf kc9 (hfl 4 _ rfl); have t5 := tf kc26 (hfl 5 _ rfl); have t6 := tf kc3 (hfl 6 _ rfl); have t7 := tf kc9 (hfl 7 _ rfl); have t8 := tf kc26 (hfl 8 _ rfl); have t9 := tf kcM (hfl 9 _ rfl); have t10 := tf kc9 (hfl 10 _ rfl); have t11 := tf kc9 (hfl 11 _ rfl); obtain ⟨x0, e0, f0, m0⟩ := DataW.trod_int underlying3 t0; obtain rfl : c0 = _ := by simpa using e0
  obtain ⟨x1, e1, f1, m1⟩ := DataW.trod_string underlying9 t1; obtain rfl : c1 = _ := by simpa using e1
  obtain ⟨x2, e2, f2, m2⟩ := DataW.trod_int underlying26 t2; obtain rfl : c2 = _ := by simpa using e2
  obtain ⟨n2, rfl, b2⟩ := in_un m2; obtain ⟨x3, e3, f3, m3⟩ := DataW.trod_string underlying9 t3; obtain rfl : c3 = _ := by simpa using e3
  obtain ⟨x4, e4, f4, m4⟩ := DataW.trod_string underlying9 t4; obtain rfl : c4 = _ := by simpa using e4
  obtain ⟨x5, e5, f5, m5⟩ := DataW.trod_int underlying26 t5; obtain rfl : c5 = _ := by simpa using e5
  obtain ⟨n5, rfl, b5⟩ := in_un m5; obtain ⟨x6, e6, f6, m6⟩ := DataW.trod_int underlying3 t6; obtain rfl : c6 = _ := by simpa using e6
  obtain ⟨x7, e7, f7, m7⟩ := DataW.trod_string underlying9 t7; obtain rfl : c7 = _ := by simpa using e7
  obtain ⟨x8, e8, f8, m8⟩ := DataW.trod_int underlying26 t8; obtain rfl : c8 = _ := by simpa using e8
  obtain ⟨n8, rfl, b8⟩ := in_un m8; obtain ⟨cm, hcm, okm⟩ := cm_open (d := y9.1) (pl := y9.2) t9; have hcm : [c9, c10, c11, c12] = cm.cs := by simpa using hcm
  obtain ⟨ct, cu, cf, cb⟩ := cm; simp only [Cm.cs, List.cons.injEq, and_true] at hcm; obtain ⟨rfl, rfl, rfl, rfl⟩ := hcm; obtain ⟨x10, e10, f10, m10⟩ := DataW.trod_string underlying9 t10; obtain rfl : c13 = _ := by simpa using e10
  obtain ⟨x11, e11, f11, m11⟩ := DataW.trod_string underlying9 t11; obtain rfl : c14 = _ := by simpa using e11
  have hd : d = .agg [y0.1, y1.1, y2.1, y3.1, y4.1, y5.1, y6.1, y7.1, y8.1, y9.1, y10.1, y11.1] := congrArg Prod.fst hx; rw [hd] at hb; simp only [Rows.uptoBulk, Rows.uptoBulkAll, f1, f3, f4, f7, f10, f11] at hb; have g1 : x1.data.toList.length = x1.size := by rw [Array.length_toList]; rfl
  have g3 : x3.data.toList.length = x3.size := by rw [Array.length_toList]; rfl
  have g4 : x4.data.toList.length = x4.size := by rw [Array.length_toList]; rfl
  have g7 : x7.data.toList.length = x7.size := by rw [Array.length_toList]; rfl
  have g10 : x10.data.toList.length = x10.size := by rw [Array.length_toList]; rfl
  have g11 : x11.data.toList.length = x11.size := by rw [Array.length_toList]; rfl
  exact ⟨⟨x0, x1, n2, x3, x4, n5, x6, x7, n8, ct, cu, cf, cb, x10, x11⟩, rfl, ⟨in_i m0, b2, b5, in_i m6, b8, okm.t, okm.u⟩, ⟨by show x1.size ≤ _; omega, by show x3.size ≤ _; omega, by show x4.size ≤ _; omega, by show x7.size ≤ _; omega, by show x10.size ≤ _; omega, by show x11.size ≤ _; omega⟩⟩
instance : Inhabited Stp := ⟨⟨0, nob, 0, 0, false, false, Dg.zero 0, Vw.zero, none, 0, false, 0⟩⟩
def StpOk (W : World) (s : Stp) : Prop := s.ok ∧ SeenR W s.a s.V.S
theorem st_cells {H : Type} {enc : TypeId × Value → H} {W : World} {fuel : Nat} {l : List Value} {d : DataW H} {pl : List MemPlace} (hf : DataW.trod enc prog W 0 (fun _ => true) true fuel 73 l = some (d, pl)) (hb : Rows.uptoBulk d ≤ 1048576) : ∃ s : Stp, l = s.cs ∧ StpOk W s := by
  obtain ⟨xs, n, _, hx, hlen0, hxl, hfl⟩ := DataW.trod_struct underlying73 hf; have hlen : l.length = 39 := hlen0.trans (by kernel_rfl); clear hf hlen0
  match l, hlen with
  | c0 :: c1 :: c2 :: c3 :: c4 :: c5 :: c6 :: c7 :: c8 :: c9 :: c10 :: c11 :: c12 :: c13 :: c14 :: c15 :: c16 :: c17 :: c18 :: c19 :: c20 :: c21 :: c22 :: c23 :: c24 :: c25 :: c26 :: c27 :: c28 :: c29 :: c30 :: c31 :: c32 :: c33 :: c34 :: c35 :: c36 :: c37 :: c38 :: [], _ =>
  match xs, (show xs.length = 7 from hxl) with
  | [y0, y1, y2, y3, y4, y5, y6], _ =>
  have t0 := tf kc3 (hfl 0 _ rfl); have t1 := tf kc9 (hfl 1 _ rfl); have t2 := tf kcM (hfl 2 _ rfl); have t3 := tf kcD (hfl 3 _ rfl); have t4 := tf kcVw (hfl 4 _ rfl); have t5 := tf kc4b (hfl 5 _ rfl); have t6 := tf kc3 (hfl 6 _ rfl); have hd : d = .agg [y0.1, y1.1, y2.1, y3.1, y4.1, y5.1, y6.1] := congrArg Prod.fst hx; obtain ⟨x0, e0, f0, m0⟩ := DataW.trod_int underlying3 t0; obtain rfl : c0 = _ := by simpa using e0
  obtain ⟨x1, e1, f1, m1⟩ := DataW.trod_string underlying9 t1; obtain rfl : c1 = _ := by simpa using e1
  rw [hd] at hb; simp only [Rows.uptoBulk, Rows.uptoBulkAll, f1] at hb; have g1 : x1.data.toList.length = x1.size := by rw [Array.length_toList]; rfl
  obtain ⟨⟨ct, cu, cf, cb⟩, hcm, okm⟩ := cm_open (d := y2.1) (pl := y2.2) t2; have hcm : [c2, c3, c4, c5] = Cm.cs ⟨ct, cu, cf, cb⟩ := by simpa using hcm
  simp only [Cm.cs, List.cons.injEq, and_true] at hcm; obtain ⟨rfl, rfl, rfl, rfl⟩ := hcm; obtain ⟨D, hD, okD⟩ := dg_cells (d := y3.1) (pl := y3.2) t3 (by omega); have hD2 : [c6, c7, c8, c9, c10, c11, c12, c13, c14, c15, c16, c17, c18, c19, c20] = D.cells := by simpa using hD
  obtain ⟨V, a, c, hV, okV, hS⟩ := vw_cells (d := y4.1) (pl := y4.2) t4 (by omega); have hV2 : [c21, c22, c23, c24, c25, c26, c27, c28, c29, c30, c31, c32, c33, c34, c35, c36] = V.cs a c := by simpa using hV
  obtain ⟨x5, e5, f5, _⟩ := DataW.trod_bool under4b t5; obtain rfl : c37 = _ := by simpa using e5
  obtain ⟨x6, e6, f6, m6⟩ := DataW.trod_int underlying3 t6; obtain rfl : c38 = _ := by simpa using e6
  refine ⟨⟨x0, x1, ct, cu, cf, cb, D, V, a, c, x5, x6⟩, ?_, ⟨in_i m0, by show x1.size ≤ _; omega, okm.t, okm.u, okD.f, okD.s, okV, in_i m6⟩, hS⟩; show [iv x0, .string x1, .int .i64 ct, .int .i64 cu, .bool cf, .bool cb] ++ ([c6, c7, c8, c9, c10, c11, c12, c13, c14, c15, c16, c17, c18, c19, c20] ++ ([c21, c22, c23, c24, c25, c26, c27, c28, c29, c30, c31, c32, c33, c34, c35, c36] ++ [.bool x5, iv x6])) = _; rw [hD2, hV2, Stp.cs_D]
theorem ac_cells {H : Type} {enc : TypeId × Value → H} {W : World} {fuel : Nat} {l : List Value} {d : DataW H} {pl : List MemPlace} (hf : DataW.trod enc prog W 0 (fun _ => true) true fuel 63 l = some (d, pl)) (hb : Rows.uptoBulk d ≤ 1048576) : ∃ a b : ByteArray, l = [.string a, .string b] ∧ a.size ≤ 1048576 ∧ b.size ≤ 1048576 := by
  obtain ⟨xs, n, _, hx, hlen0, hxl, hfl⟩ := DataW.trod_struct underlying63 hf; have hlen : l.length = 2 := hlen0.trans (by kernel_rfl); clear hf hlen0
  match l, hlen with
  | [c0, c1], _ =>
  match xs, (show xs.length = 2 from hxl) with
  | [y0, y1], _ =>
  have t0 := tf kc9 (hfl 0 _ rfl); have t1 := tf kc9 (hfl 1 _ rfl); obtain ⟨x0, e0, f0, m0⟩ := DataW.trod_string underlying9 t0; obtain rfl : c0 = _ := by simpa using e0
  obtain ⟨x1, e1, f1, m1⟩ := DataW.trod_string underlying9 t1; obtain rfl : c1 = _ := by simpa using e1
  have hd : d = .agg [y0.1, y1.1] := congrArg Prod.fst hx; rw [hd] at hb; simp only [Rows.uptoBulk, Rows.uptoBulkAll, f0, f1] at hb; have g0 : x0.data.toList.length = x0.size := by rw [Array.length_toList]; rfl
  have g1 : x1.data.toList.length = x1.size := by rw [Array.length_toList]; rfl
  exact ⟨x0, x1, rfl, by omega, by omega⟩
theorem side_cells {H : Type} {enc : TypeId × Value → H} {W : World} {fuel : Nat} {l : List Value} {d : DataW H} {pl : List MemPlace} (hf : DataW.trod enc prog W 0 (fun _ => true) true fuel 65 l = some (d, pl)) (hb : Rows.uptoBulk d ≤ 1048576) : ∃ a b c : ByteArray, l = [.string a, .string b, .string c] ∧ a.size ≤ 1048576 ∧ b.size ≤ 1048576 ∧ c.size ≤ 1048576 := by
  obtain ⟨xs, n, _, hx, hlen0, hxl, hfl⟩ := DataW.trod_struct underlying65 hf; have hlen : l.length = 3 := hlen0.trans (by kernel_rfl); clear hf hlen0
  match l, hlen with
  | [c0, c1, c2], _ =>
  match xs, (show xs.length = 2 from hxl) with
  | [y0, y1], _ =>
  have t0 := tf kcA (hfl 0 _ rfl); have t1 := tf kc9 (hfl 1 _ rfl); obtain ⟨x1, e1, f1, m1⟩ := DataW.trod_string underlying9 t1; obtain rfl : c2 = _ := by simpa using e1
  have hd : d = .agg [y0.1, y1.1] := congrArg Prod.fst hx; rw [hd] at hb; simp only [Rows.uptoBulk, Rows.uptoBulkAll, f1] at hb; have g1 : x1.data.toList.length = x1.size := by rw [Array.length_toList]; rfl
  obtain ⟨a, b, hab, h1, h2⟩ := ac_cells (d := y0.1) (pl := y0.2) t0 (by omega); have hab : [c0, c1] = [.string a, .string b] := by simpa using hab
  simp only [List.cons.injEq, and_true] at hab; obtain ⟨rfl, rfl⟩ := hab; exact ⟨a, b, x1, rfl, h1, h2, by omega⟩
end Go.Proofs.YtldnpebnpbahjaaGreatDoor.Pk.Sn
namespace Go.Proofs.YtldnpebnpbahjaaGreatDoor.Pk.Sn
open Go Go.RowKit Go.Proofs.Tryz
theorem rhear_c (cb rb : Nat) (C : Cl) (R : Rf) (data : ByteArray) (w : World) (hk : RK w) (h5 : 5 ≤ w.heap.size) (hh : Has w rb R.cs 103) (hcb : cb < w.heap.size) (hc : C.ok) (ht : Ti w cb rb C R) :
    Calls prog 25 #[pa rb 0, .string data] w fun e w' => e = .returned (.tuple #[.string (heaS C data).1, iv (heaS C data).2.1]) ∧ HeR w w' cb rb (heaS C data).2.2 R.sq := by
  obtain ⟨du, hdu, hdr⟩ := under26; obtain ⟨X, hX⟩ : ∃ q, heaS C data = q := ⟨_, rfl⟩; rw [hX]; unfold heaS at hX; have HK := Kp.mk (And.intro hk (And.intro hh (And.intro hc (And.intro ht (And.intro h5 hcb))))); have HS : Kp (∀ w', w.grownBy w' none → HeR w w' cb rb C R.sq) := ⟨fun w' g => HeR.same ht hh g⟩; have HDE := Kp.mk (rdec_c data w); have HOK : Kp ((dec (sl data)).2 = 0 → Came (dec (sl data)).1 ∧ 1 ≤ (dec (sl data)).1.kind ∧ (dec (sl data)).1.kind ≤ 7) := ⟨fun h => ⟨okd_came (dec_back h).2.2.1, (dec_back h).2.2.2.2⟩⟩
  have HSZ : Kp ((dec (sl data)).2 = 0 → data.size ≤ 1200) := ⟨fun h => by
    by_cases h12 : 1200 < (sl data).length
    · unfold dec at h; rw [if_pos h12] at h; cases h
    · rw [sl_len] at h12; omega⟩
  obtain ⟨Y, hY⟩ : ∃ q, dec (sl data) = q := ⟨_, rfl⟩; rw [hY] at hX HDE HOK HSZ; obtain ⟨D, cd⟩ := Y; have HX := Kp.mk hX; clear hk hh hc hX hY ht h5 hcb; go_enter func25, ntmps25; go_wp2_with fail; refine HDE.out.mono ?_; rintro e w1 ⟨rfl, g1⟩; unfold dv; obtain ⟨w2, hw2⟩ : ∃ q, w1.alloc (.cells D.cells.toArray 34) = q := ⟨_, rfl⟩; obtain ⟨h2, g2, s2⟩ := hasN hw2; have H2 : Kp (HB w w2 w1.heap.size rb D R) := ⟨h2, (HK.out.2.1.kept g1 (by simp)).kept g2 (by simp), g1.trans g2, (HK.out.1.kept g1).kept g2, gr_l g2 (gr_l g1 HK.out.2.2.2.2.1)⟩; have HW : Kp (w.heap.size ≤ w1.heap.size) := ⟨g1.size⟩; have e0 : w2.cell? ⟨w1.heap.size, 0, none⟩ = some (iv D.kind) := H2.out.d.cellv 0 _ rfl; unfold Dg.cells at hw2; clear h2 g2 s2 g1 HDE; by_cases hz : cd = 0; rotate_left
  · (have q1 : (cd != 0) = true := by simp [hz]); have hX := HX.out; rw [if_pos hz] at hX; subst hX; clear hz HX; go_wp2_with fail; go_ret2; exact ⟨rfl, HS.out _ H2.out.g⟩
  have hX := HX.out; rw [if_neg (by simp [hz])] at hX; have HD := Kp.mk (HOK.out hz); have HZ := Kp.mk (HSZ.out hz); clear HX HOK HSZ; subst hz; by_cases k : D.kind = 1 ∨ D.kind = 3 ∨ D.kind = 5
  · rw [if_pos k] at hX; subst hX; rcases k with k | k | k
    · (have q1 : (D.kind == 1) = true := by simp [k]); clear k; go_wp2_with fail; go_ret2; exact ⟨rfl, HS.out _ H2.out.g⟩
    · (have q1 : (D.kind == 1) = false := by simp [k]); (have q3 : (D.kind == 3) = true := by simp [k]); clear k; go_wp2_with fail; go_ret2; exact ⟨rfl, HS.out _ H2.out.g⟩
    · (have q1 : (D.kind == 1) = false := by simp [k]); (have q3 : (D.kind == 3) = false := by simp [k]); (have q5 : (D.kind == 5) = true := by simp [k]); clear k; go_wp2_with fail; go_ret2; exact ⟨rfl, HS.out _ H2.out.g⟩
  rw [if_neg k] at hX; have q1 : (D.kind == 1) = false := by simp; exact fun e => k (.inl e)
  have q3 : (D.kind == 3) = false := by simp; exact fun e => k (.inr (.inl e))
  have q5 : (D.kind == 5) = false := by simp; exact fun e => k (.inr (.inr e))
  have HSt := Kp.mk (HK.out.2.2.2.1.st HK.out.2.2.1)
  have HKI : Kp (D.kind = 2 ∨ D.kind = 4 ∨ D.kind = 6 ∨ D.kind = 7) := ⟨by
    have := HD.out.2
    omega⟩
  clear k; have hbe := nonce_eq (a := D.nonce) (b := R.nc); have hnum : R.num = C.num := HK.out.2.2.2.1.num; have hncs : R.nc = C.nc := HK.out.2.2.2.1.nc; have e1 : w2.cell? ⟨w1.heap.size, 1, none⟩ = some (.string D.nonce) := H2.out.d.cellv 1 _ rfl; have c2 : w2.cell? ⟨rb, 2, none⟩ = some (.string R.nc) := H2.out.r.cellv 2 _ rfl; have c3 : w2.cell? ⟨rb, 3, none⟩ = some (.bool R.sa) := H2.out.r.cellv 3 _ rfl; have c4 : w2.cell? ⟨rb, 4, none⟩ = some (uv R.num) := H2.out.r.cellv 4 _ rfl; rcases HKI.out with k | k | k
  · (have q2 : (D.kind == 2) = true := by simp [k]); rcases HSt.out with ⟨hz, hst, hsa⟩ | ⟨hz, hst, hsa⟩ | ⟨hz, hst, hsa⟩
    · rw [nx_52 hst] at hX; subst hX; (have q6 : (R.num != 0) = false := by simp [hnum, hz]); (have q7 : ((R.num : Int) != 0) = false := by simp [hnum, hz]); rw [hsa] at c3; clear k hz hst hsa hnum hbe hncs; go_wp2_with fail; go_quiet (fail); obtain ⟨w3, hw3⟩ : ∃ q, w2.drewN nq = q := ⟨_, rfl⟩; have H3 := Kp.mk (H2.out.kept (gr_drewN w2 nq none)); rw [hw3] at H3 ⊢; clear hw3; go_wp2_with fail; go_ret2; exact ⟨rfl, HS.out _ H3.out.g⟩
    rotate_left
    · rw [nx_a hst (by omega) (by omega)] at hX; subst hX; (have q6 : (R.num != 0) = true := by simp [hnum, hz]); (have q7 : ((R.num : Int) != 0) = true := by simp [hnum, hz]); clear k hz hst hsa hnum hbe hncs; go_wp2_with fail; go_quiet (fail); obtain ⟨w3, hw3⟩ : ∃ q, w2.drewN nq = q := ⟨_, rfl⟩; have H3 := Kp.mk (H2.out.kept (gr_drewN w2 nq none)); rw [hw3] at H3 ⊢; clear hw3; go_wp2_with fail; go_ret2; exact ⟨rfl, HS.out _ H3.out.g⟩
    (have q6 : (R.num != 0) = false := by simp [hnum, hz]); (have q7 : ((R.num : Int) != 0) = false := by simp [hnum, hz]); rw [hsa] at c3; by_cases ho : D.nonce = R.nc; rotate_left
    · rw [nx_b hst (by rw [← hncs]; exact ho)] at hX; subst hX; rw [decide_eq_false ho] at hbe; (have hbe2 : ¬ D.nonce.toList = R.nc.toList := fun e => by rw [e] at hbe; simp at hbe); clear k hz hst hsa hnum ho hncs; go_wp2_with fail; go_quiet (fail); obtain ⟨w3, hw3⟩ : ∃ q, w2.drewN nq = q := ⟨_, rfl⟩; have H3 := Kp.mk (H2.out.kept (gr_drewN w2 nq none)); rw [hw3] at H3 ⊢; clear hw3; go_wp2_with fail; go_ret2; exact ⟨rfl, HS.out _ H3.out.g⟩
    rw [decide_eq_true ho] at hbe; (have hbe2 : D.nonce.toList = R.nc.toList := by rw [ho]); rw [nx_2 hst (by rw [← hncs]; exact ho) k] at hX; subst hX; have HSL0 : Kp (∀ w3 : World, w.grownBy w3 none → CRt 59 #[.agg (conD C D).cells.toArray, .string R.sc] w3 (.tuple #[.string (sealD (conD C D) C.sc).1, .int .i64 (sealD (conD C D) C.sc).2])) := ⟨fun w3 g => by rw [HK.out.2.2.2.1.sc]; exact rseal_c (conD C D) C.sc (con_fine HD.out.1.f) (con_small HK.out.2.2.1 HD.out.1) w3 (HK.out.1.kept g) (gr_l g HK.out.2.2.2.2.1) (by have := HK.out.2.2.1.sc; omega)⟩; have HB : Kp (prog.built 34 [(0, .int .i64 3), (1, .string R.nc), (2, uv D.epoch), (3, .string D.cookie), (4, .string R.nm)] = some (conD C D).cells.toArray) := ⟨by rw [hncs, HK.out.2.2.2.1.nm]; exact builtCon _ _ _ _⟩; obtain ⟨X, hXX⟩ : ∃ q, sealD (conD C D) C.sc = q := ⟨_, rfl⟩; rw [hXX] at HSL0; have HXX := Kp.mk hXX; clear hXX; clear k hz hst hsa hnum ho hncs; go_wp2_with fail; go_quiet (fail); obtain ⟨w3, hw3⟩ : ∃ q, w2.drewN nq = q := ⟨_, rfl⟩; have H3 := Kp.mk (H2.out.kept (gr_drewN w2 nq none)); rw [hw3] at H3 ⊢; clear hw3; have HSL := Kp.mk (fun (w4 : World) (g : w3.grownBy w4 none) => HSL0.out w4 (H3.out.g.trans g)); clear e0 e1 c2 c3 c4; have e0 : w3.cell? ⟨w1.heap.size, 0, none⟩ = some (iv D.kind) := H3.out.d.cellv 0 _ rfl; have e2 : w3.cell? ⟨w1.heap.size, 2, none⟩ = some (uv D.epoch) := H3.out.d.cellv 2 _ rfl; have e3 : w3.cell? ⟨w1.heap.size, 3, none⟩ = some (.string D.cookie) := H3.out.d.cellv 3 _ rfl; have c0 : w3.cell? ⟨rb, 0, none⟩ = some (.string R.nm) := H3.out.r.cellv 0 _ rfl; have c1 : w3.cell? ⟨rb, 1, none⟩ = some (.string R.sc) := H3.out.r.cellv 1 _ rfl; have c2 : w3.cell? ⟨rb, 2, none⟩ = some (.string R.nc) := H3.out.r.cellv 2 _ rfl; clear H2 HSL0; go_wp2_with fail; refine region_Y (S := fun w' => w3.grownBy w' none) [] (by kernel_rfl) ?_; have hHeld := gr_drew w3 none; refine yq 0 rfl ?_; simp only [Act.put, uz]; refine yq 1 rfl ?_; simp only [Act.put, uz]; refine yq 2 rfl ?_; simp only [Act.put, uz]; refine yk 3 rfl ?_ (fun w hSw => by have k0 := hSw.cell c2 (by simp); go_simp; first | done | (with_reducible rfl)); simp only [Act.put, uz]; refine yq 4 rfl ?_; simp only [Act.put, uz]; refine yk 5 rfl ?_ (fun w hSw => by have k0 := hSw.cell e2 (by simp); go_simp; first | done | (with_reducible rfl)); simp only [Act.put, uz]; refine yq 6 rfl ?_; simp only [Act.put, uz]; refine yk 7 rfl ?_ (fun w hSw => by have k0 := hSw.cell e3 (by simp); go_simp; first | done | (with_reducible rfl)); simp only [Act.put, uz]; refine yq 8 rfl ?_; simp only [Act.put, uz]; refine yq 9 rfl ?_; simp only [Act.put, uz]; refine yq 10 rfl ?_; simp only [Act.put, uz]; refine yq 11 rfl ?_; simp only [Act.put, uz]; refine yk 12 rfl ?_ (fun w hSw => by have k0 := hSw.cell c0 (by simp); go_simp; first | done | (with_reducible rfl)); simp only [Act.put, uz]; refine yp (i := 13) (v := .agg (conD C D).cells.toArray) rfl (yieldsIf_build (by rfl) 34 _ rfl _ ((congrArg (prog.built 34) (by simp only [List.map_toArray, List.map_cons, List.map_nil]; rfl)).trans HB.out)) ?_; simp only [Act.put, uz]; refine yq 14 rfl ?_; simp only [Act.put, uz]; refine yq 15 rfl ?_; simp only [Act.put, uz]; refine yq 16 rfl ?_; simp only [Act.put, uz]; refine yq 17 rfl ?_; simp only [Act.put, uz]; refine yk 18 rfl ?_ (fun w hSw => by have k0 := hSw.cell c1 (by simp); go_simp; first | done | (with_reducible rfl)); simp only [Act.put, uz]; refine yo 19 (fun K hK => ?_) rfl; go_simp; refine (HSL.out _ hHeld).mono ?_; rintro e w4 ⟨rfl, g40⟩; have g4 := Kp.mk (hHeld.trans g40); refine hK.out _ _ (fun q => q.trans g40) ?_; clear hK K g40; have hHeld := g4.out; refine yq 20 rfl ?_; simp only [Act.put, uz]; refine yq 21 rfl ?_; simp only [Act.put, uz]; refine yo 22 (fun K hK => ?_) rfl; go_simp; refine hK.out _ _ (fun h => h) ?_; clear hK K; refine yo 23 (fun K hK => ?_) rfl; go_simp; refine hK.out _ _ (fun h => h) ?_; clear hK K; refine yd ?_; go_wp2_with fail; go_ret2; exact ⟨by rw [HXX.out]; first | done | rfl, HS.out _ (H3.out.g.trans g4.out)⟩
  · (have q2 : (D.kind == 2) = false := by simp [k]); (have q4 : (D.kind == 4) = true := by simp [k]); rcases HSt.out with ⟨hz, hst, hsa⟩ | ⟨hz, hst, hsa⟩ | ⟨hz, hst, hsa⟩
    · rw [nx_52 hst] at hX; subst hX; (have q6 : (R.num != 0) = false := by simp [hnum, hz]); (have q7 : ((R.num : Int) != 0) = false := by simp [hnum, hz]); rw [hsa] at c3; clear k hz hst hsa hnum hbe hncs; go_wp2_with fail; go_quiet (fail); obtain ⟨w3, hw3⟩ : ∃ q, w2.drewN nq = q := ⟨_, rfl⟩; have H3 := Kp.mk (H2.out.kept (gr_drewN w2 nq none)); rw [hw3] at H3 ⊢; clear hw3; go_wp2_with fail; go_ret2; exact ⟨rfl, HS.out _ H3.out.g⟩
    rotate_left
    · rw [nx_a hst (by omega) (by omega)] at hX; subst hX; (have q6 : (R.num != 0) = true := by simp [hnum, hz]); (have q7 : ((R.num : Int) != 0) = true := by simp [hnum, hz]); clear k hz hst hsa hnum hbe hncs; go_wp2_with fail; go_quiet (fail); obtain ⟨w3, hw3⟩ : ∃ q, w2.drewN nq = q := ⟨_, rfl⟩; have H3 := Kp.mk (H2.out.kept (gr_drewN w2 nq none)); rw [hw3] at H3 ⊢; clear hw3; go_wp2_with fail; go_ret2; exact ⟨rfl, HS.out _ H3.out.g⟩
    (have q6 : (R.num != 0) = false := by simp [hnum, hz]); (have q7 : ((R.num : Int) != 0) = false := by simp [hnum, hz]); rw [hsa] at c3; by_cases ho : D.nonce = R.nc; rotate_left
    · rw [nx_b hst (by rw [← hncs]; exact ho)] at hX; subst hX; rw [decide_eq_false ho] at hbe; (have hbe2 : ¬ D.nonce.toList = R.nc.toList := fun e => by rw [e] at hbe; simp at hbe); clear k hz hst hsa hnum ho hncs; go_wp2_with fail; go_quiet (fail); obtain ⟨w3, hw3⟩ : ∃ q, w2.drewN nq = q := ⟨_, rfl⟩; have H3 := Kp.mk (H2.out.kept (gr_drewN w2 nq none)); rw [hw3] at H3 ⊢; clear hw3; go_wp2_with fail; go_ret2; exact ⟨rfl, HS.out _ H3.out.g⟩
    rw [decide_eq_true ho] at hbe; (have hbe2 : D.nonce.toList = R.nc.toList := by rw [ho]); rw [nx_4 hst (by rw [← hncs]; exact ho) k] at hX; have HTI : Kp (R.sa = true ∧ R.mo = C.mx) := ⟨hsa, HK.out.2.2.2.1.mo⟩; have hmo := HTI.out.2; clear k hz hst hsa hnum ho; go_wp2_with fail; go_quiet (fail); obtain ⟨w3, hw3⟩ : ∃ q, w2.drewN nq = q := ⟨_, rfl⟩; have H3 := Kp.mk (H2.out.kept (gr_drewN w2 nq none)); rw [hw3] at H3 ⊢; clear hw3; clear e0 e1 c2 c3 c4 H2; have e0 : w3.cell? ⟨w1.heap.size, 0, none⟩ = some (iv D.kind) := H3.out.d.cellv 0 _ rfl; have e5 : w3.cell? ⟨w1.heap.size, 5, none⟩ = some (uv D.session) := H3.out.d.cellv 5 _ rfl; have c9 : w3.cell? ⟨rb, 9, none⟩ = some (uv R.mo) := H3.out.r.cellv 9 _ rfl; by_cases hmx : D.session ≤ R.mo
    · (have hX : X = (nob, 241, C) := by rw [← hX]; unfold begS; rw [if_pos (by rw [← hmo]; exact hmx)]); subst hX; have q8 : decide (D.session ≤ R.mo) = true := decide_eq_true hmx; have q9 : decide ((D.session : Int) ≤ (R.mo : Int)) = true := decide_eq_true (by omega); clear hmo; go_wp2_with fail; go_quiet (fail); obtain ⟨w4, hw4⟩ : ∃ q, w3.drewN nq = q := ⟨_, rfl⟩; have H4 := Kp.mk (H3.out.kept (gr_drewN w3 nq none)); rw [hw4] at H4 ⊢; clear hw4; go_wp2_with fail; go_ret2; exact ⟨rfl, HS.out _ H4.out.g⟩
    have q8 : decide (D.session ≤ R.mo) = false := decide_eq_false hmx; have q9 : decide ((D.session : Int) ≤ (R.mo : Int)) = false := decide_eq_false (by omega); have HMX : Kp (¬ D.session ≤ C.mx) := ⟨by rw [← hmo]; exact hmx⟩; clear hmo hmx; go_wp2_with fail; go_quiet (fail); obtain ⟨w4, hw4⟩ : ∃ q, w3.drewN nq = q := ⟨_, rfl⟩; have H4 := Kp.mk (H3.out.kept (gr_drewN w3 nq none)); rw [hw4] at H4 ⊢; clear hw4; clear e0 e5 c9 H3; have e5 : w4.cell? ⟨w1.heap.size, 5, none⟩ = some (uv D.session) := H4.out.d.cellv 5 _ rfl; have e7 : w4.cell? ⟨w1.heap.size, 7, none⟩ = some (.string D.salt) := H4.out.d.cellv 7 _ rfl; have c1 : w4.cell? ⟨rb, 1, none⟩ = some (.string R.sc) := H4.out.r.cellv 1 _ rfl; have c2 : w4.cell? ⟨rb, 2, none⟩ = some (.string R.nc) := H4.out.r.cellv 2 _ rfl; obtain ⟨KY, hKY⟩ : ∃ q, keyB C.sc C.nc D.salt D.session = q := ⟨_, rfl⟩; have HKY := Kp.mk hKY; have HEI := Kp.mk (fun w => reight_c D.session w)
    have HDR : Kp (∀ w' : World, w4.grownBy w' none → ∀ {b : Nat}, Strs w' (some ⟨b, 0, none⟩) 3 [R.nc, D.salt, eiB D.session] → Calls prog 56 #[.string R.sc, .string { data := #[115, 101, 115, 115, 105, 111, 110] }, .slice (some ⟨b, 0, none⟩) 3 3] w' fun e w2 => e = .returned (.string KY) ∧ w'.grownBy w2 none) := ⟨fun w' g b hs => by
      rw [← hKY]; unfold keyB; rw [← hncs, ← HK.out.2.2.2.1.sc]
      exact rderive_any R.sc sesU _ 3 3 [R.nc, D.salt, eiB D.session] w' (H4.out.k.kept g) (gr_l g H4.out.s) hs (by rw [HK.out.2.2.2.1.sc]; have := HK.out.2.2.1.sc; omega) (by
        rw [said3]; have h1 := HK.out.2.2.1.nc; have h2 := HD.out.1.s.2.2.2.1; rw [hncs, h1]; show 7 + 25 + 16 + D.salt.size + 8 ≤ _
        omega)⟩
    clear hKY; generalize hnv : R.nc = ncV at HDR c2; generalize hsl : D.salt = slB at HDR e7; generalize hei : eiB D.session = eB at HDR HEI; go_wp2_with fail; refine region_Y (S := fun w' => w4.grownBy w' none) [] (by kernel_rfl) ?_; have hHeld := gr_drew w4 none; refine yq 0 rfl ?_; simp only [Act.put, uz]; refine yq 1 rfl ?_; simp only [Act.put, uz]; refine yq 2 rfl ?_; simp only [Act.put, uz]; refine yq 3 rfl ?_; simp only [Act.put, uz]; refine yk 4 rfl ?_ (fun w hSw => by have k0 := hSw.cell c1 (by simp); go_simp; first | done | (with_reducible rfl)); simp only [Act.put, uz]; refine yq 5 rfl ?_; simp only [Act.put, uz]; refine yq 6 rfl ?_; simp only [Act.put, uz]; refine yq 7 rfl ?_; simp only [Act.put, uz]; refine yk 8 rfl ?_ (fun w hSw => by have k0 := hSw.cell c2 (by simp); go_simp; first | done | (with_reducible rfl)); simp only [Act.put, uz]; refine yq 9 rfl ?_; simp only [Act.put, uz]; refine yk 10 rfl ?_ (fun w hSw => by have k0 := hSw.cell e7 (by simp); go_simp; first | done | (with_reducible rfl)); simp only [Act.put, uz]; refine yq 11 rfl ?_; simp only [Act.put, uz]; refine yk 12 rfl ?_ (fun w hSw => by have k0 := hSw.cell e5 (by simp); go_simp; first | done | (with_reducible rfl)); simp only [Act.put, uz]; refine yo 13 (fun K hK => ?_) rfl; go_simp; refine (HEI.out _).mono ?_; rintro e w5 ⟨rfl, g50⟩; have g5 := Kp.mk (hHeld.trans g50); refine hK.out _ _ (fun q => q.trans g50) ?_; clear hK K g50; have hHeld := g5.out; refine yo 14 (fun K hK => ?_) rfl; go_simp; refine hK.out _ _ (fun q => q.trans (gAl _ _ _)) ?_; clear hK K; refine yo 15 (fun K hK => ?_) rfl; go_simp; refine (HDR.out _ (g5.out.trans (gAl _ _ _)) (strs_new w5 [ncV, slB, eB])).mono ?_; rintro e w6 ⟨rfl, g6⟩; have G6 := Kp.mk ((g5.out.trans (gAl w5 (.cells ([ncV, slB, eB].map Value.string).toArray 9) none)).trans g6); refine hK.out _ _ (fun q => q.trans g6) ?_; clear hK K g6; refine yo 16 (fun K hK => ?_) rfl; go_simp; refine hK.out _ _ (fun h => h) ?_; clear hK K; refine yd ?_; have H6 := Kp.mk (H4.out.kept G6.out); subst hsl hnv; clear c1 c2 e5 e7 G6 g5 hHeld HDR HEI hei H4; have HSE : Kp (∀ w6 : World, w.grownBy w6 none → CRt 61 #[.string data, .string KY] w6 (.bool (sealed data KY))) := ⟨fun w6 g => rsealed_c data KY w6 (HK.out.1.kept g) (gr_l g HK.out.2.2.2.2.1) (by have := HZ.out; omega) (by rw [← HKY.out, keyB_size]; omega)⟩; obtain ⟨sd, hsd⟩ : ∃ q, sealed data KY = q := ⟨_, rfl⟩; have HSD := Kp.mk hsd; rw [hsd] at HSE; clear hsd; go_wp2_with fail; refine (HSE.out w6 H6.out.g).mono ?_; rintro e w7 ⟨rfl, g7⟩; have H7 := Kp.mk (H6.out.kept g7); clear g7 HSE H6; cases sd with
    | false =>
      (have hX : X = (nob, 124, C) := by rw [← hX]; unfold begS; rw [if_neg HMX.out, if_pos (by rw [HKY.out]; exact HSD.out)]); subst hX; go_wp2_with fail; go_ret2; exact ⟨rfl, HS.out _ H7.out.g⟩
    | true =>
      have HBG := Kp.mk (HK.out.2.2.2.1.beg HTI.out.1 HMX.out (by rw [HKY.out]; exact HSD.out)); rw [HKY.out] at HBG; (have hX : X = (nob, 0, (begS C data D).1) := by rw [← hX, HBG.out.1]); subst hX; have HNE : Kp (w1.heap.size ≠ rb) := ⟨by have := HK.out.2.1.lt; have := HW.out; omega⟩; have m5 : w7.cell? ⟨w1.heap.size, 5, none⟩ = some (uv D.session) := H7.out.d.cellv 5 _ rfl; have m6 : w7.cell? ⟨w1.heap.size, 6, none⟩ = some (iv D.player) := H7.out.d.cellv 6 _ rfl; obtain ⟨w8, hw8⟩ : ∃ q, w7.setCell ⟨rb, 4, none⟩ (uv D.session) = q := ⟨_, rfl⟩; have P8 : Kp (Has w8 rb (R.cs.set 4 (uv D.session)) 103 ∧ w7.grownBy w8 (some rb)) := ⟨by rw [← hw8]; exact (H7.out.r).setCell 4 _, by rw [← hw8]; exact (World.grownBy.refl _ _).trans (gr_set _ _ _ _)⟩; have t0 := (H7.out.r).cellv 4 _ (rfl : R.cs[4]? = some _); have z0 := (H7.out.r).frozen 4; obtain ⟨w9, hw9⟩ : ∃ q, w8.setCell ⟨rb, 9, none⟩ (uv D.session) = q := ⟨_, rfl⟩; have P9 : Kp (Has w9 rb ((R.cs.set 4 (uv D.session)).set 9 (uv D.session)) 103 ∧ w7.grownBy w9 (some rb)) := ⟨by rw [← hw9]; exact (P8.out.1).setCell 9 _, by rw [← hw9]; exact (P8.out.2).trans (gr_set _ _ _ _)⟩; have t1 := (P8.out.1).cellv 9 _ (rfl : (R.cs.set 4 (uv D.session))[9]? = some _); have z1 := (P8.out.1).frozen 9; have f5_1 : w8.cell? ⟨w1.heap.size, 5, none⟩ = some (uv D.session) := (P8.out.2).cell m5 (by simp; exact fun e => HNE.out e); have f6_1 : w8.cell? ⟨w1.heap.size, 6, none⟩ = some (iv D.player) := (P8.out.2).cell m6 (by simp; exact fun e => HNE.out e); obtain ⟨w10, hw10⟩ : ∃ q, w9.setCell ⟨rb, 5, none⟩ (iv D.player) = q := ⟨_, rfl⟩; have P10 : Kp (Has w10 rb (((R.cs.set 4 (uv D.session)).set 9 (uv D.session)).set 5 (iv D.player)) 103 ∧ w7.grownBy w10 (some rb)) := ⟨by rw [← hw10]; exact (P9.out.1).setCell 5 _, by rw [← hw10]; exact (P9.out.2).trans (gr_set _ _ _ _)⟩; have t2 := (P9.out.1).cellv 5 _ (rfl : ((R.cs.set 4 (uv D.session)).set 9 (uv D.session))[5]? = some _); have z2 := (P9.out.1).frozen 5; have f5_2 : w9.cell? ⟨w1.heap.size, 5, none⟩ = some (uv D.session) := (P9.out.2).cell m5 (by simp; exact fun e => HNE.out e); have f6_2 : w9.cell? ⟨w1.heap.size, 6, none⟩ = some (iv D.player) := (P9.out.2).cell m6 (by simp; exact fun e => HNE.out e); obtain ⟨w11, hw11⟩ : ∃ q, w10.setCell ⟨rb, 6, none⟩ (.string KY) = q := ⟨_, rfl⟩; have P11 : Kp (Has w11 rb ((((R.cs.set 4 (uv D.session)).set 9 (uv D.session)).set 5 (iv D.player)).set 6 (.string KY)) 103 ∧ w7.grownBy w11 (some rb)) := ⟨by rw [← hw11]; exact (P10.out.1).setCell 6 _, by rw [← hw11]; exact (P10.out.2).trans (gr_set _ _ _ _)⟩; have t3 := (P10.out.1).cellv 6 _ (rfl : (((R.cs.set 4 (uv D.session)).set 9 (uv D.session)).set 5 (iv D.player))[6]? = some _); have z3 := (P10.out.1).frozen 6; have f5_3 : w10.cell? ⟨w1.heap.size, 5, none⟩ = some (uv D.session) := (P10.out.2).cell m5 (by simp; exact fun e => HNE.out e); have f6_3 : w10.cell? ⟨w1.heap.size, 6, none⟩ = some (iv D.player) := (P10.out.2).cell m6 (by simp; exact fun e => HNE.out e); obtain ⟨w12, hw12⟩ : ∃ q, w11.setCell ⟨rb, 7, none⟩ (.int .u64 0) = q := ⟨_, rfl⟩; have P12 : Kp (Has w12 rb (((((R.cs.set 4 (uv D.session)).set 9 (uv D.session)).set 5 (iv D.player)).set 6 (.string KY)).set 7 (.int .u64 0)) 103 ∧ w7.grownBy w12 (some rb)) := ⟨by rw [← hw12]; exact (P11.out.1).setCell 7 _, by rw [← hw12]; exact (P11.out.2).trans (gr_set _ _ _ _)⟩; have t4 := (P11.out.1).cellv 7 _ (rfl : ((((R.cs.set 4 (uv D.session)).set 9 (uv D.session)).set 5 (iv D.player)).set 6 (.string KY))[7]? = some _); have z4 := (P11.out.1).frozen 7; have f5_4 : w11.cell? ⟨w1.heap.size, 5, none⟩ = some (uv D.session) := (P11.out.2).cell m5 (by simp; exact fun e => HNE.out e); have f6_4 : w11.cell? ⟨w1.heap.size, 6, none⟩ = some (iv D.player) := (P11.out.2).cell m6 (by simp; exact fun e => HNE.out e); obtain ⟨w13, hw13⟩ : ∃ q, w12.setCell ⟨rb, 8, none⟩ (.int .u64 0) = q := ⟨_, rfl⟩; have P13 : Kp (Has w13 rb ((((((R.cs.set 4 (uv D.session)).set 9 (uv D.session)).set 5 (iv D.player)).set 6 (.string KY)).set 7 (.int .u64 0)).set 8 (.int .u64 0)) 103 ∧ w7.grownBy w13 (some rb)) := ⟨by rw [← hw13]; exact (P12.out.1).setCell 8 _, by rw [← hw13]; exact (P12.out.2).trans (gr_set _ _ _ _)⟩; have t5 := (P12.out.1).cellv 8 _ (rfl : (((((R.cs.set 4 (uv D.session)).set 9 (uv D.session)).set 5 (iv D.player)).set 6 (.string KY)).set 7 (.int .u64 0))[8]? = some _); have z5 := (P12.out.1).frozen 8; have f5_5 : w12.cell? ⟨w1.heap.size, 5, none⟩ = some (uv D.session) := (P12.out.2).cell m5 (by simp; exact fun e => HNE.out e); have f6_5 : w12.cell? ⟨w1.heap.size, 6, none⟩ = some (iv D.player) := (P12.out.2).cell m6 (by simp; exact fun e => HNE.out e); have HE : Kp (HeR w w13 cb rb (begS C data D).1 R.sq) := ⟨⟨R.beg D KY, P13.out.1, HBG.out.2.kept ((gr_weak H7.out.g (some rb)).trans P13.out.2) (fun k e => by injection e with e; exact .inr e.symm), (gr_weak H7.out.g (some rb)).trans P13.out.2, Nat.zero_le _⟩⟩; clear P8 P9 P10 P11 P12 P13; go_wp2_with fail; go_ret2; exact ⟨rfl, HE.out⟩
  have q2 : (D.kind == 2) = false := by rcases k with k | k <;> simp [k]
  have q4 : (D.kind == 4) = false := by rcases k with k | k <;> simp [k]
  have HKK := Kp.mk k; by_cases hz : R.num = 0
  · have hX : X = (nob, 240, C) := by
      rw [← hX]; rcases HSt.out with ⟨_, hst, _⟩ | ⟨_, hst, _⟩ | ⟨h, _, _⟩
      · exact nx_52 hst
      · exact nx_c hst (by omega) (by omega)
      · exact absurd (hnum ▸ hz) h
    subst hX; (have q6 : (R.num == 0) = true := by simp [hz]); (have q7 : ((R.num : Int) == 0) = true := by simp [hz]); clear k hz hnum hbe hncs; go_wp2_with fail; go_quiet (fail); obtain ⟨w3, hw3⟩ : ∃ q, w2.drewN nq = q := ⟨_, rfl⟩; have H3 := Kp.mk (H2.out.kept (gr_drewN w2 nq none)); rw [hw3] at H3 ⊢; clear hw3; go_wp2_with fail; go_ret2; exact ⟨rfl, HS.out _ H3.out.g⟩
  have q6 : (R.num == 0) = false := by simp [hz]
  have q7 : ((R.num : Int) == 0) = false := by simp [hz]
  have HNZ : Kp (C.num ≠ 0) := ⟨hnum ▸ hz⟩; have HST : Kp (C.st = 168) := ⟨HK.out.2.2.2.1.on HNZ.out⟩; have HCU := Kp.mk (HK.out.2.2.2.1.cur HNZ.out); have e5 : w2.cell? ⟨w1.heap.size, 5, none⟩ = some (uv D.session) := H2.out.d.cellv 5 _ rfl; by_cases hse : D.session = R.num; rotate_left
  · have hX : X = (nob, 240, C) := by
      have h := jd_1 (data := data) (show D.session ≠ C.num by rw [← hnum]; exact hse); rw [← hX, nx_j HST.out k (by rw [h]; decide), h]
    subst hX; (have q8 : (D.session != R.num) = true := by simp [hse]); (have q9 : ((D.session : Int) != (R.num : Int)) = true := by simp; omega); clear k hz hnum hbe hncs hse; go_wp2_with fail; go_quiet (fail); obtain ⟨w3, hw3⟩ : ∃ q, w2.drewN nq = q := ⟨_, rfl⟩; have H3 := Kp.mk (H2.out.kept (gr_drewN w2 nq none)); rw [hw3] at H3 ⊢; clear hw3; go_wp2_with fail; go_ret2; exact ⟨rfl, HS.out _ H3.out.g⟩
  have q8 : (D.session != R.num) = false := by simp [hse]
  have q9 : ((D.session : Int) != (R.num : Int)) = false := by simp; omega
  have HSS : Kp (D.session = C.num) := ⟨by rw [← hnum]; exact hse⟩; have HSE : Kp (∀ w6 : World, w.grownBy w6 none → CRt 61 #[.string data, .string R.key] w6 (.bool (sealed data R.key))) := ⟨fun w6 g => rsealed_c data R.key w6 (HK.out.1.kept g) (gr_l g HK.out.2.2.2.2.1) (by have := HZ.out; omega) (by have := HK.out.2.2.2.1.rk; omega)⟩; obtain ⟨sd, hsd⟩ : ∃ q, sealed data R.key = q := ⟨_, rfl⟩; have HSD := Kp.mk hsd; rw [hsd] at HSE; clear k hz hnum hbe hncs hse hsd; go_wp2_with fail; go_quiet (fail); obtain ⟨w3, hw3⟩ : ∃ q, w2.drewN nq = q := ⟨_, rfl⟩; have H3 := Kp.mk (H2.out.kept (gr_drewN w2 nq none)); rw [hw3] at H3 ⊢; clear hw3; clear e0 e1 e5 c2 c3 c4 H2; have c6 : w3.cell? ⟨rb, 6, none⟩ = some (.string R.key) := H3.out.r.cellv 6 _ rfl; go_wp2_with fail; refine (HSE.out w3 H3.out.g).mono ?_; rintro e w4 ⟨rfl, g4⟩; have H4 := Kp.mk (H3.out.kept g4); clear g4 HSE H3 c6; cases sd with
  | false =>
    have hX : X = (nob, 124, C) := by
      have h := jd_2 HSS.out (by rw [← HCU.out.2.1]; exact HSD.out); rw [← hX, nx_j HST.out HKK.out (by rw [h]; decide), h]
    subst hX; go_wp2_with fail; go_ret2; exact ⟨rfl, HS.out _ H4.out.g⟩
  | true =>
    have e0 : w4.cell? ⟨w1.heap.size, 0, none⟩ = some (iv D.kind) := H4.out.d.cellv 0 _ rfl; have e8 : w4.cell? ⟨w1.heap.size, 8, none⟩ = some (uv D.seq) := H4.out.d.cellv 8 _ rfl; have c8 : w4.cell? ⟨rb, 8, none⟩ = some (uv R.la) := H4.out.r.cellv 8 _ rfl; by_cases hla : D.seq ≤ R.la
    · have hX : X = (nob, 241, C) := by
        have h := jd_3 HSS.out (by rw [← HCU.out.2.1]; exact HSD.out) (by rw [← HCU.out.2.2.2]; exact hla); rw [← hX, nx_j HST.out HKK.out (by rw [h]; decide), h]
      subst hX; have q10 : decide (D.seq ≤ R.la) = true := decide_eq_true hla; have q11 : decide ((D.seq : Int) ≤ (R.la : Int)) = true := decide_eq_true (by omega); go_wp2_with fail; go_quiet (fail); obtain ⟨w5, hw5⟩ : ∃ q, w4.drewN nq = q := ⟨_, rfl⟩; have H5 := Kp.mk (H4.out.kept (gr_drewN w4 nq none)); rw [hw5] at H5 ⊢; clear hw5; go_wp2_with fail; go_ret2; exact ⟨rfl, HS.out _ H5.out.g⟩
    have q10 : decide (D.seq ≤ R.la) = false := decide_eq_false hla; have q11 : decide ((D.seq : Int) ≤ (R.la : Int)) = false := decide_eq_false (by omega); have HJ : Kp (judS C data D = 0) := ⟨jd_0 HSS.out (by rw [← HCU.out.2.1]; exact HSD.out) (by rw [← HCU.out.2.2.2]; exact hla)⟩; clear hla; rcases HKK.out with k | k; rotate_left
    · (have hX : X = (nob, 0, endS C) := by rw [← hX]; exact nx_7 HST.out k HJ.out); subst hX; (have q12 : (D.kind == 7) = true := by simp [k]); clear k; go_wp2_with fail; go_quiet (fail); obtain ⟨w5, hw5⟩ : ∃ q, w4.drewN nq = q := ⟨_, rfl⟩; have H5 := Kp.mk (H4.out.kept (gr_drewN w4 nq none)); rw [hw5] at H5 ⊢; clear hw5; clear e0 e8 c8 H4; have e0 : w5.cell? ⟨w1.heap.size, 0, none⟩ = some (iv D.kind) := H5.out.d.cellv 0 _ rfl; have c4 : w5.cell? ⟨rb, 4, none⟩ = some (uv R.num) := H5.out.r.cellv 4 _ rfl; have z4 := H5.out.r.frozen 4; have HE : Kp (HeR w (w5.setCell ⟨rb, 4, none⟩ (.int .u64 0)) cb rb (endS C) R.sq) := ⟨⟨{ R with num := 0 }, H5.out.r.setCell 4 (.int .u64 0), (HK.out.2.2.2.1.endd (by rcases HSt.out with ⟨h, _, _⟩ | ⟨h, _, _⟩ | ⟨_, _, h⟩ <;> first | exact h | exact absurd h HNZ.out)).kept ((gr_weak H5.out.g (some rb)).trans (gr_set _ _ _ _)) (fun k e => by injection e with e; exact .inr e.symm), (gr_weak H5.out.g (some rb)).trans (gr_set _ _ _ _), Nat.le_refl _⟩⟩; clear H5; go_wp2_with fail; go_ret2; exact ⟨rfl, HE.out⟩
    (have q12 : (D.kind == 7) = false := by simp [k]); obtain ⟨Z, hZ⟩ : ∃ q, rdV (sl D.data) = q := ⟨_, rfl⟩; rw [nx_6 HST.out k] at hX
    have HR : Kp (∀ w3, Calls prog 62 #[.string D.data] w3 fun e w' => ∃ a c, e = .returned (.tuple #[.agg (Z.1.cs a c).toArray, iv Z.2]) ∧ w3.grownBy w' none ∧ SeenN w3 w' a Z.1.S) := ⟨fun w3 => by
      rw [← hZ]
      exact rread_c D.data w3⟩
    have HZZ := Kp.mk hZ; have HLK : Kp (Z.2 ≠ 0 → lokS C data D = (C, Z.2)) := ⟨fun h => lk_e HJ.out hZ h⟩; have HLO : Kp (Z.2 = 0 → lokS C data D = (Cl.mk C.nm C.sc C.nc C.st C.num C.pl C.key C.sd D.seq C.mx D.data, 0)) := ⟨fun h => lk_o HJ.out hZ h⟩; have HX := Kp.mk hX; clear k hZ hX; go_wp2_with fail; go_quiet (fail); obtain ⟨w5, hw5⟩ : ∃ q, w4.drewN nq = q := ⟨_, rfl⟩; have H5 := Kp.mk (H4.out.kept (gr_drewN w4 nq none)); rw [hw5] at H5 ⊢; clear hw5; clear e0 e8 c8 H4; have e0 : w5.cell? ⟨w1.heap.size, 0, none⟩ = some (iv D.kind) := H5.out.d.cellv 0 _ rfl; have e13 : w5.cell? ⟨w1.heap.size, 13, none⟩ = some (.string D.data) := H5.out.d.cellv 13 _ rfl; go_wp2_with fail; refine (HR.out w5).mono ?_; rintro e w6 ⟨a, c, rfl, g6, hsn⟩; have H6 := Kp.mk (H5.out.kept g6); have HSN := Kp.mk (And.intro hsn H5.out.g.size); clear g6 hsn HR e0 e13; obtain ⟨V, vd⟩ := Z; by_cases hz : vd = 0; rotate_left
    · (have q13 : (vd != 0) = true := by simp [hz]); have hX := HX.out; rw [HLK.out hz] at hX; subst hX; clear hz HX HLK HLO
      go_wp2_with (first
        | (with_reducible show wpList _ _ _ ({ dst := none, op := Op.store 49 _ _, type := _, pos := _, after := _, guard := _ } :: _) _ _
           refine st_new w6 (V.cs a c) 49 rfl rfl rfl rfl rfl infoV (vw_one _ _ _) ?_; intro w7 h7 g7; have H7 := Kp.mk (H6.out.kept g7)
           clear h7 g7))
      go_ret2; exact ⟨rfl, HS.out _ H7.out.g⟩
    subst hz; have hX := HX.out; rw [HLO.out rfl] at hX; subst hX; clear HX HLK HLO; obtain ⟨dvw, hdvw, hdvr⟩ := underV; have HNE : Kp (w1.heap.size ≠ rb) := ⟨by have := HK.out.2.1.lt; have := HW.out; omega⟩
    go_wp2_with (first
      | (with_reducible show wpList _ _ _ ({ dst := none, op := Op.store 49 (Operand.tmp 9) _, type := _, pos := _, after := _, guard := _ } :: _) _ _
         refine st_new w6 (V.cs a c) 49 rfl rfl rfl rfl rfl infoV (vw_one _ _ _) ?_; intro w7 h7 g7; have H7 := Kp.mk (H6.out.kept g7); have HV : Kp (Has w7 w6.heap.size (V.cs a c) 49 ∧ w6.grownBy w7 none) := ⟨h7, g7⟩
         clear h7 g7)
      | (with_reducible show wpList _ _ _ ({ dst := _, op := Op.load 49 _, type := _, pos := _, after := _, guard := _ } :: _) _ _
         refine load_g rfl 49 _ rfl w6.heap.size 0 rfl (V.cs a c) dvw HV.out.1.range hdvw hdvr infoV ?_
         simp only [Act.put, uz])
      | (with_reducible show wpList _ _ _ ({ dst := none, op := Op.store 49 (Operand.tmp 183) _, type := _, pos := _, after := _, guard := _ } :: _) _ _
         refine st_part w7 rb 10 R.cs (V.cs a c) 49 103 rfl rfl rfl rfl H7.out.r (by show 10 + 16 ≤ 27; omega) infoV (vw_one _ _ _) ?_; intro w8 h8 g8; have H8 : Kp (Has w8 rb { R with V := V, a := a, c := c : Rf }.cs 103 ∧ w7.grownBy w8 (some rb)) := ⟨h8, g8⟩; have d8 : w8.cell? ⟨w1.heap.size, 8, none⟩ = some (uv D.seq) := g8.cell (H7.out.d.cellv 8 _ rfl) (by simp; exact fun e => HNE.out e); have t26 := H8.out.1.cellv 26 _ rfl; have z26 := H8.out.1.frozen 26; have HNN := HNE.out; obtain ⟨w9, hw9⟩ : ∃ q, w8.setCell ⟨rb, 26, none⟩ (.bool true) = q := ⟨_, rfl⟩; have H9 : Kp (Has w9 rb { R with V := V, a := a, c := c, has := true : Rf }.cs 103 ∧ w7.grownBy w9 (some rb)) := ⟨by rw [← hw9]; exact H8.out.1.setCell 26 (.bool true), by rw [← hw9]; exact H8.out.2.trans (gr_set _ _ _ _)⟩; have d9 : w9.cell? ⟨w1.heap.size, 8, none⟩ = some (uv D.seq) := H9.out.2.cell (H7.out.d.cellv 8 _ rfl) (by simp; exact fun e => HNE.out e); have t8 := H9.out.1.cellv 8 _ rfl; have z8 := H9.out.1.frozen 8
         clear h8 g8))
    go_ret2; have hsn := HSN.out; have hlt : rb < w5.heap.size := H5.out.r.lt; have hcl : cb < w5.heap.size := Nat.lt_of_lt_of_le HK.out.2.2.2.2.2 HSN.out.2; refine ⟨rfl, ⟨⟨R.look V a c D.seq, H9.out.1.setCell 8 _, ?_, ((gr_weak H7.out.g (some rb)).trans H9.out.2).trans (gr_set _ _ _ _), Nat.le_refl _⟩⟩⟩; have G := ((gr_weak H7.out.g (some rb)).trans H9.out.2).trans (gr_set w9 rb 8 (uv D.seq)); refine (HK.out.2.2.2.1.kept G (fun k e => by injection e with e; exact .inr e.symm)).look HZZ.out (fun q => ?_); obtain ⟨sb, so, e1, e2, e3⟩ := HSN.out.1 q; have g7 : w6.grownBy _ (some rb) := ((gr_weak HV.out.2 (some rb)).trans H9.out.2).trans (gr_set w9 rb 8 (uv D.seq)); exact ⟨sb, so, e1, by omega, by omega, fun j s hj i z hz => g7.cell (e3 j s hj i z hz) (by simp; omega)⟩
end Go.Proofs.YtldnpebnpbahjaaGreatDoor.Pk.Sn
