import Derived.Test.YtldnpebnpbahjaaGreatDoorX18
import Derived.ChangeKeysEq
set_option maxRecDepth 100000
set_option maxHeartbeats 8000000
namespace Go.Proofs.YtldnpebnpbahjaaGreatDoor.Pk.Sn
open Go Go.RowKit Go.Proofs.Tryz
theorem builtAc (s : ByteArray) : prog.built 63 [(0, .string { data := #[97, 110, 110] }), (1, .string s)] = some #[.string { data := #[97, 110, 110] }, .string s] := by kernel_rfl
theorem infoA : (prog.info? 63).map (·.size) = some 2 := by kernel_rfl
theorem one2 {a b : ByteArray} : ∀ v ∈ [Value.string a, .string b], v.oneCell' = true := by
  intro v hv; simp only [List.mem_cons, List.not_mem_nil, or_false] at hv; rcases hv with rfl | rfl <;> rfl
theorem builtCoo (n c : ByteArray) : prog.built 34 [(0, .int .i64 2), (1, .string n), (2, .int .u64 7), (3, .string c)] = some #[.int .i64 2, .string n, .int .u64 7, .string c, .string { data := #[] }, .int .u64 0, .int .i64 0, .string { data := #[] }, .int .u64 0, .int .i64 0, .int .i64 0, .bool false, .bool false, .string { data := #[] }, .string { data := #[] }] := by kernel_rfl
theorem builtWel (n s : ByteArray) (k : Int) : prog.built 34 [(0, .int .i64 4), (1, .string n), (5, .int .u64 k), (6, .int .i64 3), (7, .string s)] = some #[.int .i64 4, .string n, .int .u64 0, .string { data := #[] }, .string { data := #[] }, .int .u64 k, .int .i64 3, .string s, .int .u64 0, .int .i64 0, .int .i64 0, .bool false, .bool false, .string { data := #[] }, .string { data := #[] }] := by kernel_rfl
structure BS (w w' : World) (cb A Db : Nat) (C : Cl) (sc : ByteArray) (L : List Value) : Prop where
  g : w.grownBy w' none
  c : Has w' cb C.cs 83
  a : Has w' A [.string annB, .string sc] 63
  d : Has w' Db L 34
  cn : w.heap.size ≤ cb
  dn : w.heap.size ≤ Db
  ac : A ≠ cb
  dc : Db ≠ cb
  ad : A ≠ Db
theorem BS.kept {w w' w2 : World} {cb A Db : Nat} {C : Cl} {sc : ByteArray} {L : List Value} (h : BS w w' cb A Db C sc L) (g : w'.grownBy w2 none) : BS w w2 cb A Db C sc L := ⟨h.g.trans g, h.c.kept g (by simp), h.a.kept g (by simp), h.d.kept g (by simp), h.cn, h.dn, h.ac, h.dc, h.ad⟩
theorem BS.turn {w w' w2 : World} {cb A Db : Nat} {C C2 : Cl} {sc : ByteArray} {L : List Value} (h : BS w w' cb A Db C sc L) (hc : Has w2 cb C2.cs 83) (g : w'.grownBy w2 (some cb)) : BS w w2 cb A Db C2 sc L := ⟨gr_new h.g g h.cn, hc, h.a.kept g (by simp; exact h.ac), h.d.kept g (by simp; exact h.dc), h.cn, h.dn, h.ac, h.dc, h.ad⟩
theorem BS.over {w w' w2 : World} {cb A Db : Nat} {C : Cl} {sc : ByteArray} {L L2 : List Value} (h : BS w w' cb A Db C sc L) (hd : Has w2 Db L2 34) (g : w'.grownBy w2 (some Db)) : BS w w2 cb A Db C sc L2 := ⟨gr_new h.g g h.dn, h.c.kept g (by simp; exact fun e => h.dc e.symm), h.a.kept g (by simp; exact h.ad), hd, h.cn, h.dn, h.ac, h.dc, h.ad⟩
theorem begun_c (se no : ByteArray) (n : Nat) (w : World) (hk : Kc w) (hn : Na.Kc w) (h0 : n ≠ 0) (hb : n < 18446744073709551616) :
    Calls prog 7 #[.string se, .string no, .int .u64 (n : Int)] w fun e w' => ∃ cb, e = .returned (.tuple #[pa cb 0, .string (begK (txB se 32) (txB no 16) n), .bool true]) ∧ Has w' cb (begC (txB se 32) (txB no 16) n).cs 83 ∧ w.grownBy w' none ∧ w.heap.size ≤ cb := by
  obtain ⟨da, hda, hdr⟩ := underA; have HT1 := Kp.mk (fun w => text_c se 32 (by omega) w); have HT2 := Kp.mk (fun w => text_c no 16 (by omega) w); have s1 := txB_size se 32; have s2 := txB_size no 16; generalize txB se 32 = sc at HT1 s1 ⊢; generalize txB no 16 = nc at HT2 s2 ⊢; have HSZ := Kp.mk (And.intro s1 s2); have HK := Kp.mk (And.intro hk (And.intro hn (And.intro h0 hb))); have HB1 := Kp.mk (builtAc sc); clear s1 s2 hk hn h0 hb; obtain ⟨K, hK1⟩ : ∃ q, begK sc nc n = q := ⟨_, rfl⟩; have HKK := Kp.mk hK1; rw [hK1]; clear hK1; go_enter func7, ntmps7; go_wp2_with fail; refine (HT1.out w).mono ?_; rintro e w1 ⟨rfl, g1⟩; have G1 := Kp.mk g1; clear g1 HT1
  go_wp2_with (first
    | (with_reducible show wpList _ _ _ ({ dst := _, op := Op.build 63 _, type := _, pos := _, after := _, guard := _ } :: _) _ _
       refine build_g rfl 63 _ rfl _ ((congrArg (prog.built 63) (by simp only [List.map_toArray, List.map_cons, List.map_nil]; rfl)).trans HB1.out) ?_
       simp only [Act.put, uz])
    | (with_reducible show wpList _ _ _ ({ dst := none, op := Op.store 63 _ _, type := _, pos := _, after := _, guard := _ } :: _) _ _
       refine st_new w1 [.string annB, .string sc] 63 rfl rfl rfl rfl rfl infoA one2 ?_; intro w2 h6 g6; have H2 : Kp (Has w2 w1.heap.size [.string annB, .string sc] 63 ∧ w.grownBy w2 none ∧ w1.heap.size < w2.heap.size) := ⟨h6, G1.out.trans g6, h6.lt⟩
       clear h6 g6))
  refine (HT2.out w2).mono ?_; rintro e w3 ⟨rfl, g3⟩; have H3 : Kp (Has w3 w1.heap.size [.string annB, .string sc] 63 ∧ w.grownBy w3 none ∧ w1.heap.size < w3.heap.size) := ⟨H2.out.1.kept g3 (by simp), H2.out.2.1.trans g3, Nat.lt_of_lt_of_le H2.out.2.2 g3.size⟩; clear g3 H2 HT2 HB1; have HNW := Kp.mk (new_c annB sc nc w3 (HK.out.2.1.kept H3.out.2.1) (by show 3 ≤ _; omega) (by have := HSZ.out; omega) (by have := HSZ.out; omega)); rw [ann_new HSZ.out.1 HSZ.out.2] at HNW
  go_wp2_with (first
    | (with_reducible show wpList _ _ _ ({ dst := _, op := Op.load 63 _, type := _, pos := _, after := _, guard := _ } :: _) _ _
       refine load_g rfl 63 _ rfl w1.heap.size 0 rfl [.string annB, .string sc] da H3.out.1.range hda hdr infoA ?_
       simp only [Act.put, uz]))
  refine HNW.out.mono ?_; rintro e w4 (⟨h, _⟩ | ⟨_, cb, rfl, h4, g4, hcb⟩)
  · exact absurd rfl h
  have H4 : Kp (Has w4 w1.heap.size [.string annB, .string sc] 63 ∧ w.grownBy w4 none ∧ w1.heap.size < cb ∧ w.heap.size ≤ cb ∧ Has w4 cb (newS annB sc nc).cs 83) := ⟨H3.out.1.kept g4 (by simp), H3.out.2.1.trans g4, by have := H3.out.2.2; omega, by have := H3.out.2.1.size; omega, h4⟩; clear HNW h4 g4 hcb H3 G1; have HHL := Kp.mk (hello_c cb (newS annB sc nc) w4 (HK.out.1.kept H4.out.2.1 (by simp)) H4.out.2.2.2.2 (new_ok (ann_new HSZ.out.1 HSZ.out.2))); rw [hel_S sc nc HSZ.out.2] at HHL; have HHD : Kp (dec (enc (helD (saidC sc nc))).1 = (helD (saidC sc nc), 0) ∧ (enc (helD (saidC sc nc))).1.length = 96) := ⟨hel_dec sc nc HSZ.out.2⟩; generalize (enc (helD (saidC sc nc))).1 = hl at HHL HHD; go_wp2_with fail; refine HHL.out.mono ?_; rintro e w5 ⟨rfl, h5, g5⟩; have H5 : Kp (Has w5 w1.heap.size [.string annB, .string sc] 63 ∧ w.grownBy w5 none ∧ w1.heap.size < cb ∧ w.heap.size ≤ cb ∧ Has w5 cb (saidC sc nc).cs 83) := ⟨H4.out.1.kept g5 (by simp; have := H4.out.2.2.1; omega), gr_new H4.out.2.1 g5 H4.out.2.2.2.1, H4.out.2.2.1, H4.out.2.2.2.1, h5⟩; clear HHL h5 g5 H4; have hsz : (ba hl).size = 96 := by rw [ba_size]; exact HHD.out.2
  have HD1 := Kp.mk (decode_c (ba hl) w5 (by omega)); rw [show sl (ba hl) = hl from sl_mk _, HHD.out.1] at HD1; generalize ba hl = hb2 at HD1 hsz ⊢; go_wp2_with fail; refine HD1.out.mono ?_; rintro e w6 ⟨rfl, g6⟩; clear HD1 HHD; have HCK : Kp (∀ w : World, CRt 19 #[.string { data := #[99, 111, 111, 107, 105, 101] }, .int .i64 32] w (.string cokB)) := ⟨fun w => text_c _ 32 (by omega) w⟩; have HSL : Kp (∀ w : World, CRt 19 #[.string { data := #[115, 97, 108, 116] }, .int .i64 16] w (.string salB)) := ⟨fun w => text_c _ 16 (by omega) w⟩; have HB2 : Kp (prog.built 34 [(0, .int .i64 2), (1, .string nc), (2, .int .u64 7), (3, .string cokB)] = some (cooD nc).cells.toArray) := ⟨builtCoo _ _⟩; have H6 := Kp.mk (And.intro g6 g6.size); clear g6
  go_wp2_with (first
    | (with_reducible show wpList _ _ _ ({ dst := none, op := Op.store 34 _ _, type := _, pos := _, after := _, guard := _ } :: _) _ _
       refine st_new w6 (helD (saidC sc nc)).cells 34 rfl rfl rfl rfl rfl info26 (dg_one _) ?_; intro w7 h7 g7; have BS7 : Kp (BS w w7 cb w1.heap.size w6.heap.size (saidC sc nc) sc (helD (saidC sc nc)).cells) := ⟨⟨(H5.out.2.1.trans H6.out.1).trans g7, (H5.out.2.2.2.2.kept H6.out.1 (by simp)).kept g7 (by simp), (H5.out.1.kept H6.out.1 (by simp)).kept g7 (by simp), h7, H5.out.2.2.2.1, by have := H5.out.2.1.size; have := H6.out.2; omega, by have := H5.out.2.2.1; omega, by have := H5.out.2.2.2.2.lt; have := H6.out.2; omega, by have := H5.out.1.lt; have := H6.out.2; omega⟩⟩; have d0 : w7.cell? ⟨w6.heap.size, 0, none⟩ = some (.int .i64 1) := h7.cellv 0 _ rfl; have d1 : w7.cell? ⟨w6.heap.size, 1, none⟩ = some (.string nc) := h7.cellv 1 _ rfl
       clear h7 g7))
  refine (HCK.out w7).mono ?_; rintro e w8 ⟨rfl, g8⟩; have BS8 := Kp.mk (BS7.out.kept g8); clear g8 BS7 d0 d1 hsz H5 H6
  have HEN : Kp (CRt 31 #[.agg (cooD nc).cells.toArray] w8 (.tuple #[.string (ba (enc (cooD nc)).1), .int .i64 0])) := ⟨by
    have h := encode_c (cooD nc) (coo_fine nc) (coo_small HSZ.out.2) w8; rw [(coo_dec nc HSZ.out.2).1] at h
    exact h⟩
  have HHE : Kp (∀ w3 : World, Kc w3 → Has w3 cb (saidC sc nc).cs 83 → Calls prog 15 #[pa cb 0, .string (ba (enc (cooD nc)).1)] w3 fun e w' => e = .returned (.tuple #[.string (sealD (conD (saidC sc nc) (cooD nc)) sc).1, iv 0]) ∧ Has w' cb (saidC sc nc).cs 83 ∧ w3.grownBy w' (some cb)) := ⟨fun w3 hk hh => by
    have h := hear_c cb (saidC sc nc) (ba (enc (cooD nc)).1) w3 hk hh (said_ok HSZ.out.1 HSZ.out.2) (by rw [ba_size]; have := enc_le (cooD nc); omega); rw [hea_coo sc nc HSZ.out.2] at h
    exact h⟩
  obtain ⟨x, hx1, hx2, hx3⟩ := con_good sc nc HSZ.out.2; have HX := Kp.mk (And.intro hx1 (And.intro hx2 hx3)); generalize (sealD (conD (saidC sc nc) (cooD nc)) sc).1 = cn at HHE HX; generalize ba (enc (cooD nc)).1 = ck at HHE HEN; clear hx1 hx2 hx3
  go_wp2_with (first
    | (with_reducible show wpList _ _ _ ({ dst := _, op := Op.build 34 _, type := _, pos := _, after := _, guard := _ } :: _) _ _
       refine build_g rfl 34 _ rfl _ ((congrArg (prog.built 34) (by simp only [List.map_toArray, List.map_cons, List.map_nil]; rfl)).trans HB2.out) ?_
       simp only [Act.put, uz]))
  refine HEN.out.mono ?_; rintro e w9 ⟨rfl, g9⟩; have BS9 := Kp.mk (BS8.out.kept g9); clear g9 BS8 HEN HB2; go_wp2_with fail; refine (HHE.out w9 (HK.out.1.kept BS9.out.g (by simp)) BS9.out.c).mono ?_; rintro e w15 ⟨rfl, h15, g15⟩; have BS15 := Kp.mk (BS9.out.turn h15 g15); clear h15 g15 BS9 HHE
  have HD2 : Kp (CRt 10 #[.string cn] w15 (.tuple #[dv (conX nc x), .int .i64 0])) := ⟨by
    have h := decode_c cn w15 (by have := HX.out.2.2; omega); rw [HX.out.1] at h
    exact h⟩
  go_wp2_with fail; refine HD2.out.mono ?_; rintro e w16 ⟨rfl, g16⟩; have BS16 := Kp.mk (BS15.out.kept g16); clear g16 BS15 HD2
  have HSD : Kp (∀ w3 : World, w16.grownBy w3 (some w6.heap.size) → CRt 11 #[.string cn, .string sc] w3 (.bool true)) := ⟨fun w3 g => by
    have h := sealed_c cn sc w3 (HK.out.1.kept (gr_new BS16.out.g g BS16.out.dn) (by simp)) (by have := HX.out.2.2; omega) (by have := HSZ.out; omega); rw [HX.out.2.1] at h
    exact h⟩
  go_wp2_with (first
    | (with_reducible show wpList _ _ _ ({ dst := none, op := Op.store 34 _ _, type := _, pos := _, after := _, guard := _ } :: _) _ _
       refine st_part w16 w6.heap.size 0 (helD (saidC sc nc)).cells (conX nc x).cells 34 34 rfl rfl rfl rfl BS16.out.d (by show 0 + 15 ≤ 15; omega) info26 (dg_one _) ?_; intro w9 h9 g9; have BS9 : Kp (BS w w9 cb w1.heap.size w6.heap.size (saidC sc nc) sc (conX nc x).cells) := ⟨BS16.out.over (by rw [over_all (helD (saidC sc nc)).cells (conX nc x).cells rfl] at h9; exact h9) g9⟩; have G9 : Kp (w16.grownBy w9 (some w6.heap.size)) := ⟨g9⟩
       clear h9 g9))
  have d0 : w9.cell? ⟨w6.heap.size, 0, none⟩ = some (.int .i64 3) := BS9.out.d.cellv 0 _ rfl; have d1 : w9.cell? ⟨w6.heap.size, 1, none⟩ = some (.string nc) := BS9.out.d.cellv 1 _ rfl; have d2 : w9.cell? ⟨w6.heap.size, 2, none⟩ = some (.int .u64 7) := BS9.out.d.cellv 2 _ rfl; have d3 : w9.cell? ⟨w6.heap.size, 3, none⟩ = some (.string cokB) := BS9.out.d.cellv 3 _ rfl; have d4 : w9.cell? ⟨w6.heap.size, 4, none⟩ = some (.string { data := #[97, 110, 110] }) := BS9.out.d.cellv 4 _ rfl; have a1 : w9.cell? ⟨w1.heap.size, 1, none⟩ = some (.string sc) := BS9.out.a.cellv 1 _ rfl; refine region_Y (S := fun w' => w9.grownBy w' none) [] (by kernel_rfl) ?_; have hHeld := gr_drew w9 none; refine yq 0 rfl ?_; simp only [Act.put, uz]; refine yq 1 rfl ?_; simp only [Act.put, uz]; refine yq 2 rfl ?_; simp only [Act.put, uz]; refine yq 3 rfl ?_; simp only [Act.put, uz]; refine yq 4 rfl ?_; simp only [Act.put, uz]; refine yq 5 rfl ?_; simp only [Act.put, uz]; refine yq 6 rfl ?_; simp only [Act.put, uz]; refine yq 7 rfl ?_; simp only [Act.put, uz]; refine yk 8 rfl ?_ (fun w hSw => by have k0 := hSw.cell d0 (by simp); go_simp; first | done | (with_reducible rfl)); simp only [Act.put, uz]; refine yq 9 rfl ?_; simp only [Act.put, uz]; refine yq 10 rfl ?_; simp only [Act.put, uz]; refine yq 11 rfl ?_; simp only [Act.put, uz]; refine yq 12 rfl ?_; simp only [Act.put, uz]; refine yk 13 rfl ?_ (fun w hSw => by have k0 := hSw.cell d1 (by simp); go_simp; first | done | (with_reducible rfl)); simp only [Act.put, uz]; refine yq 14 rfl ?_; simp only [Act.put, uz]; refine yq 15 rfl ?_; simp only [Act.put, uz]; refine yq 16 rfl ?_; simp only [Act.put, uz]; refine yq 17 rfl ?_; simp only [Act.put, uz]; refine yq 18 rfl ?_; simp only [Act.put, uz]; refine yk 19 rfl ?_ (fun w hSw => by have k0 := hSw.cell d2 (by simp); go_simp; first | done | (with_reducible rfl)); simp only [Act.put, uz]; refine yq 20 rfl ?_; simp only [Act.put, uz]; refine yq 21 rfl ?_; simp only [Act.put, uz]; refine yq 22 rfl ?_; simp only [Act.put, uz]; refine yq 23 rfl ?_; simp only [Act.put, uz]; refine yk 24 rfl ?_ (fun w hSw => by have k0 := hSw.cell d3 (by simp); go_simp; first | done | (with_reducible rfl)); simp only [Act.put, uz]; refine yo 25 (fun K hK => ?_) rfl; go_simp; refine (HCK.out _).mono ?_; rintro e w10 ⟨rfl, g100⟩; have g10 := Kp.mk (hHeld.trans g100); refine hK.out _ _ (fun q => q.trans g100) ?_; clear hK K g100; have hHeld := g10.out; refine yq 26 rfl ?_; simp only [Act.put, uz]; refine yq 27 rfl ?_; simp only [Act.put, uz]; refine yq 28 rfl ?_; simp only [Act.put, uz]; refine yq 29 rfl ?_; simp only [Act.put, uz]; refine yk 30 rfl ?_ (fun w hSw => by have k0 := hSw.cell d4 (by simp); go_simp; first | done | (with_reducible rfl)); simp only [Act.put, uz]; refine yq 31 rfl ?_; simp only [Act.put, uz]; refine yq 32 rfl ?_; simp only [Act.put, uz]; refine yq 33 rfl ?_; simp only [Act.put, uz]; refine yq 34 rfl ?_; simp only [Act.put, uz]; refine yq 35 rfl ?_; simp only [Act.put, uz]; refine yk 36 rfl ?_ (fun w hSw => by have k0 := hSw.cell a1 (by simp); go_simp; first | done | (with_reducible rfl)); simp only [Act.put, uz]; refine yo 37 (fun K hK => ?_) rfl; go_simp; refine (HSD.out _ (G9.out.trans (gr_weak g10.out _))).mono ?_; rintro e w11 ⟨rfl, g110⟩; have g11 := Kp.mk (g10.out.trans g110); refine hK.out _ _ (fun q => q.trans g110) ?_; clear hK K g110; have hHeld := g11.out; refine yq 38 rfl ?_; simp only [Act.put, uz]; refine yq 39 rfl ?_; simp only [Act.put, uz]; refine yd ?_; have BS11 := Kp.mk (BS9.out.kept g11.out); clear d0 d1 d2 d3 d4 a1 g10 g11 hHeld HSD HCK BS9 BS16 G9; go_wp2_with fail; refine (HSL.out w11).mono ?_; rintro e w12 ⟨rfl, g12⟩; have BS12 := Kp.mk (BS11.out.kept g12); clear g12 BS11 HSL; have a1 : w12.cell? ⟨w1.heap.size, 1, none⟩ = some (.string sc) := BS12.out.a.cellv 1 _ rfl
  have HDR : Kp (∀ w' : World, w12.grownBy w' none → ∀ {b : Nat}, Strs w' (some ⟨b, 0, none⟩) 3 [nc, salB, eiB n] → Calls prog 32 #[.string sc, .string { data := #[115, 101, 115, 115, 105, 111, 110] }, .slice (some ⟨b, 0, none⟩) 3 3] w' fun e w2 => e = .returned (.string K) ∧ w'.grownBy w2 none) := ⟨fun w' g b hs => by
    rw [← HKK.out]
    exact derive_gen sc sesU _ 3 3 [nc, salB, eiB n] w' (HK.out.1.kept (BS12.out.g.trans g) (by simp)) hs (by have := HSZ.out; omega) (by show 7 ≤ _; omega) (by omega) (fun j p hj => by
      rcases j with _ | _ | _ | j
      · (obtain rfl : nc = p := by simpa using hj); have := HSZ.out; omega
      · (obtain rfl : salB = p := by simpa using hj); rw [sal_size]; omega
      · (obtain rfl : eiB n = p := by simpa using hj); show 8 ≤ _; omega
      · simp at hj)⟩
  have HEI := Kp.mk (fun w => eight_c n w); generalize hsl : salB = slB at HDR ⊢; generalize hei : eiB n = eB at HDR HEI ⊢; go_wp2_with fail; refine region_Y (S := fun w' => w12.grownBy w' none) [] (by kernel_rfl) ?_; have hHeld := gr_drew w12 none; refine yq 0 rfl ?_; simp only [Act.put, uz]; refine yk 1 rfl ?_ (fun w hSw => by have k0 := hSw.cell a1 (by simp); go_simp; first | done | (with_reducible rfl)); simp only [Act.put, uz]; refine yq 2 rfl ?_; simp only [Act.put, uz]; refine yq 3 rfl ?_; simp only [Act.put, uz]; refine yq 4 rfl ?_; simp only [Act.put, uz]; refine yo 5 (fun K hK => ?_) rfl; go_simp; refine (HEI.out _).mono ?_; rintro e w13 ⟨rfl, g130⟩; have g13 := Kp.mk (hHeld.trans g130); refine hK.out _ _ (fun q => q.trans g130) ?_; clear hK K g130; have hHeld := g13.out; refine yo 6 (fun K hK => ?_) rfl; go_simp; refine hK.out _ _ (fun q => q.trans (gAl _ _ _)) ?_; clear hK K; refine yo 7 (fun K hK => ?_) rfl; go_simp; refine (HDR.out _ (g13.out.trans (gAl _ _ _)) (strs_new w13 [nc, slB, eB])).mono ?_; rintro e w14 ⟨rfl, g14⟩; have G14 := Kp.mk ((g13.out.trans (gAl w13 (.cells ([nc, slB, eB].map Value.string).toArray 9) none)).trans g14); refine hK.out _ _ (fun q => q.trans g14) ?_; clear hK K g14; refine yo 8 (fun K hK => ?_) rfl; go_simp; refine hK.out _ _ (fun h => h) ?_; clear hK K; refine yd ?_; have BS14 := Kp.mk (BS12.out.kept G14.out); subst hsl; clear a1 G14 g13 hHeld HDR HEI hei BS12; have HB3 : Kp (prog.built 34 [(0, .int .i64 4), (1, .string nc), (5, .int .u64 (n : Int)), (6, .int .i64 3), (7, .string salB)] = some (welD nc n).cells.toArray) := ⟨builtWel _ _ _⟩
  have HSE : Kp (CRt 18 #[.agg (welD nc n).cells.toArray, .string K] w14 (.tuple #[.string (sealD (welD nc n) K).1, .int .i64 0])) := ⟨by
    have h := seal_c (welD nc n) K (wel_fine nc HK.out.2.2.2) (wel_small HSZ.out.2 n) w14 (HK.out.1.kept BS14.out.g (by simp)) (by rw [← HKK.out]; unfold begK; rw [keyB_size]; omega); rw [wel_yes nc K HSZ.out.2 HK.out.2.2.2] at h
    exact h⟩
  have HHW : Kp (∀ w3 : World, Kc w3 → Has w3 cb (saidC sc nc).cs 83 → Calls prog 15 #[pa cb 0, .string (sealD (welD nc n) K).1] w3 fun e w' => e = .returned (.tuple #[.string { data := #[] }, iv 0]) ∧ Has w' cb (begC sc nc n).cs 83 ∧ w3.grownBy w' (some cb)) := ⟨fun w3 hk hh => by
    have h := hear_c cb (saidC sc nc) (sealD (welD nc n) K).1 w3 hk hh (said_ok HSZ.out.1 HSZ.out.2) (by obtain ⟨_, _, _, q⟩ := wel_dec nc K HSZ.out.2 HK.out.2.2.2; omega); rw [← HKK.out, hea_wel sc nc HSZ.out.2 HK.out.2.2.2 HK.out.2.2.1] at h; rw [← HKK.out]
    exact h⟩
  generalize (sealD (welD nc n) K).1 = wl at HSE HHW
  go_wp2_with (first
    | (with_reducible show wpList _ _ _ ({ dst := _, op := Op.build 34 _, type := _, pos := _, after := _, guard := _ } :: _) _ _
       refine build_g rfl 34 _ rfl _ ((congrArg (prog.built 34) (by simp only [List.map_toArray, List.map_cons, List.map_nil]; rfl)).trans HB3.out) ?_
       simp only [Act.put, uz]))
  refine HSE.out.mono ?_; rintro e w17 ⟨rfl, g17⟩; have BS17 := Kp.mk (BS14.out.kept g17); clear g17 BS14 HSE HB3; go_wp2_with fail; refine (HHW.out w17 (HK.out.1.kept BS17.out.g (by simp)) BS17.out.c).mono ?_; rintro e w18 ⟨rfl, h18, g18⟩; have BS18 := Kp.mk (BS17.out.turn h18 g18); clear h18 g18 BS17 HHW
  have HPL : Kp (CRt 13 #[pa cb 0] w18 (.tuple #[.int .u64 (n : Int), iv 3, .bool true])) := ⟨by
    have h := playing_t cb (begC sc nc n) w18 BS18.out.c; rw [show decide ((begC sc nc n).num ≠ 0) = true from decide_eq_true HK.out.2.2.1] at h
    exact h⟩
  go_wp2_with fail; refine HPL.out.mono ?_; rintro e w19 ⟨rfl, g19⟩; have BS19 := Kp.mk (BS18.out.kept g19); clear g19 BS18 HPL; go_wp2_with fail; go_ret3; exact ⟨cb, rfl, BS19.out.c, BS19.out.g, BS19.out.cn⟩
open Go.Maps
structure Cm where
  t : Int
  u : Int
  f : Bool
  b : Bool
def Cm.cs (c : Cm) : List Value := [.int .i64 c.t, .int .i64 c.u, .bool c.f, .bool c.b]
structure Cm.ok (c : Cm) : Prop where
  t : -9223372036854775808 ≤ c.t ∧ c.t < 9223372036854775808
  u : -9223372036854775808 ≤ c.u ∧ c.u < 9223372036854775808
def CmR (w : World) (a : Option Addr) (L : List Cm) : Prop := 0 < L.length → ∃ b o, a = some ⟨b, o, none⟩ ∧ ∀ j c, L[j]? = some c → w.rangeAt b (o + j * 4) c.cs
theorem CmR.kept {w w' : World} {a : Option Addr} {L : List Cm} (h : CmR w a L) (g : w.grownBy w' none) : CmR w' a L := fun q => by
  obtain ⟨b, o, e, r⟩ := h q; exact ⟨b, o, e, fun j c hj i v hv => g.cell (r j c hj i v hv) (by simp)⟩
end Go.Proofs.YtldnpebnpbahjaaGreatDoor.Pk.Sn
