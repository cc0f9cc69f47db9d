import Derived.Test.YtkdjcknikhgfkaaGreatDoorSR3
import Derived.Test.YtkdjcknikhgfkaaGreatDoorX32
/- SnapReads: the walk -/
namespace Go.Proofs.YtkdjcknikhgfkaaGreatDoor.Pk.Sn
open Go Go.RowKit

set_option maxRecDepth 100000 in
theorem rd_len (b : List UInt8) : (rdV b).1.S.length ≤ 255 := by
  by_cases h : (rdV b).2 = 0
  · exact fit_cnt (wr_rd h).2.1.h
  · rw [(rd_codes b).2 h]; exact Nat.zero_le _
set_option maxRecDepth 100000 in
theorem op_len (s key : ByteArray) : (opS s key).2.2.1.S.length ≤ 255 := by
  by_cases h : (unS s key).2 = 0
  · by_cases h2 : (rdV (sl (unS s key).1.data)).2 = 0
    · have e : (opS s key).2.2.1 = (rdV (sl (unS s key).1.data)).1 := by rw [op_3 h h2]
      rw [e]; exact rd_len _
    · have e : (opS s key).2.2.1 = Vw.zero := by rw [op_2 h h2]
      rw [e]; exact Nat.zero_le _
  · have e : (opS s key).2.2.1 = Vw.zero := by rw [op_1 h]
    rw [e]; exact Nat.zero_le _
set_option maxHeartbeats 8000000 in
set_option maxRecDepth 100000 in
theorem snapReads_c (view data key : ByteArray) (w : World) (hk : Kc w) (hr : RK w) (h4 : 4 ≤ w.heap.size) (hs : data.size ≤ 2147483648) (hkey : key.size ≤ 2147483648) :
    Calls Tryz.prog 8 #[.string view, .string data, .string key] w fun e w' => e = .returned (.bool true) ∧ w.grownBy w' none := by
  obtain ⟨d, hd, hrw⟩ := underV
  have HK := Keep.mk (And.intro hk (And.intro hr (And.intro h4 (And.intro hs hkey))))
  clear hk hr h4 hs hkey
  go_enter Tryz.func8, Tryz.ntmps8
  go_wp2_with fail
  refine (alive_c w HK.out.1).mono ?_
  rintro e wk0 ⟨rfl, g1⟩
  have HS0 : Keep (St w wk0 []) := ⟨⟨g1, fun _ hx => absurd hx List.not_mem_nil⟩⟩
  clear g1
  obtain ⟨V, hV⟩ : ∃ q, (rdV (sl view)).1 = q := ⟨_, rfl⟩
  obtain ⟨rc, hrc⟩ : ∃ q, (rdV (sl view)).2 = q := ⟨_, rfl⟩
  have hVl : V.S.length ≤ 255 := by rw [← hV]; exact rd_len _
  have HV := Keep.mk (And.intro hV (And.intro hrc hVl))
  obtain ⟨U, hU⟩ : ∃ q, (opS data key).2.2.1 = q := ⟨_, rfl⟩
  obtain ⟨u1, hu1⟩ : ∃ q, (opS data key).1 = q := ⟨_, rfl⟩
  obtain ⟨u2, hu2⟩ : ∃ q, (opS data key).2.1 = q := ⟨_, rfl⟩
  obtain ⟨u3, hu3⟩ : ∃ q, (opS data key).2.2.2 = q := ⟨_, rfl⟩
  have hUl : U.S.length ≤ 255 := by rw [← hU]; exact op_len _ _
  have HU := Keep.mk (And.intro hU (And.intro hu1 (And.intro hu2 (And.intro hu3 hUl))))
  have hne : (rc != rc) = false := by simp
  have he1 : ((u1 : Int) == (u1 : Int)) = true := by simp
  have he2 : ((u2 : Int) == (u2 : Int)) = true := by simp
  have he3 : (u3 == u3) = true := by simp
  clear hV hrc hVl hU hu1 hu2 hu3 hUl
  go_wp2_with fail
  have C1 := read_c view wk0
  rw [HV.out.1, HV.out.2.1] at C1
  refine C1.mono ?_
  rintro e wr1 ⟨aa, ca, rfl, RR⟩
  have HR1 := Keep.mk (HS0.out.kept RR.g)
  have HN1 := Keep.mk (rd_seen RR)
  clear C1
  go_wp2_with (first
    | (with_reducible show wpList _ _ _ ({ dst := _, op := Op.load 29 (Operand.tmp 7), type := _, pos := _, after := _, guard := _ } :: _) _ _
       refine load_g rfl 29 _ rfl wr1.heap.size 0 rfl (V.cs aa ca) d (HS2.out.has mm0).range hd hrw infoV ?_)
    | (with_reducible show wpList _ _ _ ({ dst := none, op := Op.store 29 (Operand.tmp 7) _, type := _, pos := _, after := _, guard := _ } :: _) _ _
       refine st_new wr1 (V.cs aa ca) 29 rfl rfl rfl rfl rfl infoV (vw_one _ _ _) ?_
       intro wk2 h6 g6
       have HS2 := Keep.mk (HR1.out.add h6 g6 HN1.out)
       clear h6 g6))
  have C3 := rread_c view wk2
  rw [HV.out.1, HV.out.2.1] at C3
  refine C3.mono ?_
  rintro e wr3 ⟨ab, cb, rfl, gg, RR⟩
  have HR3 := Keep.mk (HS2.out.kept gg)
  have HN3 := Keep.mk (RR.seen)
  clear C3
  go_wp2_with (first
    | (with_reducible show wpList _ _ _ ({ dst := _, op := Op.load 29 (Operand.tmp 9), type := _, pos := _, after := _, guard := _ } :: _) _ _
       refine load_g rfl 29 _ rfl wr3.heap.size 0 rfl (V.cs ab cb) d (HS4.out.has mm0).range hd hrw infoV ?_)
    | (with_reducible show wpList _ _ _ ({ dst := _, op := Op.load 29 (Operand.tmp 7), type := _, pos := _, after := _, guard := _ } :: _) _ _
       refine load_g rfl 29 _ rfl wr1.heap.size 0 rfl (V.cs aa ca) d (HS4.out.has mm1).range hd hrw infoV ?_)
    | (with_reducible show wpList _ _ _ ({ dst := none, op := Op.store 29 (Operand.tmp 9) _, type := _, pos := _, after := _, guard := _ } :: _) _ _
       refine st_new wr3 (V.cs ab cb) 29 rfl rfl rfl rfl rfl infoV (vw_one _ _ _) ?_
       intro wk4 h6 g6
       have HS4 := Keep.mk (HR3.out.add h6 g6 HN3.out)
       clear h6 g6)
    | (with_reducible show wpList _ _ _ ({ dst := _, op := Op.load 29 (Operand.tmp 7), type := _, pos := _, after := _, guard := _ } :: _) _ _
       refine load_g rfl 29 _ rfl wr1.heap.size 0 rfl (V.cs aa ca) d (HR3.out.has mm0).range hd hrw infoV ?_))
  refine (same_c V V aa ab ca cb wk4 (HS4.out.seen mm1) (HS4.out.seen mm0) (by have := HV.out.2.2; omega)).mono ?_
  rintro e wk5 ⟨b, rfl, hb, g⟩
  have HS5 := Keep.mk (HS4.out.kept g)
  obtain rfl : b = true := hb.2 rfl
  clear hb g
  go_wp2_with fail
  have C6 := open_c data key wk5 (HK.out.1.kept HS5.out.g (by simp)) (by have := HK.out.2.2.2.1; omega) (by have := HK.out.2.2.2.2; omega)
  rw [HU.out.1, HU.out.2.1, HU.out.2.2.1, HU.out.2.2.2.1] at C6
  refine C6.mono ?_
  rintro e wr6 ⟨ac, cc, rfl, RR⟩
  have HR6 := Keep.mk (HS5.out.kept RR.g)
  have HN6 := Keep.mk (rd_seen RR)
  clear C6
  go_wp2_with (first
    | (with_reducible show wpList _ _ _ ({ dst := _, op := Op.load 29 (Operand.tmp 13), type := _, pos := _, after := _, guard := _ } :: _) _ _
       refine load_g rfl 29 _ rfl wr6.heap.size 0 rfl (U.cs ac cc) d (HS7.out.has mm0).range hd hrw infoV ?_)
    | (with_reducible show wpList _ _ _ ({ dst := _, op := Op.load 29 (Operand.tmp 9), type := _, pos := _, after := _, guard := _ } :: _) _ _
       refine load_g rfl 29 _ rfl wr3.heap.size 0 rfl (V.cs ab cb) d (HS7.out.has mm1).range hd hrw infoV ?_)
    | (with_reducible show wpList _ _ _ ({ dst := _, op := Op.load 29 (Operand.tmp 7), type := _, pos := _, after := _, guard := _ } :: _) _ _
       refine load_g rfl 29 _ rfl wr1.heap.size 0 rfl (V.cs aa ca) d (HS7.out.has mm2).range hd hrw infoV ?_)
    | (with_reducible show wpList _ _ _ ({ dst := none, op := Op.store 29 (Operand.tmp 13) _, type := _, pos := _, after := _, guard := _ } :: _) _ _
       refine st_new wr6 (U.cs ac cc) 29 rfl rfl rfl rfl rfl infoV (vw_one _ _ _) ?_
       intro wk7 h6 g6
       have HS7 := Keep.mk (HR6.out.add h6 g6 HN6.out)
       clear h6 g6)
    | (with_reducible show wpList _ _ _ ({ dst := _, op := Op.load 29 (Operand.tmp 9), type := _, pos := _, after := _, guard := _ } :: _) _ _
       refine load_g rfl 29 _ rfl wr3.heap.size 0 rfl (V.cs ab cb) d (HR6.out.has mm0).range hd hrw infoV ?_)
    | (with_reducible show wpList _ _ _ ({ dst := _, op := Op.load 29 (Operand.tmp 7), type := _, pos := _, after := _, guard := _ } :: _) _ _
       refine load_g rfl 29 _ rfl wr1.heap.size 0 rfl (V.cs aa ca) d (HR6.out.has mm1).range hd hrw infoV ?_))
  have C8 := ropen_c data key wk7 (HK.out.2.1.kept HS7.out.g) (Nat.le_trans HK.out.2.2.1 HS7.out.g.size) HK.out.2.2.2.1 HK.out.2.2.2.2
  rw [HU.out.1, HU.out.2.1, HU.out.2.2.1, HU.out.2.2.2.1] at C8
  refine C8.mono ?_
  rintro e wr8 ⟨ad, cd, rfl, gg, RR⟩
  have HR8 := Keep.mk (HS7.out.kept gg)
  have HN8 := Keep.mk (RR.seen)
  clear C8
  go_wp2_with (first
    | (with_reducible show wpList _ _ _ ({ dst := _, op := Op.load 29 (Operand.tmp 17), type := _, pos := _, after := _, guard := _ } :: _) _ _
       refine load_g rfl 29 _ rfl wr8.heap.size 0 rfl (U.cs ad cd) d (HS9.out.has mm0).range hd hrw infoV ?_)
    | (with_reducible show wpList _ _ _ ({ dst := _, op := Op.load 29 (Operand.tmp 13), type := _, pos := _, after := _, guard := _ } :: _) _ _
       refine load_g rfl 29 _ rfl wr6.heap.size 0 rfl (U.cs ac cc) d (HS9.out.has mm1).range hd hrw infoV ?_)
    | (with_reducible show wpList _ _ _ ({ dst := _, op := Op.load 29 (Operand.tmp 9), type := _, pos := _, after := _, guard := _ } :: _) _ _
       refine load_g rfl 29 _ rfl wr3.heap.size 0 rfl (V.cs ab cb) d (HS9.out.has mm2).range hd hrw infoV ?_)
    | (with_reducible show wpList _ _ _ ({ dst := _, op := Op.load 29 (Operand.tmp 7), type := _, pos := _, after := _, guard := _ } :: _) _ _
       refine load_g rfl 29 _ rfl wr1.heap.size 0 rfl (V.cs aa ca) d (HS9.out.has mm3).range hd hrw infoV ?_)
    | (with_reducible show wpList _ _ _ ({ dst := none, op := Op.store 29 (Operand.tmp 17) _, type := _, pos := _, after := _, guard := _ } :: _) _ _
       refine st_new wr8 (U.cs ad cd) 29 rfl rfl rfl rfl rfl infoV (vw_one _ _ _) ?_
       intro wk9 h6 g6
       have HS9 := Keep.mk (HR8.out.add h6 g6 HN8.out)
       clear h6 g6)
    | (with_reducible show wpList _ _ _ ({ dst := _, op := Op.load 29 (Operand.tmp 13), type := _, pos := _, after := _, guard := _ } :: _) _ _
       refine load_g rfl 29 _ rfl wr6.heap.size 0 rfl (U.cs ac cc) d (HR8.out.has mm0).range hd hrw infoV ?_)
    | (with_reducible show wpList _ _ _ ({ dst := _, op := Op.load 29 (Operand.tmp 9), type := _, pos := _, after := _, guard := _ } :: _) _ _
       refine load_g rfl 29 _ rfl wr3.heap.size 0 rfl (V.cs ab cb) d (HR8.out.has mm1).range hd hrw infoV ?_)
    | (with_reducible show wpList _ _ _ ({ dst := _, op := Op.load 29 (Operand.tmp 7), type := _, pos := _, after := _, guard := _ } :: _) _ _
       refine load_g rfl 29 _ rfl wr1.heap.size 0 rfl (V.cs aa ca) d (HR8.out.has mm2).range hd hrw infoV ?_))
  refine (same_c U U ac ad cc cd wk9 (HS9.out.seen mm1) (HS9.out.seen mm0) (by have := HU.out.2.2.2.2; omega)).mono ?_
  rintro e wk10 ⟨b, rfl, hb, g⟩
  have HS10 := Keep.mk (HS9.out.kept g)
  obtain rfl : b = true := hb.2 rfl
  clear hb g
  go_wp2_with fail
  go_ret
  exact ⟨rfl, HS10.out.g⟩
end Go.Proofs.YtkdjcknikhgfkaaGreatDoor.Pk.Sn
