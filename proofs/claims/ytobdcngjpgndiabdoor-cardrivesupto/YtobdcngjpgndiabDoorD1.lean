/- the laws' alive -/
import Derived.Test.YtobdcngjpgndiabDoorC7
import Derived.Test.YtobdcngjpgndiabDoorBA7
namespace Go.Proofs.YtobdcngjpgndiabDoor.Bo
open Go Go.RowKit

def smT : List UInt8 := [35, 35, 35, 35, 35, 35, 10, 35, 83, 46, 69, 46, 35, 10, 35, 46, 35, 35, 46, 35, 10, 35, 65, 46, 83, 83, 35, 10, 35, 35, 35, 35, 35, 35, 10]
def smL : Bo := [[35, 35, 35, 35, 35, 35], [35, 83, 46, 69, 46, 35], [35, 46, 35, 35, 46, 35], [35, 65, 46, 83, 83, 35], [35, 35, 35, 35, 35, 35]]
def smS : List (Int × Int) := [(786432, 786432), (1835008, 1835008), (2359296, 1835008)]
theorem sm_lns : lns ⟨smT.toArray⟩ = smL := by
  unfold lns
  rw [rn_ascii smT (by decide +kernel)]
  decide +kernel
theorem sm_ev : ev smL := by decide +kernel
theorem sm_spn : spn smL = smS := by decide +kernel
theorem sm_free : ¬ blk smL (1838848, 1835008) 98304 := by
  unfold blk
  rw [if_neg (by decide)]
  rintro (h | h | ⟨y, x, h1, h2, h3, h4, h5⟩)
  · exact absurd (by decide +kernel) h
  · exact absurd (by decide +kernel) h
  · simp only [nm] at h1 h2 h3 h4
    have e1 : x = 3 := by omega
    have e2 : y = 3 := by omega
    subst e1
    subst e2
    exact absurd h5 (by decide +kernel)
def annB : ByteArray := ⟨#[97, 110, 110]⟩
def smC : Cr := { pl := 1, nm := annB, x := 1835008, y := 1835008, sx := 0, sy := 0, hd := 0, he := 100, en := 100, am := 20, co := 0, wa := 0, sp := 0, sc := 0 }
def smI : It := ⟨0, 100, 0, false, false⟩
def smD : Cr := { pl := 1, nm := annB, x := 1838848, y := 1835008, sx := 3840, sy := 0, hd := 0, he := 100, en := 100, am := 20, co := 0, wa := 0, sp := 0, sc := 0 }
theorem sm_new : newC smL 1 annB = smC := by
  have h : spw smL (w64 (1 + 0)) = (1835008, 1835008) := by
    unfold spw
    rw [sm_spn]
    decide +kernel
  unfold newC frC zC smC
  simp only [h]
theorem sm_st : stL (stS (stP (stB (stH smC smI) smI) (pwB (stH smC smI) smI (pw0 smI)))) = { smC with sx := 3840 } := by decide +kernel
theorem sm_drv : drvC smL smC smI = smD := by
  unfold drvC
  rw [if_neg (by decide), sm_st]
  have e1 : stX smL { smC with sx := 3840 } = { smC with sx := 3840, x := 1838848 } := by
    unfold stX
    rw [if_neg (by show ¬ blk smL (addZ 1835008 3840, 1835008) 98304; rw [show addZ 1835008 3840 = 1838848 from by decide +kernel]; exact sm_free)]
    rw [show addZ ({ smC with sx := 3840 } : Cr).x ({ smC with sx := 3840 } : Cr).sx = 1838848 from by decide +kernel]
  rw [e1]
  unfold stY
  rw [if_neg (by show ¬ blk smL (1838848, addZ 1835008 0) 98304; rw [show addZ 1835008 0 = 1835008 from by decide +kernel]; exact sm_free)]
  decide +kernel
theorem smC_ok : CrOk smC := by
  constructor <;> first | decide | exact ⟨by decide, by decide⟩
set_option maxRecDepth 100000 in
theorem built41 : Tryd.prog.built 34 [(1, iv 100)] = some (itv smI).toArray := by kernel_rfl
set_option maxRecDepth 100000 in
theorem built30 (x y : Int) : Tryd.prog.built 23 [(0, iv x), (1, iv y)] = some #[iv x, iv y] := by kernel_rfl
set_option maxRecDepth 100000 in
theorem built30x (x : Int) : Tryd.prog.built 23 [(0, iv x)] = some #[iv x, iv 0] := by kernel_rfl
set_option maxRecDepth 100000 in
set_option maxHeartbeats 8000000 in
theorem alive_c (w : World) (hk : Kc w) : Calls Tryd.prog 5 #[] w fun e w' => e = .returned (.bool true) ∧ w.grownBy w' none := by
  obtain ⟨du, hdu, hdr⟩ := underC
  have hP := parse_c w ⟨smT.toArray⟩
  rw [sm_lns, sm_spn] at hP
  have HP : Keep (Calls Tryd.prog 8 #[.string ⟨#[35, 35, 35, 35, 35, 35, 10, 35, 83, 46, 69, 46, 35, 10, 35, 46, 35, 35, 46, 35, 10, 35, 65, 46, 83, 83, 35, 10, 35, 35, 35, 35, 35, 35, 10]⟩] w fun e w' => w.grownBy w' none ∧ ∃ kb, e = .returned (.tuple #[pt kb, iv 0]) ∧ Bd w' (pt kb) smL) := ⟨hP.mono fun e w' q => by
    refine ⟨q.1, ?_⟩
    rcases q.2 with ⟨h, _⟩ | ⟨_, h, _⟩ | ⟨_, _, v, h1, h2⟩
    · exact absurd sm_ev h
    · cases h
    · obtain ⟨kb, _, _, hv, _⟩ := h2.o
      subst hv
      exact ⟨kb, h1, h2⟩⟩
  have HN := Keep.mk (fun W kb (h : Bd W (pt kb) smL) => new_c W (pt kb) smL 1 annB h (by rw [sm_spn]; decide) (by decide))
  have HR := Keep.mk (fun W kb (h : Bd W (pt kb) smL) (hk : Kc W) => drive_c W (pt kb) smL smC smI smC_ok h hk)
  rw [sm_new] at HN
  rw [sm_drv] at HR
  have HBI := Keep.mk built41
  have HK := Keep.mk hk
  have HLC := Keep.mk (crv_one smC)
  have HLD := Keep.mk (crv_one smD)
  clear hP hk
  go_enter Tryd.func5, Tryd.ntmps5
  go_wp2_with fail
  refine HP.out.mono ?_
  rintro e w1 ⟨g1, kb, rfl, hB⟩
  have HB1 := Keep.mk (And.intro g1 hB)
  have hN := HN.out w1 kb hB
  clear g1 hB HP HN
  go_wp2_with fail
  refine hN.mono ?_
  rintro e w2 ⟨rfl, g2⟩
  have HB2 := Keep.mk (And.intro (HB1.out.1.trans g2) (HB1.out.2.kept g2))
  clear hN g2 HB1
  have S3 := (Sep.start HB2.out.1).newBox zC14.toArray 25
  obtain ⟨W3, hW3⟩ : ∃ W3, w2.alloc (.cells zC14.toArray 25) = W3 := ⟨_, rfl⟩
  obtain ⟨cb, hcb⟩ : ∃ cb, w2.heap.size = cb := ⟨_, rfl⟩
  rw [hW3, hcb] at S3
  change Sep w W3 [boxA cb zC14 25] at S3
  unfold zC14 crv zC at hW3
  change w2.alloc _ = W3 at hW3
  have HS3 := Keep.mk S3
  have HRB := Keep.mk (S3.boxGet k0m)
  have HG3 : Keep (w2.grownBy W3 none) := ⟨by rw [← hW3]; exact World.grownBy_alloc _ _ _⟩
  clear S3
  go_wp2_with (first
    | (show wpList _ _ _ ({ dst := _, op := Op.store 25 _ _, type := _, pos := _, after := _, guard := _ } :: _) _ _
       refine store_at _ cb 0 zC14 (crv smC) 25 25 rfl rfl rfl rfl HRB.out (Nat.le_refl _) (infoC' smC) HLC.out ?_))
  intro w4 hS4 g4
  have S4 := hS4 _ _ HS3.out
  rw [over_all zC14 (crv smC) rfl] at S4
  have HS4 := Keep.mk S4
  have HB4 : Keep (Bd w4 (pt kb) smL) := ⟨HB2.out.2.kept (gr_new HG3.out g4 (by rw [hcb]; exact Nat.le_refl _))⟩
  have RNG := Keep.mk (S4.boxGet k0m).range
  have hR := HR.out w4 kb HB4.out (HK.out.kept S4.g)
  clear hS4 g4 S4 HS3 HRB HG3 HB2 hW3 hcb HR HB4
  go_wp2_with (first
    | (show wpList _ _ _ ({ dst := _, op := Op.load 25 _, type := _, pos := _, after := _, guard := _ } :: _) _ _
       refine wpList_load_mid rfl 25 _ rfl _ _ rfl _ _ RNG.out hdu hdr (infoC' smC) ?_)
    | (show wpList _ _ _ ({ dst := _, op := Op.build 34 _, type := _, pos := _, after := _, guard := _ } :: _) _ _
       refine wpList_build rfl 34 _ rfl _ ((congrArg (Tryd.prog.built 34) (by simp only [List.map_toArray, List.map_cons, List.map_nil]; rfl)).trans HBI.out) ?_))
  refine hR.mono ?_
  rintro e w5 ⟨rfl, g5⟩
  have S6 := (HS4.out.grown g5).newBox zC14.toArray 25
  obtain ⟨W6, hW6⟩ : ∃ W3, w5.alloc (.cells zC14.toArray 25) = W3 := ⟨_, rfl⟩
  obtain ⟨db, hdb⟩ : ∃ cb, w5.heap.size = cb := ⟨_, rfl⟩
  rw [hW6, hdb] at S6
  change Sep w W6 [boxA db zC14 25, boxA cb (crv smC) 25] at S6
  unfold zC14 crv zC at hW6
  change w5.alloc _ = W6 at hW6
  have HS6 := Keep.mk S6
  have HRB := Keep.mk (S6.boxGet k0m)
  clear g5 HS4 RNG hR S6
  go_wp2_with (first
    | (show wpList _ _ _ ({ dst := _, op := Op.store 25 _ _, type := _, pos := _, after := _, guard := _ } :: _) _ _
       refine store_at _ db 0 zC14 (crv smD) 25 25 rfl rfl rfl rfl HRB.out (Nat.le_refl _) (infoC' smD) HLD.out ?_))
  intro w7 hS7 g7
  have S7 := hS7 _ _ HS6.out
  rw [over_all zC14 (crv smD) rfl] at S7
  have c2 : w7.cell? ⟨cb, 2, none⟩ = some (iv 1835008) := (S7.boxGet k1m).cellv 2 _ rfl
  have c3 : w7.cell? ⟨cb, 3, none⟩ = some (iv 1835008) := (S7.boxGet k1m).cellv 3 _ rfl
  have c7 : w7.cell? ⟨cb, 7, none⟩ = some (iv 100) := (S7.boxGet k1m).cellv 7 _ rfl
  have c9 : w7.cell? ⟨cb, 9, none⟩ = some (iv 20) := (S7.boxGet k1m).cellv 9 _ rfl
  have d2 : w7.cell? ⟨db, 2, none⟩ = some (iv 1838848) := (S7.boxGet k0m).cellv 2 _ rfl
  have d4 : w7.cell? ⟨db, 4, none⟩ = some (iv 3840) := (S7.boxGet k0m).cellv 4 _ rfl
  have d5 : w7.cell? ⟨db, 5, none⟩ = some (iv 0) := (S7.boxGet k0m).cellv 5 _ rfl
  have HG := Keep.mk S7.g
  clear hS7 g7 S7 HS6 HRB hW6 hdb
  go_wp2_with fail
  go_ret
  exact ⟨rfl, HG.out⟩
end Go.Proofs.YtobdcngjpgndiabDoor.Bo
