import Derived.Test.YtjbkoablleneeaaGreatDoorX16
/- the reference's Write -/
namespace Go.Proofs.YtjbkoablleneeaaGreatDoor.Pk
open Go Go.RowKit

theorem u64w (n : Nat) (h : n < 18446744073709551616) : IntKind.u64.wrap (n : Int) = (n : Int) := by rw [wu]; omega
theorem enc_split (e : En) : e.enc = be 1 e.kind.toNat ++ be 8 e.tick ++ be 8 e.ses ++ be 1 e.player.toNat ++ be 1 e.nm.length ++ e.nm ++ be 2 e.fr.length ++ e.fr ++ be 8 e.seq ++ be 2 e.dat.length ++ e.dat := by
  simp only [En.enc, List.append_assoc]
theorem encs_snoc {L : List En} {i : Nat} {x : En} (h : L[i]? = some x) : encs (L.take (i + 1)) = encs (L.take i) ++ x.enc := by
  obtain ⟨h1, h2⟩ := List.getElem?_eq_some_iff.1 h
  rw [List.take_succ_eq_append_getElem h1, h2]; simp [encs]
theorem enc_len (e : En) : e.enc.length = e.nm.length + e.fr.length + e.dat.length + 31 := by
  simp only [En.enc, List.length_append, be_len]; omega
theorem encs_len (l : List En) : (encs l).length ≤ tl l := by
  induction l with
  | nil => simp [encs, tl]
  | cons e r ih =>
    have : encs (e :: r) = e.enc ++ encs r := rfl
    rw [this, List.length_append, enc_len, tl]; omega
theorem encs_take (l : List En) (i : Nat) : (encs (l.take i)).length ≤ tl l := by
  have h1 := encs_len (l.take i)
  have h3 := congrArg tl (List.take_append_drop i l)
  rw [tl_app] at h3; omega
set_option maxRecDepth 100000 in
set_option maxHeartbeats 16000000 in
theorem rwrite_c (a : Option Addr) (n c : Nat) (L : List En) (w : World) (hE : Es w a n c L) (hok : ∀ e ∈ L, e.Ok) (hk : RK w) (h4 : 4 ≤ w.heap.size) (hn : n ≤ 1073741824) (hT : tl L ≤ 4294967000) :
    Calls Tryz.prog 9 #[.slice a n c] w fun e w' => e = .returned (.tuple #[.string (ba (wrS Sha.sha L)), .int .i64 (werr (wBody L))]) ∧ w.grownBy w' none := by
  have HE := Keep.mk hE
  have HO := Keep.mk hok
  have HK := Keep.mk hk
  have HT := Keep.mk hT
  have HLN := Keep.mk hE.len
  obtain ⟨d35, U35, Q35⟩ := under35
  rw [wrS_eq]
  have HST : Keep (wBody L = if ∀ e ∈ L, e.fits then some (magic ++ (be 4 L.length ++ encs L)) else none) := ⟨wBody_eq L hok (by rw [hE.len]; omega)⟩
  generalize wBody L = st at HST ⊢
  have HB := Keep.mk (fun W => big_c n 4 W (by omega) (by decide) (by decide))
  have ha := addB magic (be 4 n) (by rw [be_len, show magic.length = 4 from rfl]; omega)
  have hm : ba magic = { data := #[74, 66, 48, 49] } := rfl
  rw [hm] at ha
  clear hE hok hk hT hm
  generalize hX : ba (be 4 n) = B4 at HB ha
  have hB4 : B4.size = 4 := by rw [← hX, ba_size, be_len]
  clear hX
  go_enter Tryz.func9, Tryz.ntmps9
  go_wp2_with fail
  refine (HB.out _).mono ?_
  rintro e w1 ⟨rfl, g1⟩
  have H1 := Keep.mk g1
  clear g1 HB
  go_wp2_with fail
  go_loopw [4, 5] (fun sv t w' => ∃ (i : Nat), i ≤ n ∧ t = .int .i64 i ∧ sv = .string (ba (magic ++ be 4 n ++ encs (L.take i))) ∧ (∀ e ∈ L.take i, e.fits) ∧ Keep (w.grownBy w' none)) (fun _ t _ => n - (intOf t).toNat)
  case atStart => exact ⟨0, by omega, rfl, by simp [encs], by simp, H1⟩
  case round =>
    obtain ⟨i, hi, rfl, rfl, hft, HI⟩ := hrel
    have HFT := Keep.mk hft
    clear hft
    by_cases hli : i < n
    · obtain ⟨B, o, rfl, hat⟩ := HE.out.at_ (by omega)
      obtain ⟨x, hx⟩ : ∃ x, L[i]? = some x := ⟨_, List.getElem?_eq_getElem (by rw [HLN.out]; exact hli)⟩
      have HX : Keep (L[i]? = some x ∧ wr.rangeAt B (o + i * 8) (en x)) := ⟨hx, fun j v hv => HI.out.cell (hat i x hx j v hv) (by simp)⟩
      have HEN := Keep.mk (encs_snoc hx)
      have HTL : Keep ((magic ++ be 4 n ++ encs (L.take i)).length ≤ 4294967100 ∧ x.nm.length ≤ 4294967100 ∧ x.fr.length ≤ 4294967100 ∧ x.dat.length ≤ 4294967100) := ⟨by
        have h1 := encs_take L i
        have h2 := HT.out
        have h3 := tl_mem hx
        simp only [List.length_append, be_len, show magic.length = 4 from rfl]; omega⟩
      have hN := ba_size x.nm
      have hF := ba_size x.fr
      have hD := ba_size x.dat
      obtain ⟨cur, hcur⟩ : ∃ q, magic ++ be 4 n ++ encs (L.take i) = q := ⟨_, rfl⟩
      have HCU := Keep.mk hcur
      rw [hcur] at HTL ⊢
      clear hat hx hcur
      by_cases z0 : x.kind < 0
      · have HN : Keep (st = none) := ⟨by rw [HST.out, if_neg (fun q => by have hq := q x (List.mem_of_getElem? HX.out.1); unfold En.fits at hq; omega)]⟩
        clear HST HFT HEN HTL HT HO HE HLN
        go_wp2_with (first
          | (show wpList _ _ _ ({ dst := _, op := Op.load 35 _, type := _, pos := _, after := _, guard := _ } :: _) _ _
             refine wpList_load_mid rfl 35 _ rfl _ _ rfl (en x) _ HX.out.2 U35 Q35 size35 ?_)
          | (refine wpList_store_mid rfl 35 _ _ rfl _ _ _ rfl rfl ((Has.newA wr _ 35).there 0 _ (Nat.le_refl 8)) (info35 x) (one35 x) ?_
             generalize hw6 : World.setCells _ _ _ _ = w6
             obtain ⟨h6, g6⟩ := entVar wr _ rfl x w6 hw6
             have H6 : Keep (w.grownBy w6 none ∧ Has w6 wr.heap.size (en x) 35) := ⟨HI.out.trans g6, h6⟩
             have cc0 := h6.cellv 0 _ rfl
             have cc3 := h6.cellv 3 _ rfl
             have cc4 := h6.cellv 4 _ rfl
             have cc5 := h6.cellv 5 _ rfl
             have cc7 := h6.cellv 7 _ rfl
             clear h6 g6 hw6))
        go_ret2
        exact ⟨by rw [HN.out]; rfl, H6.out.1⟩
      by_cases z1 : 255 < x.kind
      · have HN : Keep (st = none) := ⟨by rw [HST.out, if_neg (fun q => by have hq := q x (List.mem_of_getElem? HX.out.1); unfold En.fits at hq; omega)]⟩
        clear HST HFT HEN HTL HT HO HE HLN
        go_wp2_with (first
          | (show wpList _ _ _ ({ dst := _, op := Op.load 35 _, type := _, pos := _, after := _, guard := _ } :: _) _ _
             refine wpList_load_mid rfl 35 _ rfl _ _ rfl (en x) _ HX.out.2 U35 Q35 size35 ?_)
          | (refine wpList_store_mid rfl 35 _ _ rfl _ _ _ rfl rfl ((Has.newA wr _ 35).there 0 _ (Nat.le_refl 8)) (info35 x) (one35 x) ?_
             generalize hw6 : World.setCells _ _ _ _ = w6
             obtain ⟨h6, g6⟩ := entVar wr _ rfl x w6 hw6
             have H6 : Keep (w.grownBy w6 none ∧ Has w6 wr.heap.size (en x) 35) := ⟨HI.out.trans g6, h6⟩
             have cc0 := h6.cellv 0 _ rfl
             have cc3 := h6.cellv 3 _ rfl
             have cc4 := h6.cellv 4 _ rfl
             have cc5 := h6.cellv 5 _ rfl
             have cc7 := h6.cellv 7 _ rfl
             clear h6 g6 hw6))
        go_ret2
        exact ⟨by rw [HN.out]; rfl, H6.out.1⟩
      by_cases z2 : x.player < 0
      · have HN : Keep (st = none) := ⟨by rw [HST.out, if_neg (fun q => by have hq := q x (List.mem_of_getElem? HX.out.1); unfold En.fits at hq; omega)]⟩
        clear HST HFT HEN HTL HT HO HE HLN
        go_wp2_with (first
          | (show wpList _ _ _ ({ dst := _, op := Op.load 35 _, type := _, pos := _, after := _, guard := _ } :: _) _ _
             refine wpList_load_mid rfl 35 _ rfl _ _ rfl (en x) _ HX.out.2 U35 Q35 size35 ?_)
          | (refine wpList_store_mid rfl 35 _ _ rfl _ _ _ rfl rfl ((Has.newA wr _ 35).there 0 _ (Nat.le_refl 8)) (info35 x) (one35 x) ?_
             generalize hw6 : World.setCells _ _ _ _ = w6
             obtain ⟨h6, g6⟩ := entVar wr _ rfl x w6 hw6
             have H6 : Keep (w.grownBy w6 none ∧ Has w6 wr.heap.size (en x) 35) := ⟨HI.out.trans g6, h6⟩
             have cc0 := h6.cellv 0 _ rfl
             have cc3 := h6.cellv 3 _ rfl
             have cc4 := h6.cellv 4 _ rfl
             have cc5 := h6.cellv 5 _ rfl
             have cc7 := h6.cellv 7 _ rfl
             clear h6 g6 hw6))
        go_ret2
        exact ⟨by rw [HN.out]; rfl, H6.out.1⟩
      by_cases z3 : 255 < x.player
      · have HN : Keep (st = none) := ⟨by rw [HST.out, if_neg (fun q => by have hq := q x (List.mem_of_getElem? HX.out.1); unfold En.fits at hq; omega)]⟩
        clear HST HFT HEN HTL HT HO HE HLN
        go_wp2_with (first
          | (show wpList _ _ _ ({ dst := _, op := Op.load 35 _, type := _, pos := _, after := _, guard := _ } :: _) _ _
             refine wpList_load_mid rfl 35 _ rfl _ _ rfl (en x) _ HX.out.2 U35 Q35 size35 ?_)
          | (refine wpList_store_mid rfl 35 _ _ rfl _ _ _ rfl rfl ((Has.newA wr _ 35).there 0 _ (Nat.le_refl 8)) (info35 x) (one35 x) ?_
             generalize hw6 : World.setCells _ _ _ _ = w6
             obtain ⟨h6, g6⟩ := entVar wr _ rfl x w6 hw6
             have H6 : Keep (w.grownBy w6 none ∧ Has w6 wr.heap.size (en x) 35) := ⟨HI.out.trans g6, h6⟩
             have cc0 := h6.cellv 0 _ rfl
             have cc3 := h6.cellv 3 _ rfl
             have cc4 := h6.cellv 4 _ rfl
             have cc5 := h6.cellv 5 _ rfl
             have cc7 := h6.cellv 7 _ rfl
             clear h6 g6 hw6))
        go_ret2
        exact ⟨by rw [HN.out]; rfl, H6.out.1⟩
      by_cases z4 : (255 : Int) < (x.nm.length : Int)
      · have HN : Keep (st = none) := ⟨by rw [HST.out, if_neg (fun q => by have hq := q x (List.mem_of_getElem? HX.out.1); unfold En.fits at hq; omega)]⟩
        clear HST HFT HEN HTL HT HO HE HLN
        go_wp2_with (first
          | (show wpList _ _ _ ({ dst := _, op := Op.load 35 _, type := _, pos := _, after := _, guard := _ } :: _) _ _
             refine wpList_load_mid rfl 35 _ rfl _ _ rfl (en x) _ HX.out.2 U35 Q35 size35 ?_)
          | (refine wpList_store_mid rfl 35 _ _ rfl _ _ _ rfl rfl ((Has.newA wr _ 35).there 0 _ (Nat.le_refl 8)) (info35 x) (one35 x) ?_
             generalize hw6 : World.setCells _ _ _ _ = w6
             obtain ⟨h6, g6⟩ := entVar wr _ rfl x w6 hw6
             have H6 : Keep (w.grownBy w6 none ∧ Has w6 wr.heap.size (en x) 35) := ⟨HI.out.trans g6, h6⟩
             have cc0 := h6.cellv 0 _ rfl
             have cc3 := h6.cellv 3 _ rfl
             have cc4 := h6.cellv 4 _ rfl
             have cc5 := h6.cellv 5 _ rfl
             have cc7 := h6.cellv 7 _ rfl
             clear h6 g6 hw6))
        go_ret2
        exact ⟨by rw [HN.out]; rfl, H6.out.1⟩
      by_cases z5 : (65535 : Int) < (x.fr.length : Int)
      · have HN : Keep (st = none) := ⟨by rw [HST.out, if_neg (fun q => by have hq := q x (List.mem_of_getElem? HX.out.1); unfold En.fits at hq; omega)]⟩
        clear HST HFT HEN HTL HT HO HE HLN
        go_wp2_with (first
          | (show wpList _ _ _ ({ dst := _, op := Op.load 35 _, type := _, pos := _, after := _, guard := _ } :: _) _ _
             refine wpList_load_mid rfl 35 _ rfl _ _ rfl (en x) _ HX.out.2 U35 Q35 size35 ?_)
          | (refine wpList_store_mid rfl 35 _ _ rfl _ _ _ rfl rfl ((Has.newA wr _ 35).there 0 _ (Nat.le_refl 8)) (info35 x) (one35 x) ?_
             generalize hw6 : World.setCells _ _ _ _ = w6
             obtain ⟨h6, g6⟩ := entVar wr _ rfl x w6 hw6
             have H6 : Keep (w.grownBy w6 none ∧ Has w6 wr.heap.size (en x) 35) := ⟨HI.out.trans g6, h6⟩
             have cc0 := h6.cellv 0 _ rfl
             have cc3 := h6.cellv 3 _ rfl
             have cc4 := h6.cellv 4 _ rfl
             have cc5 := h6.cellv 5 _ rfl
             have cc7 := h6.cellv 7 _ rfl
             clear h6 g6 hw6))
        go_ret2
        exact ⟨by rw [HN.out]; rfl, H6.out.1⟩
      by_cases z6 : (65535 : Int) < (x.dat.length : Int)
      · have HN : Keep (st = none) := ⟨by rw [HST.out, if_neg (fun q => by have hq := q x (List.mem_of_getElem? HX.out.1); unfold En.fits at hq; omega)]⟩
        clear HST HFT HEN HTL HT HO HE HLN
        go_wp2_with (first
          | (show wpList _ _ _ ({ dst := _, op := Op.load 35 _, type := _, pos := _, after := _, guard := _ } :: _) _ _
             refine wpList_load_mid rfl 35 _ rfl _ _ rfl (en x) _ HX.out.2 U35 Q35 size35 ?_)
          | (refine wpList_store_mid rfl 35 _ _ rfl _ _ _ rfl rfl ((Has.newA wr _ 35).there 0 _ (Nat.le_refl 8)) (info35 x) (one35 x) ?_
             generalize hw6 : World.setCells _ _ _ _ = w6
             obtain ⟨h6, g6⟩ := entVar wr _ rfl x w6 hw6
             have H6 : Keep (w.grownBy w6 none ∧ Has w6 wr.heap.size (en x) 35) := ⟨HI.out.trans g6, h6⟩
             have cc0 := h6.cellv 0 _ rfl
             have cc3 := h6.cellv 3 _ rfl
             have cc4 := h6.cellv 4 _ rfl
             have cc5 := h6.cellv 5 _ rfl
             have cc7 := h6.cellv 7 _ rfl
             clear h6 g6 hw6))
        go_ret2
        exact ⟨by rw [HN.out]; rfl, H6.out.1⟩
      have hfit : x.fits := ⟨by omega, by omega, by omega, by omega, by omega, by omega, by omega⟩
      obtain ⟨kn, hkn⟩ : ∃ kn : Nat, x.kind = kn := ⟨x.kind.toNat, by omega⟩
      obtain ⟨pn, hpn⟩ : ∃ pn : Nat, x.player = pn := ⟨x.player.toNat, by omega⟩
      have hkl : kn < 256 := by omega
      have hpl : pn < 256 := by omega
      have HFX := Keep.mk hfit
      have hxo := HO.out x (List.mem_of_getElem? HX.out.1)
      have htk := hxo.t
      have hss := hxo.s
      have hsq := hxo.q
      clear hfit hxo
      go_wp2_with (first
        | (show wpList _ _ _ ({ dst := _, op := Op.load 35 _, type := _, pos := _, after := _, guard := _ } :: _) _ _
           refine wpList_load_mid rfl 35 _ rfl _ _ rfl (en x) _ HX.out.2 U35 Q35 size35 ?_)
        | (refine wpList_store_mid rfl 35 _ _ rfl _ _ _ rfl rfl ((Has.newA wr _ 35).there 0 _ (Nat.le_refl 8)) (info35 x) (one35 x) ?_
           generalize hw6 : World.setCells _ _ _ _ = w6
           obtain ⟨h6, g6⟩ := entVar wr _ rfl x w6 hw6
           have H6 : Keep (w.grownBy w6 none ∧ Has w6 wr.heap.size (en x) 35) := ⟨HI.out.trans g6, h6⟩
           have cc0 := h6.cellv 0 _ rfl
           have cc3 := h6.cellv 3 _ rfl
           have cc4 := h6.cellv 4 _ rfl
           have cc5 := h6.cellv 5 _ rfl
           have cc7 := h6.cellv 7 _ rfl
           clear h6 g6 hw6))
      rw [hkn] at cc0
      rw [hpn] at cc3
      clear cc0 cc3 cc4 cc5 cc7 z0 z1 z2 z3 z4 z5 z6
      have HLL := HTL.out
      have B0 : Keep (∀ W : World, (fun W : World => w.grownBy W none ∧ Has W wr.heap.size (en x) 35) W → Calls Tryz.prog 34 #[.int .u64 (kn : Nat), .int .i64 1] W fun e w' => e = .returned (.string (ba (be 1 kn))) ∧ (fun W : World => w.grownBy W none ∧ Has W wr.heap.size (en x) 35) w') := ⟨fun W hW => (big_c (kn) 1 W (by omega) (by decide) (by decide)).mono (by rintro e w' ⟨rfl, g⟩; exact ⟨rfl, hW.1.trans g, hW.2.kept g (by simp)⟩)⟩
      have B1 : Keep (∀ W : World, (fun W : World => w.grownBy W none ∧ Has W wr.heap.size (en x) 35) W → Calls Tryz.prog 34 #[.int .u64 (x.tick : Nat), .int .i64 8] W fun e w' => e = .returned (.string (ba (be 8 x.tick))) ∧ (fun W : World => w.grownBy W none ∧ Has W wr.heap.size (en x) 35) w') := ⟨fun W hW => (big_c (x.tick) 8 W (by omega) (by decide) (by decide)).mono (by rintro e w' ⟨rfl, g⟩; exact ⟨rfl, hW.1.trans g, hW.2.kept g (by simp)⟩)⟩
      have B2 : Keep (∀ W : World, (fun W : World => w.grownBy W none ∧ Has W wr.heap.size (en x) 35) W → Calls Tryz.prog 34 #[.int .u64 (x.ses : Nat), .int .i64 8] W fun e w' => e = .returned (.string (ba (be 8 x.ses))) ∧ (fun W : World => w.grownBy W none ∧ Has W wr.heap.size (en x) 35) w') := ⟨fun W hW => (big_c (x.ses) 8 W (by omega) (by decide) (by decide)).mono (by rintro e w' ⟨rfl, g⟩; exact ⟨rfl, hW.1.trans g, hW.2.kept g (by simp)⟩)⟩
      have B3 : Keep (∀ W : World, (fun W : World => w.grownBy W none ∧ Has W wr.heap.size (en x) 35) W → Calls Tryz.prog 34 #[.int .u64 (pn : Nat), .int .i64 1] W fun e w' => e = .returned (.string (ba (be 1 pn))) ∧ (fun W : World => w.grownBy W none ∧ Has W wr.heap.size (en x) 35) w') := ⟨fun W hW => (big_c (pn) 1 W (by omega) (by decide) (by decide)).mono (by rintro e w' ⟨rfl, g⟩; exact ⟨rfl, hW.1.trans g, hW.2.kept g (by simp)⟩)⟩
      have B4 : Keep (∀ W : World, (fun W : World => w.grownBy W none ∧ Has W wr.heap.size (en x) 35) W → Calls Tryz.prog 34 #[.int .u64 (x.nm.length : Nat), .int .i64 1] W fun e w' => e = .returned (.string (ba (be 1 x.nm.length))) ∧ (fun W : World => w.grownBy W none ∧ Has W wr.heap.size (en x) 35) w') := ⟨fun W hW => (big_c (x.nm.length) 1 W (by omega) (by decide) (by decide)).mono (by rintro e w' ⟨rfl, g⟩; exact ⟨rfl, hW.1.trans g, hW.2.kept g (by simp)⟩)⟩
      have B5 : Keep (∀ W : World, (fun W : World => w.grownBy W none ∧ Has W wr.heap.size (en x) 35) W → Calls Tryz.prog 34 #[.int .u64 (x.fr.length : Nat), .int .i64 2] W fun e w' => e = .returned (.string (ba (be 2 x.fr.length))) ∧ (fun W : World => w.grownBy W none ∧ Has W wr.heap.size (en x) 35) w') := ⟨fun W hW => (big_c (x.fr.length) 2 W (by omega) (by decide) (by decide)).mono (by rintro e w' ⟨rfl, g⟩; exact ⟨rfl, hW.1.trans g, hW.2.kept g (by simp)⟩)⟩
      have B6 : Keep (∀ W : World, (fun W : World => w.grownBy W none ∧ Has W wr.heap.size (en x) 35) W → Calls Tryz.prog 34 #[.int .u64 (x.seq : Nat), .int .i64 8] W fun e w' => e = .returned (.string (ba (be 8 x.seq))) ∧ (fun W : World => w.grownBy W none ∧ Has W wr.heap.size (en x) 35) w') := ⟨fun W hW => (big_c (x.seq) 8 W (by omega) (by decide) (by decide)).mono (by rintro e w' ⟨rfl, g⟩; exact ⟨rfl, hW.1.trans g, hW.2.kept g (by simp)⟩)⟩
      have B7 : Keep (∀ W : World, (fun W : World => w.grownBy W none ∧ Has W wr.heap.size (en x) 35) W → Calls Tryz.prog 34 #[.int .u64 (x.dat.length : Nat), .int .i64 2] W fun e w' => e = .returned (.string (ba (be 2 x.dat.length))) ∧ (fun W : World => w.grownBy W none ∧ Has W wr.heap.size (en x) 35) w') := ⟨fun W hW => (big_c (x.dat.length) 2 W (by omega) (by decide) (by decide)).mono (by rintro e w' ⟨rfl, g⟩; exact ⟨rfl, hW.1.trans g, hW.2.kept g (by simp)⟩)⟩
      have a0 := addB (cur) (be 1 kn) (by (repeat rw [List.length_append]); (repeat rw [be_len]); omega)
      have a1 := addB (cur ++ be 1 kn) (be 8 x.tick) (by (repeat rw [List.length_append]); (repeat rw [be_len]); omega)
      have a2 := addB (cur ++ be 1 kn ++ be 8 x.tick) (be 8 x.ses) (by (repeat rw [List.length_append]); (repeat rw [be_len]); omega)
      have a3 := addB (cur ++ be 1 kn ++ be 8 x.tick ++ be 8 x.ses) (be 1 pn) (by (repeat rw [List.length_append]); (repeat rw [be_len]); omega)
      have a4 := addB (cur ++ be 1 kn ++ be 8 x.tick ++ be 8 x.ses ++ be 1 pn) (be 1 x.nm.length) (by (repeat rw [List.length_append]); (repeat rw [be_len]); omega)
      have a5 := addB (cur ++ be 1 kn ++ be 8 x.tick ++ be 8 x.ses ++ be 1 pn ++ be 1 x.nm.length) (x.nm) (by (repeat rw [List.length_append]); (repeat rw [be_len]); omega)
      have a6 := addB (cur ++ be 1 kn ++ be 8 x.tick ++ be 8 x.ses ++ be 1 pn ++ be 1 x.nm.length ++ x.nm) (be 2 x.fr.length) (by (repeat rw [List.length_append]); (repeat rw [be_len]); omega)
      have a7 := addB (cur ++ be 1 kn ++ be 8 x.tick ++ be 8 x.ses ++ be 1 pn ++ be 1 x.nm.length ++ x.nm ++ be 2 x.fr.length) (x.fr) (by (repeat rw [List.length_append]); (repeat rw [be_len]); omega)
      have a8 := addB (cur ++ be 1 kn ++ be 8 x.tick ++ be 8 x.ses ++ be 1 pn ++ be 1 x.nm.length ++ x.nm ++ be 2 x.fr.length ++ x.fr) (be 8 x.seq) (by (repeat rw [List.length_append]); (repeat rw [be_len]); omega)
      have a9 := addB (cur ++ be 1 kn ++ be 8 x.tick ++ be 8 x.ses ++ be 1 pn ++ be 1 x.nm.length ++ x.nm ++ be 2 x.fr.length ++ x.fr ++ be 8 x.seq) (be 2 x.dat.length) (by (repeat rw [List.length_append]); (repeat rw [be_len]); omega)
      have a10 := addB (cur ++ be 1 kn ++ be 8 x.tick ++ be 8 x.ses ++ be 1 pn ++ be 1 x.nm.length ++ x.nm ++ be 2 x.fr.length ++ x.fr ++ be 8 x.seq ++ be 2 x.dat.length) (x.dat) (by (repeat rw [List.length_append]); (repeat rw [be_len]); omega)
      have HEQ : Keep (magic ++ be 4 n ++ encs (L.take (i + 1)) = cur ++ be 1 kn ++ be 8 x.tick ++ be 8 x.ses ++ be 1 pn ++ be 1 x.nm.length ++ x.nm ++ be 2 x.fr.length ++ x.fr ++ be 8 x.seq ++ be 2 x.dat.length ++ x.dat) := ⟨by rw [HEN.out, enc_split, hkn, hpn, ← HCU.out]; simp only [List.append_assoc, Int.toNat_natCast]⟩
      have HS : Keep (∀ W : World, (fun W : World => w.grownBy W none ∧ Has W wr.heap.size (en x) 35) W → W.cell? ⟨wr.heap.size, 0, none⟩ = some (.int .i64 (kn : Nat)) ∧ W.cell? ⟨wr.heap.size, 1, none⟩ = some (.int .u64 x.tick) ∧ W.cell? ⟨wr.heap.size, 2, none⟩ = some (.int .u64 x.ses) ∧ W.cell? ⟨wr.heap.size, 3, none⟩ = some (.int .i64 (pn : Nat)) ∧ W.cell? ⟨wr.heap.size, 4, none⟩ = some (.string (ba x.nm)) ∧ W.cell? ⟨wr.heap.size, 5, none⟩ = some (.string (ba x.fr)) ∧ W.cell? ⟨wr.heap.size, 6, none⟩ = some (.int .u64 x.seq) ∧ W.cell? ⟨wr.heap.size, 7, none⟩ = some (.string (ba x.dat))) := ⟨fun W q => by rw [← hkn, ← hpn]; exact ⟨q.2.cellv 0 _ rfl, q.2.cellv 1 _ rfl, q.2.cellv 2 _ rfl, q.2.cellv 3 _ rfl, q.2.cellv 4 _ rfl, q.2.cellv 5 _ rfl, q.2.cellv 6 _ rfl, q.2.cellv 7 _ rfl⟩⟩
      have HFN : Keep (∀ e ∈ L.take (i + 1), e.fits) := ⟨by
        obtain ⟨q1, q2⟩ := List.getElem?_eq_some_iff.1 HX.out.1
        rw [List.take_succ_eq_append_getElem q1, q2]
        intro e he
        rcases List.mem_append.1 he with he | he
        · exact HFT.out e he
        · rw [List.mem_singleton.1 he]; exact HFX.out⟩
      generalize hT10 : ba (cur ++ be 1 kn ++ be 8 x.tick ++ be 8 x.ses ++ be 1 pn ++ be 1 x.nm.length ++ x.nm ++ be 2 x.fr.length ++ x.fr ++ be 8 x.seq ++ be 2 x.dat.length ++ x.dat) = T10 at a10
      generalize hT9 : ba (cur ++ be 1 kn ++ be 8 x.tick ++ be 8 x.ses ++ be 1 pn ++ be 1 x.nm.length ++ x.nm ++ be 2 x.fr.length ++ x.fr ++ be 8 x.seq ++ be 2 x.dat.length) = T9 at a9 a10
      generalize hT8 : ba (cur ++ be 1 kn ++ be 8 x.tick ++ be 8 x.ses ++ be 1 pn ++ be 1 x.nm.length ++ x.nm ++ be 2 x.fr.length ++ x.fr ++ be 8 x.seq) = T8 at a8 a9
      generalize hT7 : ba (cur ++ be 1 kn ++ be 8 x.tick ++ be 8 x.ses ++ be 1 pn ++ be 1 x.nm.length ++ x.nm ++ be 2 x.fr.length ++ x.fr) = T7 at a7 a8
      generalize hT6 : ba (cur ++ be 1 kn ++ be 8 x.tick ++ be 8 x.ses ++ be 1 pn ++ be 1 x.nm.length ++ x.nm ++ be 2 x.fr.length) = T6 at a6 a7
      generalize hT5 : ba (cur ++ be 1 kn ++ be 8 x.tick ++ be 8 x.ses ++ be 1 pn ++ be 1 x.nm.length ++ x.nm) = T5 at a5 a6
      generalize hT4 : ba (cur ++ be 1 kn ++ be 8 x.tick ++ be 8 x.ses ++ be 1 pn ++ be 1 x.nm.length) = T4 at a4 a5
      generalize hT3 : ba (cur ++ be 1 kn ++ be 8 x.tick ++ be 8 x.ses ++ be 1 pn) = T3 at a3 a4
      generalize hT2 : ba (cur ++ be 1 kn ++ be 8 x.tick ++ be 8 x.ses) = T2 at a2 a3
      generalize hT1 : ba (cur ++ be 1 kn ++ be 8 x.tick) = T1 at a1 a2
      generalize hT0 : ba (cur ++ be 1 kn) = T0 at a0 a1
      have HTT := Keep.mk hT10
      generalize ba (be 1 kn) = b0 at B0 a0
      generalize ba (be 8 x.tick) = b1 at B1 a1
      generalize ba (be 8 x.ses) = b2 at B2 a2
      generalize ba (be 1 pn) = b3 at B3 a3
      generalize ba (be 1 x.nm.length) = b4 at B4 a4
      generalize ba (be 2 x.fr.length) = b6 at B5 a6
      generalize ba (be 8 x.seq) = b8 at B6 a8
      generalize ba (be 2 x.dat.length) = b9 at B7 a9
      generalize ba x.nm = NB at HS a5 hN
      generalize ba x.fr = FB at HS a7 hF
      generalize ba x.dat = DB at HS a10 hD
      clear hT0
      clear hT1
      clear hT2
      clear hT3
      clear hT4
      clear hT5
      clear hT6
      clear hT7
      clear hT8
      clear hT9
      clear hT10
      generalize ba cur = CB at a0 ⊢
      have v0 := u64w (kn) (by omega)
      have v1 := u64w (pn) (by omega)
      have v2 := u64w (x.nm.length) (by omega)
      have v3 := u64w (x.fr.length) (by omega)
      have v4 := u64w (x.dat.length) (by omega)
      clear HLL HTL HEN HCU hkn hpn HFX HFT
      refine wp_region_held_drew (S := (fun W : World => w.grownBy W none ∧ Has W wr.heap.size (en x) 35)) (by kernel_rfl) ⟨H6.out.1.trans (gr_drew _ _), H6.out.2.kept (gr_drew _ none) (by simp)⟩ (fun hHeld => ?_)
      refine wpAnyH_take (i := 0) (oi := _) (v := ?_) rfl (by kernel_rfl) (by kernel_rfl) (by kernel_rfl) (fun _ _ _ h => h) (Or.inl ⟨by rfl, ?_⟩) (by assumption) ?_
      rotate_left
      · (intro w hSw; go_simp; first | done | (with_reducible rfl))
      simp only [Act.put, List.getElem_toArray, List.getElem_cons_zero, List.setIfInBounds_toArray, List.set_cons_zero, List.set_cons_succ]
      refine wpAnyH_take (i := 1) (oi := _) (v := ?_) rfl (by kernel_rfl) (by kernel_rfl) (by kernel_rfl) (fun _ _ _ h => h) (Or.inl ⟨by rfl, ?_⟩) (by assumption) ?_
      rotate_left
      · (intro w hSw; go_simp; first | done | (with_reducible rfl))
      simp only [Act.put, List.getElem_toArray, List.getElem_cons_succ, List.getElem_cons_zero, List.setIfInBounds_toArray, List.set_cons_zero, List.set_cons_succ]
      refine wpAnyH_take (i := 2) (oi := _) (v := ?_) rfl (by kernel_rfl) (by kernel_rfl) (by kernel_rfl) (fun _ _ _ h => h) (Or.inl ⟨by rfl, ?_⟩) (by assumption) ?_
      rotate_left
      · (intro w hSw; have cc := HS.out w hSw; obtain ⟨c0, c1, c2, c3, c4, c5, c6, c7⟩ := cc; go_simp; first | done | (with_reducible rfl))
      simp only [Act.put, List.getElem_toArray, List.getElem_cons_succ, List.getElem_cons_zero, List.setIfInBounds_toArray, List.set_cons_zero, List.set_cons_succ]
      refine wpAnyH_take (i := 3) (oi := _) (v := ?_) rfl (by kernel_rfl) (by kernel_rfl) (by kernel_rfl) (fun _ _ _ h => h) (Or.inl ⟨by rfl, ?_⟩) (by assumption) ?_
      rotate_left
      · (intro w hSw; go_simp; first | done | (with_reducible rfl))
      simp only [Act.put, List.getElem_toArray, List.getElem_cons_succ, List.getElem_cons_zero, List.setIfInBounds_toArray, List.set_cons_zero, List.set_cons_succ]
      refine wpAnyH_take (i := 6) (oi := _) (v := ?_) rfl (by kernel_rfl) (by kernel_rfl) (by kernel_rfl) (fun _ _ _ h => h) (Or.inl ⟨by rfl, ?_⟩) (by assumption) ?_
      rotate_left
      · (intro w hSw; go_simp; first | done | (with_reducible rfl))
      simp only [Act.put, List.getElem_toArray, List.getElem_cons_succ, List.getElem_cons_zero, List.setIfInBounds_toArray, List.set_cons_zero, List.set_cons_succ]
      refine wpAnyH_take (i := 7) (oi := _) (v := ?_) rfl (by kernel_rfl) (by kernel_rfl) (by kernel_rfl) (fun _ _ _ h => h) (Or.inl ⟨by rfl, ?_⟩) (by assumption) ?_
      rotate_left
      · (intro w hSw; have cc := HS.out w hSw; obtain ⟨c0, c1, c2, c3, c4, c5, c6, c7⟩ := cc; go_simp; first | done | (with_reducible rfl))
      simp only [Act.put, List.getElem_toArray, List.getElem_cons_succ, List.getElem_cons_zero, List.setIfInBounds_toArray, List.set_cons_zero, List.set_cons_succ]
      refine wpAnyH_take (i := 10) (oi := _) (v := ?_) rfl (by kernel_rfl) (by kernel_rfl) (by kernel_rfl) (fun _ _ _ h => h) (Or.inl ⟨by rfl, ?_⟩) (by assumption) ?_
      rotate_left
      · (intro w hSw; go_simp; first | done | (with_reducible rfl))
      simp only [Act.put, List.getElem_toArray, List.getElem_cons_succ, List.getElem_cons_zero, List.setIfInBounds_toArray, List.set_cons_zero, List.set_cons_succ]
      refine wpAnyH_take (i := 11) (oi := _) (v := ?_) rfl (by kernel_rfl) (by kernel_rfl) (by kernel_rfl) (fun _ _ _ h => h) (Or.inl ⟨by rfl, ?_⟩) (by assumption) ?_
      rotate_left
      · (intro w hSw; have cc := HS.out w hSw; obtain ⟨c0, c1, c2, c3, c4, c5, c6, c7⟩ := cc; go_simp; first | done | (with_reducible rfl))
      simp only [Act.put, List.getElem_toArray, List.getElem_cons_succ, List.getElem_cons_zero, List.setIfInBounds_toArray, List.set_cons_zero, List.set_cons_succ]
      refine wpAnyH_take (i := 14) (oi := _) (v := ?_) rfl (by kernel_rfl) (by kernel_rfl) (by kernel_rfl) (fun _ _ _ h => h) (Or.inl ⟨by rfl, ?_⟩) (by assumption) ?_
      rotate_left
      · (intro w hSw; go_simp; first | done | (with_reducible rfl))
      simp only [Act.put, List.getElem_toArray, List.getElem_cons_succ, List.getElem_cons_zero, List.setIfInBounds_toArray, List.set_cons_zero, List.set_cons_succ]
      refine wpAnyH_take (i := 15) (oi := _) (v := ?_) rfl (by kernel_rfl) (by kernel_rfl) (by kernel_rfl) (fun _ _ _ h => h) (Or.inl ⟨by rfl, ?_⟩) (by assumption) ?_
      rotate_left
      · (intro w hSw; have cc := HS.out w hSw; obtain ⟨c0, c1, c2, c3, c4, c5, c6, c7⟩ := cc; go_simp; first | done | (with_reducible rfl))
      simp only [Act.put, List.getElem_toArray, List.getElem_cons_succ, List.getElem_cons_zero, List.setIfInBounds_toArray, List.set_cons_zero, List.set_cons_succ]
      refine wpAnyH_take (i := 16) (oi := _) (v := ?_) rfl (by kernel_rfl) (by kernel_rfl) (by kernel_rfl) (fun _ _ _ h => h) (Or.inl ⟨by rfl, ?_⟩) (by assumption) ?_
      rotate_left
      · (intro w hSw; go_simp; first | done | (with_reducible rfl))
      simp only [Act.put, List.getElem_toArray, List.getElem_cons_succ, List.getElem_cons_zero, List.setIfInBounds_toArray, List.set_cons_zero, List.set_cons_succ]
      refine wpAnyH_take (i := 19) (oi := _) (v := ?_) rfl (by kernel_rfl) (by kernel_rfl) (by kernel_rfl) (fun _ _ _ h => h) (Or.inl ⟨by rfl, ?_⟩) (by assumption) ?_
      rotate_left
      · (intro w hSw; go_simp; first | done | (with_reducible rfl))
      simp only [Act.put, List.getElem_toArray, List.getElem_cons_succ, List.getElem_cons_zero, List.setIfInBounds_toArray, List.set_cons_zero, List.set_cons_succ]
      refine wpAnyH_take (i := 20) (oi := _) (v := ?_) rfl (by kernel_rfl) (by kernel_rfl) (by kernel_rfl) (fun _ _ _ h => h) (Or.inl ⟨by rfl, ?_⟩) (by assumption) ?_
      rotate_left
      · (intro w hSw; have cc := HS.out w hSw; obtain ⟨c0, c1, c2, c3, c4, c5, c6, c7⟩ := cc; go_simp; first | done | (with_reducible rfl))
      simp only [Act.put, List.getElem_toArray, List.getElem_cons_succ, List.getElem_cons_zero, List.setIfInBounds_toArray, List.set_cons_zero, List.set_cons_succ]
      refine wpAnyH_take (i := 21) (oi := _) (v := ?_) rfl (by kernel_rfl) (by kernel_rfl) (by kernel_rfl) (fun _ _ _ h => h) (Or.inl ⟨by rfl, ?_⟩) (by assumption) ?_
      rotate_left
      · (intro w hSw; go_simp; first | done | (with_reducible rfl))
      simp only [Act.put, List.getElem_toArray, List.getElem_cons_succ, List.getElem_cons_zero, List.setIfInBounds_toArray, List.set_cons_zero, List.set_cons_succ]
      refine wpAnyH_take (i := 22) (oi := _) (v := ?_) rfl (by kernel_rfl) (by kernel_rfl) (by kernel_rfl) (fun _ _ _ h => h) (Or.inl ⟨by rfl, ?_⟩) (by assumption) ?_
      rotate_left
      · (intro w hSw; go_simp; first | done | (with_reducible rfl))
      simp only [Act.put, List.getElem_toArray, List.getElem_cons_succ, List.getElem_cons_zero, List.setIfInBounds_toArray, List.set_cons_zero, List.set_cons_succ]
      refine wpAnyH_take (i := 25) (oi := _) (v := ?_) rfl (by kernel_rfl) (by kernel_rfl) (by kernel_rfl) (fun _ _ _ h => h) (Or.inl ⟨by rfl, ?_⟩) (by assumption) ?_
      rotate_left
      · (intro w hSw; go_simp; first | done | (with_reducible rfl))
      simp only [Act.put, List.getElem_toArray, List.getElem_cons_succ, List.getElem_cons_zero, List.setIfInBounds_toArray, List.set_cons_zero, List.set_cons_succ]
      refine wpAnyH_take (i := 26) (oi := _) (v := ?_) rfl (by kernel_rfl) (by kernel_rfl) (by kernel_rfl) (fun _ _ _ h => h) (Or.inl ⟨by rfl, ?_⟩) (by assumption) ?_
      rotate_left
      · (intro w hSw; have cc := HS.out w hSw; obtain ⟨c0, c1, c2, c3, c4, c5, c6, c7⟩ := cc; go_simp; first | done | (with_reducible rfl))
      simp only [Act.put, List.getElem_toArray, List.getElem_cons_succ, List.getElem_cons_zero, List.setIfInBounds_toArray, List.set_cons_zero, List.set_cons_succ]
      refine wpAnyH_take (i := 28) (oi := _) (v := ?_) rfl (by kernel_rfl) (by kernel_rfl) (by kernel_rfl) (fun _ _ _ h => h) (Or.inl ⟨by rfl, ?_⟩) (by assumption) ?_
      rotate_left
      · (intro w hSw; go_simp; first | done | (with_reducible rfl))
      simp only [Act.put, List.getElem_toArray, List.getElem_cons_succ, List.getElem_cons_zero, List.setIfInBounds_toArray, List.set_cons_zero, List.set_cons_succ]
      refine wpAnyH_take (i := 29) (oi := _) (v := ?_) rfl (by kernel_rfl) (by kernel_rfl) (by kernel_rfl) (fun _ _ _ h => h) (Or.inl ⟨by rfl, ?_⟩) (by assumption) ?_
      rotate_left
      · (intro w hSw; have cc := HS.out w hSw; obtain ⟨c0, c1, c2, c3, c4, c5, c6, c7⟩ := cc; go_simp; first | done | (with_reducible rfl))
      simp only [Act.put, List.getElem_toArray, List.getElem_cons_succ, List.getElem_cons_zero, List.setIfInBounds_toArray, List.set_cons_zero, List.set_cons_succ]
      refine wpAnyH_take (i := 30) (oi := _) (v := ?_) rfl (by kernel_rfl) (by kernel_rfl) (by kernel_rfl) (fun _ _ _ h => h) (Or.inl ⟨by rfl, ?_⟩) (by assumption) ?_
      rotate_left
      · (intro w hSw; go_simp; first | done | (with_reducible rfl))
      simp only [Act.put, List.getElem_toArray, List.getElem_cons_succ, List.getElem_cons_zero, List.setIfInBounds_toArray, List.set_cons_zero, List.set_cons_succ]
      refine wpAnyH_take (i := 31) (oi := _) (v := ?_) rfl (by kernel_rfl) (by kernel_rfl) (by kernel_rfl) (fun _ _ _ h => h) (Or.inl ⟨by rfl, ?_⟩) (by assumption) ?_
      rotate_left
      · (intro w hSw; go_simp; first | done | (with_reducible rfl))
      simp only [Act.put, List.getElem_toArray, List.getElem_cons_succ, List.getElem_cons_zero, List.setIfInBounds_toArray, List.set_cons_zero, List.set_cons_succ]
      refine wpAnyH_take (i := 34) (oi := _) (v := ?_) rfl (by kernel_rfl) (by kernel_rfl) (by kernel_rfl) (fun _ _ _ h => h) (Or.inl ⟨by rfl, ?_⟩) (by assumption) ?_
      rotate_left
      · (intro w hSw; go_simp; first | done | (with_reducible rfl))
      simp only [Act.put, List.getElem_toArray, List.getElem_cons_succ, List.getElem_cons_zero, List.setIfInBounds_toArray, List.set_cons_zero, List.set_cons_succ]
      refine wpAnyH_take (i := 35) (oi := _) (v := ?_) rfl (by kernel_rfl) (by kernel_rfl) (by kernel_rfl) (fun _ _ _ h => h) (Or.inl ⟨by rfl, ?_⟩) (by assumption) ?_
      rotate_left
      · (intro w hSw; have cc := HS.out w hSw; obtain ⟨c0, c1, c2, c3, c4, c5, c6, c7⟩ := cc; go_simp; first | done | (with_reducible rfl))
      simp only [Act.put, List.getElem_toArray, List.getElem_cons_succ, List.getElem_cons_zero, List.setIfInBounds_toArray, List.set_cons_zero, List.set_cons_succ]
      refine wpAnyH_take (i := 37) (oi := _) (v := ?_) rfl (by kernel_rfl) (by kernel_rfl) (by kernel_rfl) (fun _ _ _ h => h) (Or.inl ⟨by rfl, ?_⟩) (by assumption) ?_
      rotate_left
      · (intro w hSw; go_simp; first | done | (with_reducible rfl))
      simp only [Act.put, List.getElem_toArray, List.getElem_cons_succ, List.getElem_cons_zero, List.setIfInBounds_toArray, List.set_cons_zero, List.set_cons_succ]
      refine wpAnyH_take (i := 38) (oi := _) (v := ?_) rfl (by kernel_rfl) (by kernel_rfl) (by kernel_rfl) (fun _ _ _ h => h) (Or.inl ⟨by rfl, ?_⟩) (by assumption) ?_
      rotate_left
      · (intro w hSw; have cc := HS.out w hSw; obtain ⟨c0, c1, c2, c3, c4, c5, c6, c7⟩ := cc; go_simp; first | done | (with_reducible rfl))
      simp only [Act.put, List.getElem_toArray, List.getElem_cons_succ, List.getElem_cons_zero, List.setIfInBounds_toArray, List.set_cons_zero, List.set_cons_succ]
      refine wpAnyH_take (i := 41) (oi := _) (v := ?_) rfl (by kernel_rfl) (by kernel_rfl) (by kernel_rfl) (fun _ _ _ h => h) (Or.inl ⟨by rfl, ?_⟩) (by assumption) ?_
      rotate_left
      · (intro w hSw; go_simp; first | done | (with_reducible rfl))
      simp only [Act.put, List.getElem_toArray, List.getElem_cons_succ, List.getElem_cons_zero, List.setIfInBounds_toArray, List.set_cons_zero, List.set_cons_succ]
      refine wpAnyH_take (i := 42) (oi := _) (v := ?_) rfl (by kernel_rfl) (by kernel_rfl) (by kernel_rfl) (fun _ _ _ h => h) (Or.inl ⟨by rfl, ?_⟩) (by assumption) ?_
      rotate_left
      · (intro w hSw; have cc := HS.out w hSw; obtain ⟨c0, c1, c2, c3, c4, c5, c6, c7⟩ := cc; go_simp; first | done | (with_reducible rfl))
      simp only [Act.put, List.getElem_toArray, List.getElem_cons_succ, List.getElem_cons_zero, List.setIfInBounds_toArray, List.set_cons_zero, List.set_cons_succ]
      refine wpAnyH_take (i := 43) (oi := _) (v := ?_) rfl (by kernel_rfl) (by kernel_rfl) (by kernel_rfl) (fun _ _ _ h => h) (Or.inl ⟨by rfl, ?_⟩) (by assumption) ?_
      rotate_left
      · (intro w hSw; go_simp; first | done | (with_reducible rfl))
      simp only [Act.put, List.getElem_toArray, List.getElem_cons_succ, List.getElem_cons_zero, List.setIfInBounds_toArray, List.set_cons_zero, List.set_cons_succ]
      refine wpAnyH_take (i := 44) (oi := _) (v := ?_) rfl (by kernel_rfl) (by kernel_rfl) (by kernel_rfl) (fun _ _ _ h => h) (Or.inl ⟨by rfl, ?_⟩) (by assumption) ?_
      rotate_left
      · (intro w hSw; go_simp; first | done | (with_reducible rfl))
      simp only [Act.put, List.getElem_toArray, List.getElem_cons_succ, List.getElem_cons_zero, List.setIfInBounds_toArray, List.set_cons_zero, List.set_cons_succ]
      refine wpAnyH_take (i := 47) (oi := _) (v := ?_) rfl (by kernel_rfl) (by kernel_rfl) (by kernel_rfl) (fun _ _ _ h => h) (Or.inl ⟨by rfl, ?_⟩) (by assumption) ?_
      rotate_left
      · (intro w hSw; go_simp; first | done | (with_reducible rfl))
      simp only [Act.put, List.getElem_toArray, List.getElem_cons_succ, List.getElem_cons_zero, List.setIfInBounds_toArray, List.set_cons_zero, List.set_cons_succ]
      refine wpAnyH_take (i := 48) (oi := _) (v := ?_) rfl (by kernel_rfl) (by kernel_rfl) (by kernel_rfl) (fun _ _ _ h => h) (Or.inl ⟨by rfl, ?_⟩) (by assumption) ?_
      rotate_left
      · (intro w hSw; have cc := HS.out w hSw; obtain ⟨c0, c1, c2, c3, c4, c5, c6, c7⟩ := cc; go_simp; first | done | (with_reducible rfl))
      simp only [Act.put, List.getElem_toArray, List.getElem_cons_succ, List.getElem_cons_zero, List.setIfInBounds_toArray, List.set_cons_zero, List.set_cons_succ]
      refine wpAnyH_ready (rs := [4]) (by kernel_rfl) (by simp) ?_
      refine AllReadyH.cons (o := _) rfl (fun K hK => ?_) AllReadyH.nil
      go_simp
      refine (B0.out _ hHeld).mono ?_
      rintro e wA ⟨rfl, SA⟩
      refine hK.out _ _ SA (fun hHeld => ?_)
      clear hK K
      refine wpAnyH_take (i := 5) (oi := _) (v := ?_) rfl (by kernel_rfl) (by kernel_rfl) (by kernel_rfl) (fun _ _ _ h => h) (Or.inl ⟨by rfl, ?_⟩) (by assumption) ?_
      rotate_left
      · (intro w hSw; go_simp; first | done | (with_reducible rfl))
      simp only [Act.put, List.getElem_toArray, List.getElem_cons_succ, List.getElem_cons_zero, List.setIfInBounds_toArray, List.set_cons_zero, List.set_cons_succ]
      refine wpAnyH_ready (rs := [8]) (by kernel_rfl) (by simp) ?_
      refine AllReadyH.cons (o := _) rfl (fun K hK => ?_) AllReadyH.nil
      go_simp
      refine (B1.out _ hHeld).mono ?_
      rintro e wA ⟨rfl, SA⟩
      refine hK.out _ _ SA (fun hHeld => ?_)
      clear hK K
      refine wpAnyH_take (i := 9) (oi := _) (v := ?_) rfl (by kernel_rfl) (by kernel_rfl) (by kernel_rfl) (fun _ _ _ h => h) (Or.inl ⟨by rfl, ?_⟩) (by assumption) ?_
      rotate_left
      · (intro w hSw; go_simp; first | done | (with_reducible rfl))
      simp only [Act.put, List.getElem_toArray, List.getElem_cons_succ, List.getElem_cons_zero, List.setIfInBounds_toArray, List.set_cons_zero, List.set_cons_succ]
      refine wpAnyH_ready (rs := [12]) (by kernel_rfl) (by simp) ?_
      refine AllReadyH.cons (o := _) rfl (fun K hK => ?_) AllReadyH.nil
      go_simp
      refine (B2.out _ hHeld).mono ?_
      rintro e wA ⟨rfl, SA⟩
      refine hK.out _ _ SA (fun hHeld => ?_)
      clear hK K
      refine wpAnyH_take (i := 13) (oi := _) (v := ?_) rfl (by kernel_rfl) (by kernel_rfl) (by kernel_rfl) (fun _ _ _ h => h) (Or.inl ⟨by rfl, ?_⟩) (by assumption) ?_
      rotate_left
      · (intro w hSw; go_simp; first | done | (with_reducible rfl))
      simp only [Act.put, List.getElem_toArray, List.getElem_cons_succ, List.getElem_cons_zero, List.setIfInBounds_toArray, List.set_cons_zero, List.set_cons_succ]
      refine wpAnyH_ready (rs := [17]) (by kernel_rfl) (by simp) ?_
      refine AllReadyH.cons (o := _) rfl (fun K hK => ?_) AllReadyH.nil
      go_simp
      refine (B3.out _ hHeld).mono ?_
      rintro e wA ⟨rfl, SA⟩
      refine hK.out _ _ SA (fun hHeld => ?_)
      clear hK K
      refine wpAnyH_take (i := 18) (oi := _) (v := ?_) rfl (by kernel_rfl) (by kernel_rfl) (by kernel_rfl) (fun _ _ _ h => h) (Or.inl ⟨by rfl, ?_⟩) (by assumption) ?_
      rotate_left
      · (intro w hSw; go_simp; first | done | (with_reducible rfl))
      simp only [Act.put, List.getElem_toArray, List.getElem_cons_succ, List.getElem_cons_zero, List.setIfInBounds_toArray, List.set_cons_zero, List.set_cons_succ]
      refine wpAnyH_ready (rs := [23]) (by kernel_rfl) (by simp) ?_
      refine AllReadyH.cons (o := _) rfl (fun K hK => ?_) AllReadyH.nil
      go_simp
      refine (B4.out _ hHeld).mono ?_
      rintro e wA ⟨rfl, SA⟩
      refine hK.out _ _ SA (fun hHeld => ?_)
      clear hK K
      refine wpAnyH_take (i := 24) (oi := _) (v := ?_) rfl (by kernel_rfl) (by kernel_rfl) (by kernel_rfl) (fun _ _ _ h => h) (Or.inl ⟨by rfl, ?_⟩) (by assumption) ?_
      rotate_left
      · (intro w hSw; go_simp; first | done | (with_reducible rfl))
      simp only [Act.put, List.getElem_toArray, List.getElem_cons_succ, List.getElem_cons_zero, List.setIfInBounds_toArray, List.set_cons_zero, List.set_cons_succ]
      refine wpAnyH_take (i := 27) (oi := _) (v := ?_) rfl (by kernel_rfl) (by kernel_rfl) (by kernel_rfl) (fun _ _ _ h => h) (Or.inl ⟨by rfl, ?_⟩) (by assumption) ?_
      rotate_left
      · (intro w hSw; go_simp; first | done | (with_reducible rfl))
      simp only [Act.put, List.getElem_toArray, List.getElem_cons_succ, List.getElem_cons_zero, List.setIfInBounds_toArray, List.set_cons_zero, List.set_cons_succ]
      refine wpAnyH_ready (rs := [32]) (by kernel_rfl) (by simp) ?_
      refine AllReadyH.cons (o := _) rfl (fun K hK => ?_) AllReadyH.nil
      go_simp
      refine (B5.out _ hHeld).mono ?_
      rintro e wA ⟨rfl, SA⟩
      refine hK.out _ _ SA (fun hHeld => ?_)
      clear hK K
      refine wpAnyH_take (i := 33) (oi := _) (v := ?_) rfl (by kernel_rfl) (by kernel_rfl) (by kernel_rfl) (fun _ _ _ h => h) (Or.inl ⟨by rfl, ?_⟩) (by assumption) ?_
      rotate_left
      · (intro w hSw; go_simp; first | done | (with_reducible rfl))
      simp only [Act.put, List.getElem_toArray, List.getElem_cons_succ, List.getElem_cons_zero, List.setIfInBounds_toArray, List.set_cons_zero, List.set_cons_succ]
      refine wpAnyH_take (i := 36) (oi := _) (v := ?_) rfl (by kernel_rfl) (by kernel_rfl) (by kernel_rfl) (fun _ _ _ h => h) (Or.inl ⟨by rfl, ?_⟩) (by assumption) ?_
      rotate_left
      · (intro w hSw; go_simp; first | done | (with_reducible rfl))
      simp only [Act.put, List.getElem_toArray, List.getElem_cons_succ, List.getElem_cons_zero, List.setIfInBounds_toArray, List.set_cons_zero, List.set_cons_succ]
      refine wpAnyH_ready (rs := [39]) (by kernel_rfl) (by simp) ?_
      refine AllReadyH.cons (o := _) rfl (fun K hK => ?_) AllReadyH.nil
      go_simp
      refine (B6.out _ hHeld).mono ?_
      rintro e wA ⟨rfl, SA⟩
      refine hK.out _ _ SA (fun hHeld => ?_)
      clear hK K
      refine wpAnyH_take (i := 40) (oi := _) (v := ?_) rfl (by kernel_rfl) (by kernel_rfl) (by kernel_rfl) (fun _ _ _ h => h) (Or.inl ⟨by rfl, ?_⟩) (by assumption) ?_
      rotate_left
      · (intro w hSw; go_simp; first | done | (with_reducible rfl))
      simp only [Act.put, List.getElem_toArray, List.getElem_cons_succ, List.getElem_cons_zero, List.setIfInBounds_toArray, List.set_cons_zero, List.set_cons_succ]
      refine wpAnyH_ready (rs := [45]) (by kernel_rfl) (by simp) ?_
      refine AllReadyH.cons (o := _) rfl (fun K hK => ?_) AllReadyH.nil
      go_simp
      refine (B7.out _ hHeld).mono ?_
      rintro e wA ⟨rfl, SA⟩
      refine hK.out _ _ SA (fun hHeld => ?_)
      clear hK K
      refine wpAnyH_take (i := 46) (oi := _) (v := ?_) rfl (by kernel_rfl) (by kernel_rfl) (by kernel_rfl) (fun _ _ _ h => h) (Or.inl ⟨by rfl, ?_⟩) (by assumption) ?_
      rotate_left
      · (intro w hSw; go_simp; first | done | (with_reducible rfl))
      simp only [Act.put, List.getElem_toArray, List.getElem_cons_succ, List.getElem_cons_zero, List.setIfInBounds_toArray, List.set_cons_zero, List.set_cons_succ]
      refine wpAnyH_take (i := 49) (oi := _) (v := ?_) rfl (by kernel_rfl) (by kernel_rfl) (by kernel_rfl) (fun _ _ _ h => h) (Or.inl ⟨by rfl, ?_⟩) (by assumption) ?_
      rotate_left
      · (intro w hSw; go_simp; first | done | (with_reducible rfl))
      simp only [Act.put, List.getElem_toArray, List.getElem_cons_succ, List.getElem_cons_zero, List.setIfInBounds_toArray, List.set_cons_zero, List.set_cons_succ]
      refine wpAnyH_take (i := 50) (oi := _) (v := ?_) rfl (by kernel_rfl) (by kernel_rfl) (by kernel_rfl) (fun _ _ _ h => h) (Or.inl ⟨by rfl, ?_⟩) (by assumption) ?_
      rotate_left
      · (intro w hSw; go_simp; first | done | (with_reducible rfl))
      simp only [Act.put, List.getElem_toArray, List.getElem_cons_succ, List.getElem_cons_zero, List.setIfInBounds_toArray, List.set_cons_zero, List.set_cons_succ]
      refine wpAnyH_done (by kernel_rfl) ?_ _

      have HFI := Keep.mk hHeld.1
      go_wp2
      refine ⟨⟨i + 1, by omega, by go_num, by rw [HEQ.out, HTT.out], HFN.out, HFI⟩, ?_⟩
      simp only [intOf]; omega
    · obtain rfl : i = n := by omega
      have htk : L.take i = L := by rw [← HLN.out]; exact List.take_length
      have HB : Keep (st = some (magic ++ be 4 i ++ encs L)) := ⟨by
        rw [HST.out, if_pos (by have := HFT.out; rw [htk] at this; exact this), HLN.out, List.append_assoc]⟩
      have HZ : Keep ((magic ++ be 4 i ++ encs L).length ≤ 4294967100) := ⟨by
        have h1 := encs_len L
        have h2 := HT.out
        simp only [List.length_append, be_len, show magic.length = 4 from rfl]; omega⟩
      rw [htk]
      generalize magic ++ be 4 i ++ encs L = b at HB HZ ⊢
      have hs : (ba b).size ≤ 4294967100 := by rw [ba_size]; exact HZ.out
      have HKr : Keep (RK wr) := ⟨HK.out.kept HI.out⟩
      have h4r : 4 ≤ wr.heap.size := Nat.le_trans h4 HI.out.size
      have HR : Keep (wrO Sha.sha st = b ++ Sha.sha b ∧ werr st = 0) := ⟨by rw [HB.out]; exact ⟨rfl, rfl⟩⟩
      have HAD := Keep.mk (addB b (Sha.sha b) (by have := HZ.out; rw [sha_len]; omega))
      have HAB := Keep.mk (app_ba b (Sha.sha b))
      have hc1 := cvt (ba b)
      have HSL : Keep (Go.Proofs.YtjbkoablleneeaaGreatDoor.sl (ba b) = b) := ⟨sl_mk b⟩
      have HP : Keep (Parts ((Lib.bytesWorld wr 5 (ba b)).alloc (.cells #[.slice (some ⟨wr.heap.size, 0, none⟩) (ba b).size (grownCap wr (ba b).size 0 5)] 36)) (some ⟨(Lib.bytesWorld wr 5 (ba b)).heap.size, 0, none⟩) 1 [b] ∧ wr.grownBy ((Lib.bytesWorld wr 5 (ba b)).alloc (.cells #[.slice (some ⟨wr.heap.size, 0, none⟩) (ba b).size (grownCap wr (ba b).size 0 5)] 36)) none) :=
        ⟨by have := parts_one _ _ _ _ _ (bytes_of wr (ba b) _ (grownCap_ge wr (ba b).size 0 5)); rw [HSL.out] at this; exact this, (gr_bytes wr (ba b)).trans (World.grownBy_alloc _ _ _)⟩
      have HL : Keep ([b].flatten = b ∧ b.length ≤ 4294967296 ∧ (Sha.sha b).length = 32) := ⟨by simp, by have := HZ.out; omega, sha_len _⟩
      have hb2 : (ba (Sha.sha b)).size = 32 := by rw [ba_size, sha_len]
      have HBA := Keep.mk (Eq.refl (ba b))
      clear htk HST HFT HT HO HE HLN H1 HB HZ
      generalize hBB : ba b = BB at hs hc1 HP HAD HBA HAB ⊢
      go_wp2_with fail
      refine (rof_any _ 1 1 [b] _ HP.out.1 (some_nil _ _ _ _) (HKr.out.kept HP.out.2) (Nat.le_trans h4r HP.out.2.size) (by decide) (by rw [HL.out.1]; exact HL.out.2.1)).mono ?_
      rintro e w2 ⟨rfl, g2⟩
      have H2 : Keep (w.grownBy w2 none) := ⟨HI.out.trans (HP.out.2.trans g2)⟩
      rw [HL.out.1]
      have HS3 : Keep ((Sha.sha b).length = 32) := ⟨HL.out.2.2⟩
      have hadd := HAD.out
      generalize hs4 : Sha.sha b = S4 at HS3 hadd hb2 HAB ⊢
      have HS4 : Keep (Sha.sha b = S4) := ⟨hs4⟩
      have hw3 : (⟨S4.toArray⟩ : ByteArray).size = 32 := hb2
      replace HAB : Keep (BB ++ (⟨S4.toArray⟩ : ByteArray) = ba (b ++ S4)) := HAB
      clear g2 hs4 HP HL HI HKr hBB hb2
      go_wp2_with (
        (refine wpList_store_mid rfl 76 _ _ rfl _ _ _ rfl rfl ((Go.Proofs.YtjbkoablleneeaaGreatDoor.Has.newA w2 _ 76).there 0 _ (by rw [List.size_toArray, List.length_map, HS3.out]; decide)) (info36 S4 HS3.out) (bytes_one _) ?_
         generalize hw6 : World.setCells _ _ _ _ = w6
         obtain ⟨h6, g6⟩ := sumVar w2 _ rfl S4 HS3.out w6 hw6
         have hcv := str_back w6 w2.heap.size S4 HS3.out h6
         have H6 : Keep (w.grownBy w6 none) := ⟨H2.out.trans g6⟩
         clear h6 g6 hw6
         generalize (⟨S4.toArray⟩ : ByteArray) = SB at hcv hw3 HAB))
      go_ret2
      exact ⟨by rw [HR.out.1, HR.out.2, HS4.out, ← HAB.out]; first | rfl | (simp; done), H6.out⟩
end Go.Proofs.YtjbkoablleneeaaGreatDoor.Pk

