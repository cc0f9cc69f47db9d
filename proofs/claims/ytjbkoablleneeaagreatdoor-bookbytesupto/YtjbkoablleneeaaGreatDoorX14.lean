import Derived.Test.YtjbkoablleneeaaGreatDoorX13
/- book.Write -/
namespace Go.Proofs.YtjbkoablleneeaaGreatDoor.Pk
open Go Go.RowKit

/-- a variable of an entry's own -/
theorem entVar (w3 : World) (C : Array Value) (hC : C.size = 8) (e : En) (w4 : World) (h : (w3.alloc (.cells C 35)).setCells w3.heap.size 0 (en e) = w4) : Has w4 w3.heap.size (en e) 35 ∧ w3.grownBy w4 none := by
  subst h
  exact ⟨(Has.newA w3 C 35).setAll _ (by simp [hC, en_len]), gr_new (World.grownBy_alloc _ _ _) (gr_sets _ _ _ _) (Nat.le_refl _)⟩
theorem info35 (e : En) : (Tryz.prog.info? 35).map (·.size) = some (en e).toArray.size := size35
theorem one35 (e : En) : (en e).toArray.all (·.oneCell') = true := all_oneCell_toArray (en_one e)
/-- how long all that may be -/
def tl : List En → Nat
  | [] => 0
  | e :: r => e.nm.length + e.fr.length + e.dat.length + 57 + tl r
theorem tl_app (a b : List En) : tl (a ++ b) = tl a + tl b := by
  induction a with
  | nil => simp [tl]
  | cons e r ih => rw [List.cons_append, tl, tl, ih]; omega
theorem tl_mem {l : List En} {i : Nat} {e : En} (h : l[i]? = some e) : tl (l.take i) + (e.nm.length + e.fr.length + e.dat.length + 57) ≤ tl l := by
  obtain ⟨h1, h2⟩ := List.getElem?_eq_some_iff.1 h
  have e1 : l = l.take i ++ (l[i] :: l.drop (i + 1)) := by rw [← List.drop_eq_getElem_cons h1, List.take_append_drop]
  have e2 := congrArg tl e1
  rw [tl_app, tl, h2] at e2
  omega
theorem wFold_len (l : List En) (st : WS) : ((l.foldl wEnt st).getD []).length ≤ (st.getD []).length + tl l := by
  induction l generalizing st with
  | nil => simp [tl]
  | cons e r ih =>
    rw [List.foldl_cons, tl]
    have h1 := ih (wEnt st e)
    have h2 := wEnt_len st e
    omega
def wHead (n : Nat) : WS := wNum (wBytes (some []) magic) n 4
theorem wHead_len (n : Nat) : ((wHead n).getD []).length ≤ 12 := wNum_len _ _ _
def wUpto (L : List En) (i : Nat) : WS := (L.take i).foldl wEnt (wHead L.length)
theorem wUpto_succ {L : List En} {i : Nat} {e : En} (h : L[i]? = some e) : wUpto L (i + 1) = wEnt (wUpto L i) e := by
  obtain ⟨h1, h2⟩ := List.getElem?_eq_some_iff.1 h
  unfold wUpto
  rw [List.take_succ_eq_append_getElem h1, List.foldl_append, h2]; rfl
theorem wUpto_all (L : List En) : wUpto L L.length = wBody L := by unfold wUpto wBody; rw [List.take_length]; rfl
theorem wUpto_len (L : List En) (i : Nat) : ((wUpto L i).getD []).length ≤ 12 + tl L := by
  have h1 := wFold_len (L.take i) (wHead L.length)
  have h2 := wHead_len L.length
  have h3 : tl (L.take i) ≤ tl L := by
    have := congrArg tl (List.take_append_drop i L)
    rw [tl_app] at this; omega
  unfold wUpto; omega
/-- a writer of the call's own -/
structure Wm (w W : World) (wb : Nat) (v : Value) (st : WS) : Prop where
  a : WAt W wb v st
  g : w.grownBy W none
  b : w.heap.size ≤ wb
  r : ∀ k, v.ownBlock = some k → w.heap.size ≤ k
theorem Wm.grown {w W W' : World} {wb : Nat} {v : Value} {st : WS} (h : Wm w W wb v st) (hg : W.grownBy W' none) : Wm w W' wb v st := ⟨h.a.kept hg, h.g.trans hg, h.b, h.r⟩
theorem Wm.did {w W W' : World} {wb : Nat} {v v' : Value} {st st' : WS} (h : Wm w W wb v st) (d : WDid W W' wb v st' v') : Wm w W' wb v' st' :=
  ⟨d.a, fr_mine h.g d.f (fun i hi => by rcases hi with q | q; exact q ▸ h.b; exact h.r i q), h.b, fun k q => by
    rcases d.n k q with q | q
    · exact h.r k q
    · exact Nat.le_trans h.g.size q⟩
def wrO (H : List UInt8 → List UInt8) : WS → List UInt8
  | none => []
  | some b => b ++ H b
theorem wrS_eq (H : List UInt8 → List UInt8) (l : List En) : wrS H l = wrO H (wBody l) := by
  unfold wrS
  cases wBody l <;> rfl
set_option maxRecDepth 100000 in
set_option maxHeartbeats 8000000 in
theorem write_c (a : Option Addr) (n c : Nat) (L : List En) (w : World) (hE : Es w a n c L) (hok : ∀ e ∈ L, e.Ok) (hk : Kc w) (hn : n ≤ 1073741824) (hT : tl L ≤ 1099511627776) :
    Calls Tryz.prog 8 #[.slice a n c] w fun e w' => e = .returned (.tuple #[.string (ba (wrS Sha.sha L)), .int .i64 (werr (wBody L))]) ∧ w.grownBy w' none := by
  have HE := Keep.mk hE
  have HO := Keep.mk hok
  have HK := Keep.mk hk
  have HT := Keep.mk hT
  have HLN := Keep.mk hE.len
  obtain ⟨d35, u35, r35⟩ := under35
  rw [wrS_eq]
  obtain ⟨st, hst⟩ : ∃ q, wBody L = q := ⟨_, rfl⟩
  have HST := Keep.mk hst
  rw [hst]
  clear hE hok hk hT hst
  go_enter Tryz.func8, Tryz.ntmps8
  go_wp2_with fail
  refine (newW_c _).mono ?_
  rintro e w1 ⟨wb, rfl, a1, g1, rfl⟩
  have H1 : Keep (Wm w w1 w.heap.size (.slice none 0 0) (some [])) := ⟨a1, g1, Nat.le_refl _, fun k q => by cases q⟩
  clear a1 g1
  go_wp2_with fail
  refine (wBytesW_c _ _ _ mgB _ H1.out.a (by simp [mgB, ByteArray.size]) (by decide)).mono ?_
  rintro e w2 ⟨rfl, v2, d2⟩
  have H2 : Keep (Wm w w2 w.heap.size v2 (wBytes (some []) magic)) := ⟨H1.out.did d2⟩
  clear d2
  go_wp2_with fail
  refine (wNumber_c _ _ _ n 4 _ H2.out.a (by omega) (by decide)).mono ?_
  rintro e w3 ⟨rfl, v3, d3⟩
  have H3 : Keep (Wm w w3 w.heap.size v3 (wUpto L 0)) := ⟨by
    have := H2.out.did d3
    rw [← HLN.out] at this; exact this⟩
  clear d3
  go_wp2_with fail
  generalize w.heap.size = wb at H1 H2 H3 ⊢
  go_loopw [19] (fun t w' => ∃ (i : Nat) (v : Value), i ≤ n ∧ t = .int .i64 i ∧ Keep (Wm w w' wb v (wUpto L i))) (fun t _ => n - (intOf t).toNat)
  case atStart => exact ⟨0, v3, by omega, rfl, H3⟩
  case round =>
    obtain ⟨i, v, hi, rfl, HI⟩ := hrel
    by_cases hli : i < n
    · obtain ⟨B, o, rfl, hat⟩ := HE.out.at_ (by omega)
      obtain ⟨x, hx⟩ : ∃ x, L[i]? = some x := ⟨_, List.getElem?_eq_getElem (by rw [HLN.out]; exact hli)⟩
      have HX : Keep (L[i]? = some x ∧ wr.rangeAt B (o + i * 8) (en x)) := ⟨hx, fun j v hv => HI.out.g.cell (hat i x hx j v hv) (by simp)⟩
      clear hat hx
      go_wp2_with (first
        | (refine wpList_load_mid rfl 35 _ rfl _ _ rfl (en x) _ HX.out.2 u35 r35 size35 ?_)
        | (refine wpList_store_mid rfl 35 _ _ rfl _ _ _ rfl rfl ((Has.newA wr _ 35).there 0 _ (Nat.le_refl 8)) (info35 x) (one35 x) ?_
           generalize hw6 : World.setCells _ _ _ _ = w6
           obtain ⟨h6, g6⟩ := entVar wr _ rfl x w6 hw6
           have H6 : Keep (Wm w w6 wb v (wUpto L i) ∧ Has w6 wr.heap.size (en x) 35) := ⟨HI.out.grown g6, h6⟩
           clear h6 g6 hw6)
        | (refine wpList_load_mid rfl 35 _ rfl _ _ rfl (en x) _ H6.out.2.range u35 r35 size35 ?_))
      refine (lay_c wb v (wUpto L i) x _ H6.out.1.a (HO.out x (List.mem_of_getElem? HX.out.1)) (by have h1 := wUpto_len L i; have h2 := tl_mem HX.out.1; have := HT.out; omega) (by have h2 := tl_mem HX.out.1; have := HT.out; omega) (by have h2 := tl_mem HX.out.1; have := HT.out; omega) (by have h2 := tl_mem HX.out.1; have := HT.out; omega)).mono ?_
      rintro e w7 ⟨rfl, v7, d7⟩
      have H7 : Keep (Wm w w7 wb v7 (wUpto L (i + 1))) := ⟨by rw [wUpto_succ HX.out.1]; exact H6.out.1.did d7⟩
      clear d7
      go_wp2
      refine ⟨⟨i + 1, v7, by omega, by go_num, H7⟩, ?_⟩
      simp only [intOf]; omega
    · obtain rfl : i = n := by omega
      have HB : Keep (wUpto L i = st) := ⟨by rw [← HLN.out, ← HST.out]; exact wUpto_all L⟩
      have HZ : Keep ((st.getD []).length ≤ 1200000000000) := ⟨by have h1 := wUpto_len L i; rw [HB.out] at h1; have := HT.out; omega⟩
      rw [HB.out] at HI
      have HKr : Keep (Kc wr) := ⟨HK.out.kept HI.out.g (by simp)⟩
      clear HB hi hli H1 H2 H3 HST
      go_wp2_with fail
      refine (wDone_c wb v _ _ HI.out.a).mono ?_
      rintro e w8 ⟨rfl, g8⟩
      have H8 : Keep (w.grownBy w8 none ∧ Kc w8) := ⟨HI.out.g.trans g8, HKr.out.kept g8 (by simp)⟩
      clear g8 HI HKr
      cases st with
      | none =>
        rw [show werr none = 51 from rfl]
        go_wp2
        go_ret2
        exact ⟨rfl, H8.out.1⟩
      | some b =>
        have HC := Keep.mk (sumOf_c (ba b) w8 H8.out.2 (by have := HZ.out; rw [ba_size]; simp at this; omega))
        have HSH : Keep (shaB (ba b) = ba (Sha.sha b)) := ⟨by unfold shaB; rw [show Go.Proofs.YtjbkoablleneeaaGreatDoor.sl (ba b) = b from sl_mk b]⟩
        have hadd := addB b (Sha.sha b) (by have := HZ.out; rw [sha_len]; simp at this; omega)
        have HRS : Keep (ba (wrO Sha.sha (some b)) = ba (b ++ Sha.sha b)) := ⟨rfl⟩
        rw [HSH.out] at HC
        rw [show werr (some b) = 0 from rfl, show (⟨((some b).getD []).toArray⟩ : ByteArray) = ba b from rfl]
        have hb1 : (ba b).size ≤ 1200000000000 := by have := HZ.out; rw [ba_size]; simpa using this
        have hb2 : (ba (Sha.sha b)).size = 32 := by rw [ba_size, sha_len]
        generalize ba (b ++ Sha.sha b) = R at hadd HRS
        generalize ba (Sha.sha b) = SB at hadd HC hb2
        generalize ba b = BB at hadd HC hb1 ⊢
        clear HSH HZ
        go_wp2_with fail
        refine HC.out.mono ?_
        rintro e w9 ⟨rfl, g9⟩
        have H9 : Keep (w.grownBy w9 none) := ⟨H8.out.1.trans g9⟩
        clear g9
        go_wp2
        go_ret2
        exact ⟨by rw [HRS.out]; rfl, H9.out⟩
end Go.Proofs.YtjbkoablleneeaaGreatDoor.Pk

