import Derived.Shelf.SlSortCmp.WholeK
import Derived.Test.YtplcicbpkbamnabGreatDoorProg
import Derived.Test.YtplcicbpkbamnabGreatDoorX0
import Derived.Test.YtplcicbpkbamnabGreatDoorX7
import Derived.Test.YtplcicbpkbamnabGreatDoorX15
import Derived.Test.YtplcicbpkbamnabGreatDoorX16
import Derived.Test.YtplcicbpkbamnabGreatDoorX3
/-
  lobby: slices.SortFunc at []api.Live, laid in plain words.
-/
namespace Go.Proofs
open Go.Shelf
def Tryz.sortLv_ren : Go.Shelf.Ren := ⟨fun | 6 => 85 | 15 => 109 | 14 => 108 | 28 => 128 | 29 => 129 | 20 => 120 | 21 => 121 | 22 => 122 | 23 => 123 | 24 => 124 | 25 => 125 | 26 => 126 | 27 => 127 | 46 => 136 | 47 => 137 | 48 => 138 | 49 => 139 | 50 => 140 | 57 => 144 | n => n, fun | 22 => 43 | 24 => 49 | 25 => 145 | 3 => 3 | 39 => 37 | 0 => 0 | 53 => 152 | 55 => 38 | 4 => 4 | 46 => 180 | 45 => 179 | 50 => 96 | 5 => 5 | 9 => 9 | 66 => 191 | 70 => 194 | 76 => 198 | 77 => 199 | n => n, fun | n => n⟩
set_option maxRecDepth 100000 in
theorem Tryz.sortLv : Go.Proofs.SlLaysF0.n6 Tryz.prog Tryz.sortLv_ren := {
  mixed := by kernel_rfl
  f6 := ⟨Tryz.f85.name, by decide, Tryz.func85.trans (congrArg some (by kernel_rfl))⟩
  f14 := ⟨Tryz.f108.name, by decide, Tryz.func108.trans (congrArg some (by kernel_rfl))⟩
  f15 := Tryz.func109.trans (congrArg some (by kernel_rfl))
  f20 := ⟨Tryz.f120.name, by decide, Tryz.func120.trans (congrArg some (by kernel_rfl))⟩
  f21 := ⟨Tryz.f121.name, by decide, Tryz.func121.trans (congrArg some (by kernel_rfl))⟩
  f22 := ⟨Tryz.f122.name, by decide, Tryz.func122.trans (congrArg some (by kernel_rfl))⟩
  f23 := ⟨Tryz.f123.name, by decide, Tryz.func123.trans (congrArg some (by kernel_rfl))⟩
  f24 := ⟨Tryz.f124.name, by decide, Tryz.func124.trans (congrArg some (by kernel_rfl))⟩
  f25 := ⟨Tryz.f125.name, by decide, Tryz.func125.trans (congrArg some (by kernel_rfl))⟩
  f26 := ⟨Tryz.f126.name, by decide, Tryz.func126.trans (congrArg some (by kernel_rfl))⟩
  f27 := ⟨Tryz.f127.name, by decide, Tryz.func127.trans (congrArg some (by kernel_rfl))⟩
  f28 := Tryz.func128.trans (congrArg some (by kernel_rfl))
  f29 := Tryz.func129.trans (congrArg some (by kernel_rfl))
  f46 := ⟨Tryz.f136.name, by decide, Tryz.func136.trans (congrArg some (by kernel_rfl))⟩
  f47 := Tryz.func137.trans (congrArg some (by kernel_rfl))
  f48 := Tryz.func138.trans (congrArg some (by kernel_rfl))
  f49 := ⟨Tryz.f139.name, by decide, Tryz.func139.trans (congrArg some (by kernel_rfl))⟩
  f50 := ⟨Tryz.f140.name, by decide, Tryz.func140.trans (congrArg some (by kernel_rfl))⟩
  f57 := ⟨Tryz.f144.name, by decide, Tryz.func144.trans (congrArg some (by kernel_rfl))⟩
  t0 := Tryz.underlying0
  a0 := Tryz.isAgg0
  z0 := Tryz.sizeOf0
  v0 := Tryz.zeroValue0
  t3 := Tryz.underlying3
  a3 := Tryz.isAgg3
  z3 := Tryz.sizeOf3
  v3 := Tryz.zeroValue3
  t4 := Tryz.underlying4
  a4 := Tryz.isAgg4
  z4 := Tryz.sizeOf4
  v4 := Tryz.zeroValue4
  t5 := Tryz.underlying5
  a5 := Tryz.isAgg5
  z5 := Tryz.sizeOf5
  v5 := Tryz.zeroValue5
  t9 := Tryz.underlying9
  a9 := Tryz.isAgg9
  z9 := Tryz.sizeOf9
  v9 := Tryz.zeroValue9
  t22 := Tryz.underlying43
  a22 := Tryz.isAgg43
  z22 := Tryz.sizeOf43
  v22 := Tryz.zeroValue43
  t25 := Tryz.underlying145
  a25 := Tryz.isAgg145
  z25 := Tryz.sizeOf145
  v25 := Tryz.zeroValue145
  t39 := Tryz.underlying37
  a39 := Tryz.isAgg37
  z39 := Tryz.sizeOf37
  v39 := Tryz.zeroValue37
  t45 := Tryz.underlying179
  a45 := Tryz.isAgg179
  z45 := Tryz.sizeOf179
  v45 := Tryz.zeroValue179
  t46 := Tryz.underlying180
  a46 := Tryz.isAgg180
  z46 := Tryz.sizeOf180
  v46 := Tryz.zeroValue180
  t50 := Tryz.underlying96
  a50 := Tryz.isAgg96
  z50 := Tryz.sizeOf96
  v50 := Tryz.zeroValue96
  t53 := Tryz.underlying152
  a53 := Tryz.isAgg152
  z53 := Tryz.sizeOf152
  v53 := Tryz.zeroValue152
  t55 := Tryz.underlying38
  a55 := Tryz.isAgg38
  z55 := Tryz.sizeOf38
  v55 := Tryz.zeroValue38
  t66 := Tryz.underlying191
  a66 := Tryz.isAgg191
  z66 := Tryz.sizeOf191
  v66 := Tryz.zeroValue191
  t70 := Tryz.underlying194
  a70 := Tryz.isAgg194
  z70 := Tryz.sizeOf194
  v70 := Tryz.zeroValue194
  t76 := Tryz.underlying198
  a76 := Tryz.isAgg198
  z76 := Tryz.sizeOf198
  v76 := Tryz.zeroValue198
  t77 := Tryz.underlying199
  a77 := Tryz.isAgg199
  z77 := Tryz.sizeOf199
  v77 := Tryz.zeroValue199 }
end Go.Proofs

/- lobby: accounts: find. -/
namespace Go.Proofs.YtplcicbpkbamnabGreatDoor.Lo
open Go Go.RowKit

abbrev b8 (x : UInt8) : Value := .int .u8 x.toNat
/-- an account: its name, its secret's bytes -/
structure Ac where
  nm : ByteArray
  sc : List UInt8
def acv (a : Ac) : List Value := .string a.nm :: a.sc.map b8
set_option maxRecDepth 100000 in
theorem acv_len (a : Ac) (h : a.sc.length = 32) : (acv a).length = 33 := by simp [acv, h]
set_option maxRecDepth 100000 in
theorem acv_one (a : Ac) : ∀ v ∈ acv a, v.oneCell' = true := by
  intro v hv
  rcases List.mem_cons.1 hv with rfl | hv
  · rfl
  · obtain ⟨x, _, rfl⟩ := List.mem_map.1 hv
    rfl
set_option maxRecDepth 100000 in
theorem wi (x : Int) (h : -9223372036854775808 ≤ x) (h2 : x ≤ 9223372036854775807) : IntKind.i64.wrap x = x := by
  rw [IntKind.wrap_i64]; omega
def acs (L : List Ac) : List Value := L.flatMap acv
set_option maxRecDepth 100000 in
theorem acs_len (L : List Ac) (h : ∀ a ∈ L, a.sc.length = 32) : (acs L).length = L.length * 33 := by
  induction L with
  | nil => rfl
  | cons a r ih =>
    have h1 := ih (fun b hb => h b (List.mem_cons_of_mem _ hb))
    have h2 := acv_len a (h a (List.mem_cons_self ..))
    simp only [acs, List.flatMap_cons, List.length_append, List.length_cons] at h1 ⊢
    omega
set_option maxRecDepth 100000 in
theorem acs_get {L : List Ac} (h : ∀ a ∈ L, a.sc.length = 32) {j : Nat} {a : Ac} (hj : L[j]? = some a) (i : Nat) (v : Value) (hv : (acv a)[i]? = some v) : (acs L)[j * 33 + i]? = some v := by
  obtain ⟨hj1, e⟩ := List.getElem?_eq_some_iff.1 hj
  have e2 : L = L.take j ++ a :: L.drop (j + 1) := by rw [← e, ← List.drop_eq_getElem_cons hj1, List.take_append_drop]
  have hl : (acs (L.take j)).length = j * 33 := by
    rw [acs_len _ (fun b hb => h b (List.mem_of_mem_take hb)), List.length_take]; congr 1; omega
  have hi : i < (acv a).length := (List.getElem?_eq_some_iff.1 hv).1
  have e3 : acs L = acs (L.take j) ++ (acv a ++ acs (L.drop (j + 1))) := by
    conv => lhs; rw [e2]
    simp [acs]
  rw [e3, List.getElem?_append_right (by omega), hl, show j * 33 + i - j * 33 = i by omega, List.getElem?_append_left hi]
  exact hv
/-- how a row of accounts is read -/
structure AcR (W : World) (v : Value) (L : List Ac) : Prop where
  s : ∀ a ∈ L, a.sc.length = 32
  o : ∃ a cap, v = .slice a L.length cap ∧ (0 < L.length → ∃ g, a = some ⟨g, 0, none⟩ ∧ ∀ (j : Nat) (x : Ac), L[j]? = some x → W.rangeAt g (j * 33) (acv x))
set_option maxRecDepth 100000 in
theorem AcR.kept {W W' : World} {v : Value} {L : List Ac} (h : AcR W v L) (g : W.grownBy W' none) : AcR W' v L := by
  obtain ⟨a, cap, e, q⟩ := h.o
  refine ⟨h.s, a, cap, e, fun hn => ?_⟩
  obtain ⟨b, e1, q⟩ := q hn
  exact ⟨b, e1, fun j x hx i v hv => g.cell (q j x hx i v hv) (by simp)⟩
set_option maxRecDepth 100000 in
theorem acr_of {W : World} {v : Value} {L : List Ac} (hs : ∀ a ∈ L, a.sc.length = 32) (h : W.ownsRow 0 104 33 v L.length (acs L)) : AcR W v L := by
  refine ⟨hs, ?_⟩
  by_cases hn : 0 < L.length
  · obtain ⟨g, c, rfl, q⟩ := own_any h hn
    refine ⟨_, c, rfl, fun _ => ⟨g, rfl, fun j x hx i v hv => ?_⟩⟩
    exact (q _ _ (acs_get hs hx i v hv)).1
  · obtain ⟨a, c, rfl⟩ := own_slice h
    exact ⟨a, c, rfl, fun h => absurd h hn⟩
def same (a : Ac) (nm : ByteArray) : Bool := decide (Na.foldL (Na.sl a.nm) = Na.foldL (Na.sl nm))
/-- where the account stands that is found by a name -/
def fdI (L : List Ac) (nm : ByteArray) : Option Nat := if Na.chkOK nm then L.findIdx? (fun a => same a nm) else none
def idv : Option Nat → Value
  | some i => .tuple #[.int .i64 (i : Nat), .bool true]
  | none => .tuple #[.int .i64 0, .bool false]
set_option maxRecDepth 100000 in
theorem under87 : ∃ d, Tryz.prog.underlying 104 = some d ∧ d.isRow = true := ⟨_, Tryz.underlying104, rfl⟩
set_option maxRecDepth 100000 in
theorem info87 : (Tryz.prog.info? 104).map (·.size) = some 33 := by kernel_rfl
set_option maxRecDepth 100000 in
set_option maxHeartbeats 8000000 in
theorem find_no (w : World) (v : Value) (nm : ByteArray) (hk : Na.Kc w) (hs : nm.size ≤ 281474976710656) (hc : ¬ Na.chkOK nm = true) :
    Calls Tryz.prog 48 #[v, .string nm] w fun e w' => e = .returned (.tuple #[.int .i64 0, .bool false]) ∧ w.grownBy w' none := by
  have hC := Na.check_c nm w hs hk
  rw [Na.chk_no hc] at hC
  clear hc
  go_enter Tryz.func48, Tryz.ntmps48
  go_wp2_with fail
  refine hC.mono ?_
  rintro e w1 ⟨rfl, g1⟩
  have HG := Keep.mk g1
  clear hC g1
  go_wp2_with fail
  go_ret2
  exact ⟨rfl, HG.out⟩
set_option maxRecDepth 100000 in
set_option maxHeartbeats 8000000 in
theorem find_go (w : World) (v : Value) (L : List Ac) (nm : ByteArray) (h : AcR w v L) (hk : Na.Kc w) (hs : nm.size ≤ 281474976710656) (hc : Na.chkOK nm = true) (hl : L.length ≤ 64) (hpos : 0 < L.length) :
    Calls Tryz.prog 48 #[v, .string nm] w fun e w' => e = .returned (idv (L.findIdx? (fun a => same a nm))) ∧ w.grownBy w' none := by
  have hC := Na.check_c nm w hs hk
  rw [show Na.chk nm = 0 from if_pos hc] at hC
  obtain ⟨du, hdu, hdr⟩ := under87
  obtain ⟨a, cap, rfl, hq⟩ := h.o
  obtain ⟨g, rfl, hq⟩ := hq hpos
  obtain ⟨n, hn⟩ : ∃ n, L.length = n := ⟨_, rfl⟩
  have HA : Keep (AcR w (.slice (some ⟨g, 0, none⟩) n cap) L ∧ Na.Kc w ∧ L.length = n ∧ n ≤ 64) := ⟨by rw [← hn]; exact h, hk, hn, by omega⟩
  rw [hn]
  have hn4 : (n : Int) ≤ 64 := by omega
  clear h hk hc hq hn hl hpos
  go_enter Tryz.func48, Tryz.ntmps48
  go_wp2_with fail
  refine hC.mono ?_
  rintro e w1 ⟨rfl, g1⟩
  have HG := Keep.mk g1
  clear hC g1
  go_wp2_with fail
  go_loopw [13] (fun u wr => ∃ i : Nat, i ≤ n ∧ u = .int .i64 i ∧ Keep (w.grownBy wr none ∧ ∀ j x, j < i → L[j]? = some x → same x nm = false)) (fun u _ => (n - intOf u).toNat)
  case atStart => exact ⟨0, by omega, rfl, ⟨HG.out, fun j x hj => by omega⟩⟩
  case round =>
    clear HG
    obtain ⟨i, hi, rfl, hR⟩ := hrel
    by_cases hlt : i < n
    · obtain ⟨x, hx⟩ : ∃ x, L[i]? = some x := ⟨_, List.getElem?_eq_getElem (by rw [HA.out.2.2.1]; exact hlt)⟩
      have hA := HA.out.1.kept hR.out.1
      obtain ⟨a', cap', e, hq⟩ := hA.o
      injection e with e1 e2 e3
      obtain ⟨g', hg, hq⟩ := hq (by rw [HA.out.2.2.1]; omega)
      rw [← e1] at hg
      injection hg with hg
      injection hg with hg
      subst hg
      have hrg := hq i x hx
      have hxs := acv_len x (HA.out.1.s x (List.mem_of_getElem? hx))
      have HRG := Keep.mk hrg
      have HXS := Keep.mk hxs
      have HX := Keep.mk hx
      have hi0 : (0 : Int) ≤ (i : Int) := by omega
      have hi1 : (i : Int) < (n : Nat) := by omega
      have hti : ((i : Nat) : Int).toNat = i := by omega
      have hwi : IntKind.i64.wrap ((i : Int) + 1) = ((i + 1 : Nat) : Int) := by rw [wi _ (by omega) (by omega)]; omega
      have HI : Keep (i < n) := ⟨hlt⟩
      clear hA hq e1 e2 e3 hrg hxs hx hlt hi
      obtain ⟨cs, hcs⟩ : ∃ cs, acv x = cs := ⟨_, rfl⟩
      rw [hcs] at HRG HXS
      have HCS := Keep.mk hcs
      clear hcs
      go_wp2_with (first
        | (show wpList _ _ _ ({ dst := _, op := Op.load 104 _, type := _, pos := _, after := _, guard := _ } :: _) _ _
           refine wpList_load_mid rfl 104 _ rfl _ _ rfl _ _ HRG.out hdu hdr (by rw [HXS.out]; exact info87) ?_)
        | (show wpList _ _ _ ({ dst := _, op := Op.store 104 _ _, type := _, pos := _, after := _, guard := _ } :: _) _ _
           refine store_new _ cs 104 rfl rfl rfl rfl (by rw [HXS.out]; rfl) (by rw [HXS.out]; exact info87) (by rw [← HCS.out]; exact acv_one x) ?_))
      intro w6 hS6 g6
      have S6 := hS6 w [] (Sep.start hR.out.1)
      obtain ⟨bb, hbb⟩ : ∃ bb, wr.heap.size = bb := ⟨_, rfl⟩
      rw [hbb] at S6 ⊢
      have c0 : w6.cell? ⟨bb, 0, none⟩ = some (.string x.nm) := (S6.boxGet k0m).cellv 0 _ (by rw [← HCS.out]; rfl)
      have hsm := Na.same_c x.nm nm w6 (HA.out.2.1.kept S6.g)
      change Calls Tryz.prog 88 #[.string x.nm, .string nm] w6 fun e w' => e = .returned (.bool (same x nm)) ∧ w6.grownBy w' none at hsm
      have HG6 := Keep.mk S6.g
      clear hS6 g6 S6 hbb HRG
      by_cases hyes : same x nm = true
      · have HF : Keep (L.findIdx? (fun a => same a nm) = some i) := ⟨by
          rw [List.findIdx?_eq_some_iff_getElem]
          obtain ⟨h1, h2⟩ := List.getElem?_eq_some_iff.1 HX.out
          refine ⟨h1, by rw [h2]; exact hyes, fun j hj hp => ?_⟩
          have := hR.out.2 j _ hj (List.getElem?_eq_getElem (by omega))
          rw [this] at hp
          cases hp⟩
        rw [hyes] at hsm
        clear hyes hR
        go_wp2_with fail
        refine hsm.mono ?_
        rintro e w7 ⟨rfl, g7⟩
        have HG7 := Keep.mk (HG6.out.trans g7)
        clear g7 hsm
        go_wp2_with fail
        go_ret2
        rw [HF.out]
        exact ⟨rfl, HG7.out⟩
      · have hno : same x nm = false := by simpa using hyes
        have HR' : Keep (∀ j y, j < i + 1 → L[j]? = some y → same y nm = false) := ⟨fun j y hj hy => by
          by_cases e : j = i
          · rw [e, HX.out] at hy
            rw [← Option.some.inj hy]; exact hno
          · exact hR.out.2 j y (by omega) hy⟩
        rw [hno] at hsm
        clear hyes hno hR
        go_wp2_with fail
        refine hsm.mono ?_
        rintro e w7 ⟨rfl, g7⟩
        have HG7 := Keep.mk (HG6.out.trans g7)
        clear g7 hsm
        go_wp2_with fail
        exact ⟨⟨i + 1, by have := HI.out; omega, by simp, ⟨HG7.out, HR'.out⟩⟩, by simp only [intOf]; have := HI.out; omega⟩
    · obtain rfl : i = n := by omega
      have HF : Keep (L.findIdx? (fun a => same a nm) = none) := ⟨by
        rw [List.findIdx?_eq_none_iff]
        intro x hx
        obtain ⟨j, hj, e⟩ := List.getElem_of_mem hx
        exact hR.out.2 j x (by rw [← HA.out.2.2.1]; exact hj) (by rw [List.getElem?_eq_getElem hj, e])⟩
      have HG := Keep.mk hR.out.1
      clear hR hlt hi
      go_wp2_with fail
      go_ret2
      rw [HF.out]
      exact ⟨rfl, HG.out⟩
set_option maxRecDepth 100000 in
set_option maxHeartbeats 8000000 in
theorem find_nil (w : World) (v : Value) (nm : ByteArray) (h : AcR w v []) (hk : Na.Kc w) (hs : nm.size ≤ 281474976710656) (hc : Na.chkOK nm = true) :
    Calls Tryz.prog 48 #[v, .string nm] w fun e w' => e = .returned (.tuple #[.int .i64 0, .bool false]) ∧ w.grownBy w' none := by
  have hC := Na.check_c nm w hs hk
  rw [show Na.chk nm = 0 from if_pos hc] at hC
  obtain ⟨a, cap, rfl, _⟩ := h.o
  clear h hk hc
  rw [show ([] : List Ac).length = 0 from rfl]
  go_enter Tryz.func48, Tryz.ntmps48
  go_wp2_with fail
  refine hC.mono ?_
  rintro e w1 ⟨rfl, g1⟩
  have HG := Keep.mk g1
  clear hC g1
  go_wp2_with fail
  go_loopw [13] (fun u wr => u = .int .i64 0 ∧ Keep (w.grownBy wr none)) (fun _ _ => 0)
  case atStart => exact ⟨rfl, HG⟩
  case round =>
    obtain ⟨rfl, hR⟩ := hrel
    go_wp2_with fail
    go_ret2
    exact ⟨rfl, hR.out⟩
set_option maxRecDepth 100000 in
theorem find_c (w : World) (v : Value) (L : List Ac) (nm : ByteArray) (h : AcR w v L) (hk : Na.Kc w) (hs : nm.size ≤ 281474976710656) (hl : L.length ≤ 64) :
    Calls Tryz.prog 48 #[v, .string nm] w fun e w' => e = .returned (idv (fdI L nm)) ∧ w.grownBy w' none := by
  unfold fdI
  by_cases hc : Na.chkOK nm = true
  · rw [if_pos hc]
    by_cases hp : 0 < L.length
    · exact find_go w v L nm h hk hs hc hl hp
    · have e : L = [] := List.eq_nil_of_length_eq_zero (by omega)
      subst e
      exact find_nil w v nm h hk hs hc
  · rw [if_neg hc]; exact find_no w v nm hk hs hc
end Go.Proofs.YtplcicbpkbamnabGreatDoor.Lo

/- lobby: accounts: copyAccounts. -/
namespace Go.Proofs.YtplcicbpkbamnabGreatDoor.Lo
open Go Go.RowKit

abbrev Pr := ByteArray × ByteArray
/-- one account more, or none -/
def cpyS (A : List Ac) (p : Pr) : Option (List Ac) := if (fdI A p.1).isSome = true ∨ ¬ Na.chkOK p.1 = true ∨ p.2.size ≠ 32 then none else some (A ++ [⟨p.1, Na.sl p.2⟩])
def cpy : List Ac → List Pr → Option (List Ac)
  | A, [] => some A
  | A, p :: r => match cpyS A p with
    | none => none
    | some B => cpy B r
set_option maxRecDepth 100000 in
theorem cpy_step {A : List Ac} {P : List Pr} {i : Nat} {p : Pr} (h : P[i]? = some p) : cpy A (P.drop i) = match cpyS A p with
    | none => none
    | some B => cpy B (P.drop (i + 1)) := by
  obtain ⟨hi, e⟩ := List.getElem?_eq_some_iff.1 h
  rw [List.drop_eq_getElem_cons hi, e]
  rfl
/-- accounts as they are handed in -/
structure InR (W : World) (v : Value) (P : List Pr) : Prop where
  o : ∃ a cap, v = .slice a P.length cap ∧ (0 < P.length → ∃ g o, a = some ⟨g, o, none⟩ ∧ ∀ (j : Nat) (x : Pr), P[j]? = some x → W.cell? ⟨g, o + j * 2, none⟩ = some (.string x.1) ∧ W.cell? ⟨g, o + j * 2 + 1, none⟩ = some (.string x.2))
  s : ∀ x ∈ P, x.1.size ≤ 281474976710656 ∧ x.2.size ≤ 281474976710656
set_option maxRecDepth 100000 in
theorem InR.kept {W W' : World} {v : Value} {P : List Pr} (h : InR W v P) (g : W.grownBy W' none) : InR W' v P := by
  obtain ⟨a, cap, e, q⟩ := h.o
  refine ⟨⟨a, cap, e, fun hn => ?_⟩, h.s⟩
  obtain ⟨b, o, e1, q⟩ := q hn
  exact ⟨b, o, e1, fun j x hx => ⟨g.cell (q j x hx).1 (by simp), g.cell (q j x hx).2 (by simp)⟩⟩
/-- a new account's cells -/
def z33 (nm : ByteArray) : List Value := .string nm :: List.replicate 32 (.int .u8 0)
set_option maxRecDepth 100000 in
theorem z33_len (nm : ByteArray) : (z33 nm).length = 33 := by simp [z33]
set_option maxRecDepth 100000 in
theorem z33_one (nm : ByteArray) : ∀ v ∈ z33 nm, v.oneCell' = true := by
  intro v hv
  rcases List.mem_cons.1 hv with rfl | hv
  · rfl
  · rw [List.eq_of_mem_replicate hv]; rfl
set_option maxRecDepth 100000 in
theorem info87b : ∃ i, Tryz.prog.info? 104 = some i ∧ i.size = 33 ∧ i.bytes = 48 ∧ i.zero = some (.agg (z33 ⟨#[]⟩).toArray) := by
  have h : (Tryz.prog.info? 104).map (fun i => (i.size, i.bytes, i.zero)) = some (33, 48, some (.agg (z33 ⟨#[]⟩).toArray)) := by kernel_rfl
  cases hq : Tryz.prog.info? 104 with
  | none => simp [hq] at h
  | some i =>
    simp only [hq, Option.map_some, Option.some.injEq, Prod.mk.injEq] at h
    exact ⟨i, rfl, h.1, h.2.1, h.2.2⟩
set_option maxRecDepth 100000 in
theorem under75 : Tryz.prog.underlying 65 = some (.slice 104) := by kernel_rfl
set_option maxRecDepth 100000 in
theorem acs_app (A : List Ac) (a : Ac) : acs (A ++ [a]) = acs A ++ acv a := by simp [acs]
/-- a row of accounts grows by one -/
theorem Sep.acc {w0 W : World} {l : List As} {v : Value} {A : List Ac} (a : Ac) (h : Sep w0 W (rowV 104 33 v A.length (acs A) :: l)) (hn : A.length ≤ 64) (ha : a.sc.length = 32) :
    ∃ g c W', (Builtin.append_ #[65, 65] 65 #[v, .slice (some ⟨W.heap.size, 0, none⟩) 1 1]).run Tryz.prog (W.alloc (.cells (acv a).toArray 104)) = .ok (.slice (some ⟨g, 0, none⟩) (A.length + 1) c) W' ∧ Sep w0 W' (rowV 104 33 (.slice (some ⟨g, 0, none⟩) (A.length + 1) c) (A ++ [a]).length (acs (A ++ [a])) :: l) := by
  obtain ⟨i, i1, i2, i3, i4⟩ := info87b
  obtain ⟨g, c, W', r1, r2⟩ := Sep.app under75 i1 i4 i2 i3 (z33_len _) (by decide) h (acv a) (acv_len a ha) (acv_one a) (by omega) (by decide)
  refine ⟨g, c, W', r1, ?_⟩
  rw [List.length_append, acs_app]
  exact r2
set_option maxRecDepth 100000 in
theorem Sep.acr {w0 W : World} {l : List As} {v : Value} {A : List Ac} (h : Sep w0 W l) (hm : rowV 104 33 v A.length (acs A) ∈ l) (hs : ∀ a ∈ A, a.sc.length = 32) : AcR W v A := acr_of hs (h.rowGet hm)
/-- what copyAccounts gives -/
def CpR (w : World) : Option (List Ac) → Ending → World → Prop
  | none, e, w' => e = .returned (.tuple #[.slice none 0 0, .bool false]) ∧ w.grownBy w' none
  | some A, e, w' => (∀ a ∈ A, a.sc.length = 32) ∧ A.length ≤ 64 ∧ ∃ v, e = .returned (.tuple #[v, .bool true]) ∧ Sep w w' [rowV 104 33 v A.length (acs A)]
set_option maxRecDepth 100000 in
theorem Sep.boxPuts {w0 W : World} {l : List As} {b : Nat} {cs ds : List Value} {t : TypeId} (h : Sep w0 W (boxA b cs t :: l)) (o : Nat) (vs : List Value) (hh : Has (W.setCells b o vs) b ds t) : Sep w0 (W.setCells b o vs) (boxA b ds t :: l) := by
  obtain ⟨F, ⟨h1, rfl⟩, _, hu⟩ := h.use
  exact hu _ [_] (Fr.ofSome (gr_sets _ _ _ _) rfl) (Loc.one (a := boxA _ _ _) _ ⟨hh, rfl⟩ (fun i hi => .inl hi))
set_option maxRecDepth 100000 in
/-- a slice of one account is built -/
theorem bs_run (w : World) : ∀ (cs : List Value), cs.length = 33 → (Instr.buildSlice 65 1 #[(0, .agg cs.toArray)]).run Tryz.prog w = .ok (.slice (some ⟨w.heap.size, 0, none⟩) 1 1) (w.alloc (.cells cs.toArray 104))
  | c0 :: c1 :: c2 :: c3 :: c4 :: c5 :: c6 :: c7 :: c8 :: c9 :: c10 :: c11 :: c12 :: c13 :: c14 :: c15 :: c16 :: c17 :: c18 :: c19 :: c20 :: c21 :: c22 :: c23 :: c24 :: c25 :: c26 :: c27 :: c28 :: c29 :: c30 :: c31 :: c32 :: [], _ => by kernel_rfl
set_option maxRecDepth 100000 in
theorem wpList_bs_run {P : Program} {w : World} {ops : Array Oper} {rest : List Oper} {o : Oper} {a : Act} {Q : Exit → Act → World → Prop} (hgd : o.guard = none) (x : Operand) (t : TypeId)
    (ho : o.op = .buildSlice t 1 #[(0, x)]) (v : Value) (hx : a.eval x = v) {v' : Value} {w' : World}
    (hr : (Instr.buildSlice t 1 #[(0, v)]).run P w = .ok v' w') (h : wpList P ops Q rest (a.put o.dst v') w') : wpList P ops Q (o :: rest) a w :=
  wpList_plain hgd fun _ hK => by
    unfold Oper.wp execOp
    simp only [ho, Sem.run_bind, Sem.run_pure, Result.andThen_ok, List.map_toArray, List.map_cons, List.map_nil, hx, hr]
    exact hK _ _ h
set_option maxRecDepth 100000 in
theorem wp_copy_run {P : Program} {o : Oper} {a : Act} {w : World} {K : Act → World → Prop} {Q : Exit → Act → World → Prop} (s x : Operand) (t t' : TypeId)
    (ho : o.op = .call { callee := .builtin .copy, args := #[s, x], argTypes := #[t, t'] }) (v u : Value) (hs : a.eval s = v) (hx : a.eval x = u) {v' : Value} {w' : World}
    (hr : (Builtin.copy_ #[t, t'] o.type #[v, u]).run P w = .ok v' w') (h : K (a.put o.dst v') w') : Oper.wp P o a w K Q := by
  unfold Oper.wp execOp
  simp only [ho, resolve, invoke, builtin, Sem.run_bind, Sem.run_pure, Result.andThen_ok, List.map_toArray, List.map_cons, List.map_nil, hs, hx, hr]
  exact h
set_option maxRecDepth 100000 in
set_option maxHeartbeats 16000000 in
theorem copy_go (w : World) (v : Value) (P : List Pr) (h : InR w v P) (hk : Na.Kc w) (hl : P.length ≤ 64) (hpos : 0 < P.length) :
    Calls Tryz.prog 23 #[v] w (CpR w (cpy [] P)) := by
  obtain ⟨du, hdu, hdr⟩ := under87
  obtain ⟨a, cap, rfl, hq⟩ := h.o
  obtain ⟨g, o, rfl, hq2⟩ := hq hpos
  obtain ⟨n, hn⟩ : ∃ n, P.length = n := ⟨_, rfl⟩
  have HA : Keep (InR w (.slice (some ⟨g, o, none⟩) n cap) P ∧ Na.Kc w ∧ P.length = n ∧ n ≤ 64 ∧ ∀ (j : Nat) (x : Pr), P[j]? = some x → w.cell? ⟨g, o + j * 2, none⟩ = some (.string x.1) ∧ w.cell? ⟨g, o + j * 2 + 1, none⟩ = some (.string x.2)) := ⟨by rw [← hn]; exact h, hk, hn, by omega, hq2⟩
  rw [hn]
  have hn4 : (n : Int) ≤ 64 := by omega
  clear h hk hq hq2 hn hl hpos
  go_enter Tryz.func23, Tryz.ntmps23
  go_wp2_with fail
  go_loopw [4, 15] (fun u4 u wr => ∃ i : Nat, i ≤ n ∧ u = .int .i64 i ∧ Keep (∃ A, cpy [] P = cpy A (P.drop i) ∧ A.length ≤ i ∧ (∀ a ∈ A, a.sc.length = 32) ∧ Sep w wr [rowV 104 33 u4 A.length (acs A)])) (fun _ u _ => (n - intOf u).toNat)
  case atStart => exact ⟨0, by omega, rfl, ⟨[], rfl, Nat.le_refl _, (fun a ha => by cases ha), (Sep.nil w).nilV 104 33⟩⟩
  case round =>
    obtain ⟨i, hi, rfl, hR⟩ := hrel
    obtain ⟨A, hA1, hA2, hA3, S⟩ := hR.out
    by_cases hlt : i < n
    · obtain ⟨x, hx⟩ : ∃ x, P[i]? = some x := ⟨_, List.getElem?_eq_getElem (by rw [HA.out.2.2.1]; exact hlt)⟩
      obtain ⟨y0, y1⟩ := HA.out.2.2.2.2 i x hx
      have y0 := S.g.cell y0 (by simp)
      have y1 := S.g.cell y1 (by simp)
      have hxs := HA.out.1.s x (List.mem_of_getElem? hx)
      have hst := cpy_step (A := A) hx
      obtain ⟨nm, sec⟩ := x
      simp only at y0 y1 hxs
      have S1 := S.newBox #[.string nm, .string sec] 73
      obtain ⟨kb, hkb⟩ : ∃ kb, wr.heap.size = kb := ⟨_, rfl⟩
      obtain ⟨W1, hW1⟩ : ∃ W1, wr.alloc (.cells #[.string nm, .string sec] 73) = W1 := ⟨_, rfl⟩
      rw [hkb, hW1] at S1
      have z0 : W1.cell? ⟨kb, 0, none⟩ = some (.string nm) := (S1.boxGet k0m).cellv 0 _ rfl
      have hF := find_c W1 u4 A nm (S1.acr k1m hA3) (HA.out.2.1.kept S1.g) hxs.1 (by have := HA.out.2.2.2.1; omega)
      have hi0 : (0 : Int) ≤ (i : Int) := by omega
      have hi1 : (i : Int) < (n : Nat) := by omega
      have hti : ((i : Nat) : Int).toNat = i := by omega
      have hwi : IntKind.i64.wrap ((i : Int) + 1) = ((i + 1 : Nat) : Int) := by rw [wi _ (by omega) (by omega)]; omega
      have HI : Keep (i < n ∧ cpy [] P = cpy A (P.drop i) ∧ A.length ≤ i ∧ (∀ a ∈ A, a.sc.length = 32) ∧ nm.size ≤ 281474976710656 ∧ sec.size ≤ 281474976710656 ∧ (cpy A (P.drop i) = match cpyS A (nm, sec) with
        | none => none
        | some B => cpy B (P.drop (i + 1)))) := ⟨hlt, hA1, hA2, hA3, hxs.1, hxs.2, hst⟩
      have HS1 := Keep.mk S1
      clear hR hA1 hA2 hA3 S hx hxs hst S1 hlt hi
      go_wp2_with fail
      refine hF.mono ?_
      rintro e w2 ⟨rfl, g2⟩
      have S2 := HS1.out.grown g2
      have z0 : w2.cell? ⟨kb, 0, none⟩ = some (.string nm) := (S2.boxGet k0m).cellv 0 _ rfl
      have z1 : w2.cell? ⟨kb, 1, none⟩ = some (.string sec) := (S2.boxGet k0m).cellv 1 _ rfl
      have hC := Na.check_c nm w2 HI.out.2.2.2.2.1 (HA.out.2.1.kept S2.g)
      have HS2 := Keep.mk S2
      clear hF HS1 g2 S2 hW1 hkb
      cases hfd : fdI A nm with
      | some q =>
        have HF : Keep (cpy [] P = none) := ⟨by rw [HI.out.2.1, HI.out.2.2.2.2.2.2]; simp [cpyS, hfd]⟩
        clear hC
        simp only [idv]
        go_wp2_with fail
        go_ret2
        rw [HF.out]
        exact ⟨rfl, HS2.out.g⟩
      | none =>
        simp only [idv]
        by_cases hok : Na.chkOK nm = true
        · rw [show Na.chk nm = 0 from if_pos hok] at hC
          go_wp2_with fail
          refine hC.mono ?_
          rintro e w3 ⟨rfl, g3⟩
          have S3 := HS2.out.grown g3
          have z0 : w3.cell? ⟨kb, 0, none⟩ = some (.string nm) := (S3.boxGet k0m).cellv 0 _ rfl
          have z1 : w3.cell? ⟨kb, 1, none⟩ = some (.string sec) := (S3.boxGet k0m).cellv 1 _ rfl
          have HS3 := Keep.mk S3
          clear hC HS2 g3 S3
          by_cases h32 : sec.size = 32
          · have HF : Keep (cpy [] P = cpy (A ++ [⟨nm, Na.sl sec⟩]) (P.drop (i + 1))) := ⟨by rw [HI.out.2.1, HI.out.2.2.2.2.2.2]; simp [cpyS, hfd, hok, h32]⟩
            have H32 := Keep.mk h32
            have hK := Na.clone_c nm w3 HI.out.2.2.2.2.1
            have hs2 : ((sec.size : Nat) : Int) = 32 := by omega
            clear hfd hok h32
            go_wp2_with fail
            refine hK.mono ?_
            rintro e w4 ⟨rfl, g4⟩
            have HS4 := Keep.mk (HS3.out.grown g4)
            clear hK g4 HS3 z0 z1
            go_wp2_with (first
              | (show wpList _ _ _ ({ dst := _, op := Op.store 104 _ _, type := _, pos := _, after := _, guard := _ } :: _) _ _
                 refine store_new _ (z33 nm) 104 rfl rfl rfl rfl rfl (by rw [z33_len]; exact info87) (z33_one nm) ?_))
            intro w6 hS6 g6
            have S6 := hS6 _ _ HS4.out
            obtain ⟨ab, hab⟩ : ∃ ab, w4.heap.size = ab := ⟨_, rfl⟩
            rw [hab] at S6 ⊢
            have HS6 := Keep.mk S6
            clear hS6 g6 S6 hab HS4
            go_wp2_with fail
            have SD := HS6.out.grown (gr_drew w6 none)
            refine wp_region_held_drew (S := fun w => w.cell? ⟨kb, 1, none⟩ = some (.string sec)) (by kernel_rfl) ((SD.boxGet k1m).cellv 1 _ rfl) (fun hHeld => ?_)
            generalize w6.drew = w7 at SD hHeld ⊢
            clear HS6
            refine wpAnyH_take (i := 0) (oi := _) (v := ?_) rfl (by kernel_rfl) (by kernel_rfl) (by kernel_rfl) (fun _ _ _ h => h) (Or.inl ⟨by rfl, ?_⟩) (by assumption) ?_
            rotate_left
            · (intro w hSw; go_simp; first | done | (with_reducible rfl))
            simp only [Act.put, List.getElem_toArray, List.getElem_cons_zero, List.setIfInBounds_toArray, List.set_cons_zero, List.set_cons_succ]
            refine wpAnyH_take (i := 1) (oi := _) (v := ?_) rfl (by kernel_rfl) (by kernel_rfl) (by kernel_rfl) (fun _ _ _ h => h) (Or.inl ⟨by rfl, ?_⟩) (by assumption) ?_
            rotate_left
            · (intro w hSw; go_simp; first | done | (with_reducible rfl))
            simp only [Act.put, List.getElem_toArray, List.getElem_cons_succ, List.getElem_cons_zero, List.setIfInBounds_toArray, List.set_cons_zero, List.set_cons_succ]
            refine wpAnyH_take (i := 2) (oi := _) (v := ?_) rfl (by kernel_rfl) (by kernel_rfl) (by kernel_rfl) (fun _ _ _ h => h) (Or.inl ⟨by rfl, ?_⟩) (by assumption) ?_
            rotate_left
            · (intro w hSw; go_simp; first | done | (with_reducible rfl))
            simp only [Act.put, List.getElem_toArray, List.getElem_cons_succ, List.getElem_cons_zero, List.setIfInBounds_toArray, List.set_cons_zero, List.set_cons_succ]
            refine wpAnyH_take (i := 3) (oi := _) (v := ?_) rfl (by kernel_rfl) (by kernel_rfl) (by kernel_rfl) (fun _ _ _ h => h) (Or.inl ⟨by rfl, ?_⟩) (by assumption) ?_
            rotate_left
            · (intro w hSw; have y1 := hSw; change w.cell? ⟨kb, 1, none⟩ = some (.string sec) at y1; clear hSw; go_simp; first | done | (with_reducible rfl))
            simp only [Act.put, List.getElem_toArray, List.getElem_cons_succ, List.getElem_cons_zero, List.setIfInBounds_toArray, List.set_cons_zero, List.set_cons_succ]
            refine wpAnyH_ready (rs := [4]) (by kernel_rfl) (by simp) ?_
            refine AllReadyH.cons rfl (fun K hK => ?_) AllReadyH.nil
            have hcp := copy_str w7 3 ab 1 32 32 32 sec (by rw [H32.out]; rfl) ((SD.boxGet k0m).there 1 32 (by rw [z33_len]; omega))
            have hbts : ((sl sec).take 32).map bv = (Na.sl sec).map b8 := by
              have : (sl sec).length = 32 := by show sec.data.toList.length = 32; rw [Array.length_toList]; exact H32.out
              rw [List.take_of_length_le (by omega)]
              rfl
            rw [hbts] at hcp
            have hl32 : (Na.sl sec).length = 32 := by show sec.data.toList.length = 32; rw [Array.length_toList]; exact H32.out
            have hov : over (z33 nm) 1 ((Na.sl sec).map b8) = acv ⟨nm, Na.sl sec⟩ := by
              rw [over_eq _ _ _ (by rw [List.length_map, hl32, z33_len]; omega), List.length_map, hl32]
              simp [z33, acv]
            have hH := (SD.boxGet k0m).setCells ((Na.sl sec).map b8) 1
            rw [hov] at hH
            have S8 := SD.boxPuts 1 _ hH
            have HCP := Keep.mk hcp
            have HL32 := Keep.mk hl32
            generalize (w7.setCells ab 1 ((Na.sl sec).map b8)) = w8 at S8 HCP
            have HS8 := Keep.mk S8
            clear SD hcp hbts hl32 hov hH S8
            rw [if_pos (by rfl)]
            refine wp_copy_run _ _ 120 9 rfl _ _ rfl rfl HCP.out ?_
            refine hK.out _ _ ((HS8.out.boxGet k1m).cellv 1 _ rfl) (fun hHeld => ?_)
            clear hK K
            refine wpAnyH_done (by kernel_rfl) ?_ _
            clear hHeld HCP
            obtain ⟨g9, c9, w9, ap, S9⟩ := (fr1 [_, _] HS8.out).acc ⟨nm, Na.sl sec⟩ (by have := HI.out; have := HA.out; omega) HL32.out
            have RNG := Keep.mk (HS8.out.boxGet k0m).range
            have AP := Keep.mk ap
            have HACL := Keep.mk (acv_len ⟨nm, Na.sl sec⟩ HL32.out)
            have S9d : Sep w w9 [rowV 104 33 (.slice (some ⟨g9, 0, none⟩) (A.length + 1) c9) (A ++ [Ac.mk nm (Na.sl sec)]).length (acs (A ++ [Ac.mk nm (Na.sl sec)]))] := Sep.dropM [_] [_, _] S9
            have HS9 : Keep (∃ B, cpy [] P = cpy B (P.drop (i + 1)) ∧ B.length ≤ i + 1 ∧ (∀ a ∈ B, a.sc.length = 32) ∧ Sep w w9 [rowV 104 33 (.slice (some ⟨g9, 0, none⟩) (A.length + 1) c9) B.length (acs B)]) := ⟨A ++ [Ac.mk nm (Na.sl sec)], HF.out, by rw [List.length_append]; have := HI.out; simp; omega, fun a ha => by
              rcases List.mem_append.1 ha with q | q
              · exact HI.out.2.2.2.1 a q
              · rw [List.mem_singleton] at q; subst q; exact HL32.out, S9d⟩
            obtain ⟨cs, hcs⟩ : ∃ cs, acv ⟨nm, Na.sl sec⟩ = cs := ⟨_, rfl⟩
            rw [hcs] at RNG AP HACL
            generalize Value.slice (some ⟨g9, 0, none⟩) (A.length + 1) c9 = v9 at *
            clear S9 S9d ap HS8 HF HL32 H32 hcs
            go_wp2_with (first
              | (show wpList _ _ _ ({ dst := _, op := Op.load 104 _, type := _, pos := _, after := _, guard := _ } :: _) _ _
                 refine wpList_load_mid rfl 104 _ rfl _ _ rfl _ _ RNG.out hdu hdr (by rw [HACL.out]; exact info87) ?_)
              | (show wpList _ _ _ ({ dst := _, op := Op.buildSlice 65 _ _, type := _, pos := _, after := _, guard := _ } :: _) _ _
                 refine wpList_bs_run rfl (.tmp 49) 65 rfl _ rfl (bs_run _ cs HACL.out) ?_)
              | (at_builtin; refine wpList_append_run _ rfl (.tmp 48) (.tmp 50) 65 rfl _ _ rfl rfl AP.out ?_))
            exact ⟨⟨i + 1, by have := HI.out.1; omega, by simp, HS9⟩, by simp only [intOf]; have := HI.out.1; omega⟩
          · have HF : Keep (cpy [] P = none) := ⟨by rw [HI.out.2.1, HI.out.2.2.2.2.2.2]; simp [cpyS, h32]⟩
            have hs2 : ¬ ((sec.size : Nat) : Int) = 32 := by omega
            go_wp2_with fail
            go_ret2
            rw [HF.out]
            exact ⟨rfl, HS3.out.g⟩
        · have HF : Keep (cpy [] P = none) := ⟨by rw [HI.out.2.1, HI.out.2.2.2.2.2.2]; simp [cpyS, hok]⟩
          rw [Na.chk_no hok] at hC
          go_wp2_with fail
          refine hC.mono ?_
          rintro e w3 ⟨rfl, g3⟩
          have HG3 := Keep.mk (HS2.out.g.trans g3)
          clear hC g3
          go_wp2_with fail
          go_ret2
          rw [HF.out]
          exact ⟨rfl, HG3.out⟩
    · obtain rfl : i = n := by omega
      have HF : Keep (cpy [] P = some A) := ⟨by rw [hA1, List.drop_of_length_le (by rw [HA.out.2.2.1]; exact Nat.le_refl _)]; rfl⟩
      have HS := Keep.mk S
      have HA3 : Keep ((∀ a ∈ A, a.sc.length = 32) ∧ A.length ≤ 64) := ⟨hA3, by have := HA.out.2.2.2.1; omega⟩
      clear hR hA1 hA2 hA3 S hlt hi
      go_wp2_with fail
      go_ret2
      rw [HF.out]
      exact ⟨HA3.out.1, HA3.out.2, _, rfl, HS.out⟩
set_option maxRecDepth 100000 in
set_option maxHeartbeats 4000000 in
theorem copy_nil (w : World) (v : Value) (h : InR w v []) : Calls Tryz.prog 23 #[v] w (CpR w (some [])) := by
  obtain ⟨a, cap, rfl, _⟩ := h.o
  have HS : Keep (Sep w w [rowV 104 33 (.slice none 0 0) 0 []]) := ⟨(Sep.nil w).nilV 104 33⟩
  clear h
  rw [show ([] : List Pr).length = 0 from rfl]
  go_enter Tryz.func23, Tryz.ntmps23
  go_wp2_with fail
  go_loopw [4, 15] (fun u4 u wr => u = .int .i64 0 ∧ u4 = .slice none 0 0 ∧ Keep (Sep w wr [rowV 104 33 (.slice none 0 0) 0 []])) (fun _ _ _ => 0)
  case atStart => exact ⟨rfl, rfl, HS⟩
  case round =>
    obtain ⟨rfl, rfl, hR⟩ := hrel
    go_wp2_with fail
    go_ret2
    exact ⟨(fun a ha => by cases ha), Nat.zero_le _, _, rfl, hR.out⟩
set_option maxRecDepth 100000 in
set_option maxHeartbeats 4000000 in
theorem copy_many (w : World) (v : Value) (P : List Pr) (h : InR w v P) (hl : 64 < P.length) : Calls Tryz.prog 23 #[v] w (CpR w none) := by
  obtain ⟨a, cap, rfl, _⟩ := h.o
  have hl2 : (64 : Int) < (P.length : Nat) := by omega
  clear h hl
  go_enter Tryz.func23, Tryz.ntmps23
  go_wp2_with fail
  go_ret2
  exact ⟨rfl, World.grownBy.refl _ _⟩
/-- what accounts come of what is handed in -/
def cpyL (P : List Pr) : Option (List Ac) := if 64 < P.length then none else cpy [] P
set_option maxRecDepth 100000 in
theorem copy_c (w : World) (v : Value) (P : List Pr) (h : InR w v P) (hk : Na.Kc w) : Calls Tryz.prog 23 #[v] w (CpR w (cpyL P)) := by
  unfold cpyL
  by_cases hl : 64 < P.length
  · rw [if_pos hl]; exact copy_many w v P h hl
  · rw [if_neg hl]
    by_cases hp : 0 < P.length
    · exact copy_go w v P h hk (by omega) hp
    · have e : P = [] := List.eq_nil_of_length_eq_zero (by omega)
      subst e
      exact copy_nil w v h
end Go.Proofs.YtplcicbpkbamnabGreatDoor.Lo

/- lobby: keys as texts; within; New; Secret. -/
namespace Go.Proofs.YtplcicbpkbamnabGreatDoor.Lo
open Go Go.RowKit

/-- 32 bytes as a text -/
def txt (l : List UInt8) : ByteArray := ⟨l.toArray⟩
set_option maxRecDepth 100000 in
theorem cvt_has {w : World} {b n c : Nat} {l : List UInt8} {t : TypeId} (h : Has w b (l.map b8) t) (hn : l.length = n) : (convert 120 9 (.slice (some ⟨b, 0, none⟩) n c)).run Tryz.prog w = .ok (.string (txt l)) w := by
  have := run_convert_bytes_back (P := Tryz.prog) w 120 9 5 ⟨b, 0, none⟩ c l under28 under5 under9 (fun j hj => by
    rw [Addr.add_mid, Nat.zero_add]; exact h.cellv j _ (by rw [List.getElem?_map, List.getElem?_eq_getElem hj]; rfl))
  rw [hn] at this
  exact this
set_option maxRecDepth 100000 in
set_option maxHeartbeats 4000000 in
theorem text_c (l : List UInt8) (w : World) (hl : l.length = 32) : Calls Tryz.prog 54 #[.agg (l.map b8).toArray] w fun e w' => e = .returned (.string (txt l)) ∧ w.grownBy w' none := by
  obtain ⟨W1, hW1⟩ : ∃ W1, w.alloc (.cells (l.map b8).toArray 102) = W1 := ⟨_, rfl⟩
  obtain ⟨kb, hkb⟩ : ∃ kb, w.heap.size = kb := ⟨_, rfl⟩
  have hH : Has W1 kb (l.map b8) 102 := by rw [← hW1, ← hkb]; exact Has.newA w (l.map b8).toArray 102
  have hcv := cvt_has (c := 32) hH hl
  have HG : Keep (w.grownBy W1 none) := ⟨by rw [← hW1]; exact World.grownBy_alloc _ _ _⟩
  obtain ⟨cs, hcs⟩ : ∃ cs, (l.map b8).toArray = cs := ⟨_, rfl⟩
  rw [hcs] at hW1 ⊢
  obtain ⟨tx, htx⟩ : ∃ tx, txt l = tx := ⟨_, rfl⟩
  rw [htx] at hcv ⊢
  have hsz : cs.size = 32 := by rw [← hcs]; simp [hl]
  clear hH hcs htx hl
  go_enter Tryz.func54, Tryz.ntmps54
  go_wp2_with fail
  go_ret
  exact ⟨rfl, HG.out⟩
set_option maxRecDepth 100000 in
theorem within_c (n m : Int) (w : World) : Calls Tryz.prog 22 #[.int .i64 n, .int .i64 m] w fun e w' => e = .returned (.bool (decide (1 ≤ n) && decide (n ≤ m))) ∧ w' = w := by
  by_cases h1 : 1 ≤ n
  · have HE : Keep ((decide (1 ≤ n) && decide (n ≤ m)) = decide (n ≤ m)) := ⟨by rw [decide_eq_true h1]; rfl⟩
    go_enter Tryz.func22, Tryz.ntmps22
    go_wp2_with fail
    go_ret
    rw [HE.out]
    exact ⟨rfl, rfl⟩
  · have HE : Keep ((decide (1 ≤ n) && decide (n ≤ m)) = false) := ⟨by rw [decide_eq_false h1]; rfl⟩
    go_enter Tryz.func22, Tryz.ntmps22
    go_wp2_with fail
    go_ret
    rw [HE.out]
    exact ⟨rfl, rfl⟩
end Go.Proofs.YtplcicbpkbamnabGreatDoor.Lo

