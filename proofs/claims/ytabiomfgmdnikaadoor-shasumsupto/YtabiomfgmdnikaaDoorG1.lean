/- ShaSums: alive, the reference's Hash -/
import Derived.Test.YtabiomfgmdnikaaDoorF3
import Derived.Test.YtabiomfgmdnikaaDoorB1
namespace Go.Proofs.YtabiomfgmdnikaaDoor
open Go Go.RowKit
theorem sum_abc : Sha.sha [97, 98, 99] = [186, 120, 22, 191, 143, 1, 207, 234, 65, 65, 64, 222, 93, 174, 34, 35, 176, 3, 97, 163, 150, 23, 122, 156, 180, 16, 255, 97, 242, 0, 21, 173] := by kernel_rfl
theorem hex_abc : (hexB (Sha.sha [97, 98, 99])).toList = [98, 97, 55, 56, 49, 54, 98, 102, 56, 102, 48, 49, 99, 102, 101, 97, 52, 49, 52, 49, 52, 48, 100, 101, 53, 100, 97, 101, 50, 50, 50, 51, 98, 48, 48, 51, 54, 49, 97, 51, 57, 54, 49, 55, 55, 97, 57, 99, 98, 52, 49, 48, 102, 102, 54, 49, 102, 50, 48, 48, 49, 53, 97, 100] := by rw [sum_abc]; kernel_rfl

set_option maxRecDepth 100000 in
set_option maxHeartbeats 2000000 in
theorem alive_any (w : World) (hk : Kc w) :
    Calls Tryd.prog 15 #[] w fun e w' => e = .returned (.bool true) ∧ w.grownBy w' none := by
  have HK : Keep (Kc w) := ⟨hk⟩
  clear hk
  have hcv := kconst
  go_enter Tryd.func15, Tryd.ntmps15
  go_wp2_with fail
  generalize hw1 : World.alloc _ _ = w1
  have H1 : Keep (Parts w1 (some ⟨w.heap.size + 1, 0, none⟩) 1 [[97, 98, 99]] ∧ w.grownBy w1 none) := ⟨by
    subst hw1
    have h := parts_one (w.alloc (.cells #[Value.int IntKind.u8 97, Value.int IntKind.u8 98, Value.int IntKind.u8 99] 5 (3, 4))) (some ⟨w.heap.size, 0, none⟩) 3 3 [97, 98, 99] (bytes_new _ w.heap.size 3 3 [97, 98, 99] (3, 4) 5 (heap_alloc_last w _) rfl (by decide))
    rw [heap1] at h
    exact ⟨h, (World.grownBy_alloc _ _ _).trans (World.grownBy_alloc _ _ _)⟩⟩
  have HK1 : Keep (Kc w1) := ⟨HK.out.kept H1.out.2 (by simp)⟩
  clear hw1
  refine (of_any _ 1 1 [[97, 98, 99]] _ H1.out.1 HK1.out (by decide) (by decide)).mono ?_
  rintro e w2 ⟨rfl, g2⟩
  have HG2 : Keep (w.grownBy w2 none) := ⟨H1.out.2.trans g2⟩
  have hh := hex_abc
  have hsl := Mac.sha_len [97, 98, 99]
  rw [show ([[97, 98, 99]] : List (List UInt8)).flatten = [97, 98, 99] from rfl]
  generalize Sha.sha [97, 98, 99] = S at hh hsl ⊢
  clear g2
  go_wp2_with (go_at_call 34; refine (hex_any S _ _ ⟨rfl⟩ hsl).mono ?_; rintro e w3 ⟨rfl, g3⟩; have HG3 : Keep (w.grownBy w3 none) := ⟨HG2.out.trans g3⟩; clear g3)
  go_ret
  exact ⟨rfl, HG3.out⟩

/-- the reference's Hash at b has been written T -/
structure RH (w : World) (b base : Nat) (T : List UInt8) : Prop where
  v : ∃ v, Has w b [v] 61 ∧ w.ownsRow base 5 1 v T.length (T.map bv)
/-- only b, and what lies from base on, may have turned -/
structure GB (base b : Nat) (w w' : World) : Prop where
  os : w'.os = w.os
  tape : w'.tape = w.tape
  output : w'.output = w.output
  size : w.heap.size ≤ w'.heap.size
  block : ∀ k, k < base → k ≠ b → w'.heap[k]? = w.heap[k]?

set_option maxRecDepth 100000 in
set_option maxHeartbeats 2000000 in
theorem rnew_any (w : World) :
    Calls Tryd.prog 22 #[] w fun e w' => e = .returned (.pointer (some ⟨w.heap.size, 0, none⟩)) ∧ Has w' w.heap.size [.slice none 0 0] 61 ∧ w.grownBy w' none ∧ w'.heap.size = w.heap.size + 1 := by
  go_enter Tryd.func22, Tryd.ntmps22
  go_wp2
  go_ret
  exact ⟨rfl, Has.newA _ _ _, World.grownBy_alloc _ _ _, heap1 _ _⟩

set_option maxRecDepth 100000 in
set_option maxHeartbeats 2000000 in
theorem rwrite_any (b base : Nat) (T : List UInt8) (a : Option Addr) (n c : Nat) (q : List UInt8) (w : World) (hR : RH w b base T) (hq : BytesOf w a n c q) (hnil : a = none → c = 0) (hb : b < base) (hbase : base ≤ w.heap.size) (hsz : T.length + n ≤ 140737488355328) :
    Calls Tryd.prog 24 #[.pointer (some ⟨b, 0, none⟩), .slice a n c] w fun e w' => e = .returned (.tuple #[]) ∧ RH w' b base (T ++ q) ∧ GB base b w w' := by
  obtain ⟨v, hv, ho⟩ := hR.v
  obtain ⟨a1, c1, rfl, _, _⟩ := own_bytes ho
  obtain ⟨v2, w2, hap, p1, p2⟩ := app28 w base (.slice a1 T.length c1) T.length _ a n c q ho hq hnil hsz hbase
  have hc := hv.cellv 0 (.slice a1 T.length c1) rfl
  have hne : (Value.slice a1 T.length c1).ownBlock ≠ some b := fun e => by have := (ho.lt b e).1; omega
  have hv2 : Has w2 b [.slice a1 T.length c1] 61 := hv.kept p2 (fun e => hne e.symm)
  have hf := hv2.frozen 0
  have hc2 := hv2.cellv 0 (.slice a1 T.length c1) rfl
  rw [← List.map_append] at p1
  obtain ⟨a3, c3, rfl, _, _⟩ := own_bytes p1
  have hqn := hq.len
  have hlen : T.length + n = (T ++ q).length := by rw [List.length_append, hqn]
  have hne2 : (Value.slice a3 (T.length + n) c3).ownBlock ≠ some b := fun e => by have := (p1.lt b e).1; omega
  have H2 : Keep (RH (w2.setCell ⟨b, 0, none⟩ (.slice a3 (T.length + n) c3)) b base (T ++ q) ∧ GB base b w (w2.setCell ⟨b, 0, none⟩ (.slice a3 (T.length + n) c3))) := ⟨⟨(.slice a3 (T.length + n) c3), by
      have := hv2.setCell 0 (.slice a3 (T.length + n) c3)
      exact this, by
      rw [← hlen]
      exact p1.kept (gr_set w2 b 0 (.slice a3 (T.length + n) c3)) (.inr hne2)⟩, ⟨p2.os, p2.tape, p2.output, by have := p2.size; simpa [World.setCell] using this, fun k hk hkb => by
      rw [(gr_set w2 b 0 (.slice a3 (T.length + n) c3)).block k (by have := p2.size; omega) (by simpa using hkb)]
      exact p2.block k (by omega) (fun e => by have := (ho.lt k e.symm).1; omega)⟩⟩
  have HAP : Keep ((Builtin.append_ #[24, 24] 24 #[.slice a1 T.length c1, .slice a n c]).run Tryd.prog w = .ok (.slice a3 (T.length + n) c3) w2) := ⟨hap⟩
  clear hR hq hnil hv ho hap p1 p2 hne hv2 hne2 hlen
  go_enter Tryd.func24, Tryd.ntmps24
  go_wp2_with (at_builtin; refine wpList_append_run _ rfl (.tmp 8) (.tmp 9) 24 rfl _ _ rfl rfl HAP.out ?_)
  go_end0
  exact ⟨rfl, H2.out⟩

def zl32 : List Value := (List.replicate 32 (0 : UInt8)).map bv
def zero32 : Array Value := zl32.toArray
theorem zero36 : ∀ W : World, (zeroValue 36).run Tryd.prog W = .ok (.agg zero32) W :=
  (zero_of_info (P := Tryd.prog) (t := 36) (v := .agg zero32) (n := 32) (by kernel_rfl)).1
theorem one_nil (W : World) (a : Option Addr) (n c : Nat) (h : a = none → c = 0) : ∀ B o, (some ⟨W.heap.size, 0, none⟩ : Option Addr) = some ⟨B, o, none⟩ → ∀ j a' n' c', j < 1 → (W.alloc (.cells #[.slice a n c] 24)).cell? ⟨B, o + j, none⟩ = some (.slice a' n' c') → a' = none → c' = 0 := by
  intro B o e j a' n' c' hj hc hn
  have e' : W.heap.size = B ∧ 0 = o := by simpa using e
  obtain ⟨rfl, rfl⟩ := e'
  obtain rfl : j = 0 := by omega
  rw [(Has.newA W #[.slice a n c] 24).cell] at hc
  have hc' : Value.slice a n c = Value.slice a' n' c' := by simpa using hc
  injection hc' with e1 e2 e3
  rw [← e3]; exact h (by rw [e1]; exact hn)

set_option maxRecDepth 100000 in
set_option maxHeartbeats 2000000 in
theorem rsum2_any (b base : Nat) (T : List UInt8) (w : World) (hR : RH w b base T) (hrk : RK w) (hw3 : 3 ≤ w.heap.size) (hT : T.length ≤ 4294967296) :
    Calls Tryd.prog 26 #[.pointer (some ⟨b, 0, none⟩)] w fun e w' => e = .returned (.agg ((Sha.sha T).map bv).toArray) ∧ w.grownBy w' none := by
  obtain ⟨v, hv, ho⟩ := hR.v
  obtain ⟨a1, c1, rfl, hby, hnil⟩ := own_bytes ho
  have hc : ∀ o : Obj, (w.alloc o).cell? ⟨b, 0, none⟩ = some (.slice a1 T.length c1) := fun o => (hv.alloc o).cellv 0 _ rfl
  have hz := zero36
  obtain ⟨wa, hwa⟩ : ∃ wa, w.alloc (.cells zero32 36) = wa := ⟨_, rfl⟩
  have ga : w.grownBy wa none := by rw [← hwa]; exact World.grownBy_alloc _ _ _
  have hza : Has wa w.heap.size ((List.replicate 32 (0 : UInt8)).map bv) 36 := by rw [← hwa]; exact Has.newA w zero32 36
  have hsa : wa.heap.size = w.heap.size + 1 := by rw [← hwa]; exact heap1 _ _
  have HP : Keep (Parts (wa.alloc (.cells #[.slice a1 T.length c1] 24)) (some ⟨wa.heap.size, 0, none⟩) 1 [T] ∧ w.grownBy (wa.alloc (.cells #[.slice a1 T.length c1] 24)) none ∧ RK (wa.alloc (.cells #[.slice a1 T.length c1] 24)) ∧ Has (wa.alloc (.cells #[.slice a1 T.length c1] 24)) w.heap.size ((List.replicate 32 (0 : UInt8)).map bv) 36) :=
    ⟨parts_one _ _ _ _ _ (hby.kept ga), ga.trans (World.grownBy_alloc _ _ _), hrk.kept (ga.trans (World.grownBy_alloc _ _ _)), hza.alloc _⟩
  have HN : Keep (∀ B o, (some ⟨wa.heap.size, 0, none⟩ : Option Addr) = some ⟨B, o, none⟩ → ∀ j a' n' c', j < 1 → (wa.alloc (.cells #[.slice a1 T.length c1] 24)).cell? ⟨B, o + j, none⟩ = some (.slice a' n' c') → a' = none → c' = 0) := ⟨one_nil wa a1 T.length c1 hnil⟩
  have HFL : Keep ([T].flatten = T ∧ (Sha.sha T).length = 32) := ⟨by simp, Mac.sha_len _⟩
  subst hwa
  rw [hsa] at HP HN
  clear hR hv ho hby hnil hrk ga hza hsa
  go_enter Tryd.func26, Tryd.ntmps26
  go_wp2_with fail
  refine (rof_any _ 1 1 [T] _ HP.out.1 HN.out HP.out.2.2.1 (Nat.le_trans hw3 HP.out.2.1.size) (by decide) (by rw [HFL.out.1]; exact hT)).mono ?_
  rintro e w3 ⟨rfl, g3⟩
  rw [HFL.out.1]
  have H4 : Keep (Has w3 w.heap.size ((List.replicate 32 (0 : UInt8)).map bv) 36 ∧ w.grownBy w3 none) := ⟨HP.out.2.2.2.kept g3 (by simp), HP.out.2.1.trans g3⟩
  have HS0 : Keep ((Sha.sha T).length = 32) := ⟨HFL.out.2⟩
  generalize hsv : Sha.sha T = S at HS0 ⊢
  have HSV : Keep (Sha.sha T = S) := ⟨hsv⟩
  have HSS : Keep ((Tryd.prog.info? 36).map (·.size) = some (S.map bv).length ∧ (S.map bv).length = 32) := ⟨by rw [List.length_map, HS0.out]; exact ⟨size25, rfl⟩⟩
  clear g3 hsv HP HN
  go_wp2_with (refine wpList_store_mid rfl 36 _ _ rfl _ _ _ rfl rfl (H4.out.1.there 0 _ (by rw [List.size_toArray, HSS.out.2]; simp)) HSS.out.1 (bytes_one _) ?_)
  refine ret_cell (b := w.heap.size) (cs := S.map bv) (t := 36) rfl rfl ?_ under25 rfl HSS.out.1 rfl ⟨by rw [HSV.out], ?_⟩
  · exact H4.out.1.setAll _ (by rw [HSS.out.2]; simp)
  · exact gr_new H4.out.2 (gr_sets _ _ _ _) (Nat.le_refl _)
end Go.Proofs.YtabiomfgmdnikaaDoor
