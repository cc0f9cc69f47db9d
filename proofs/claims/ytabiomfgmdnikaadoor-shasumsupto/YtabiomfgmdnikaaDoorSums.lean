/- ShaSums, the second form: the row and its card. -/
import Derived.Test.YtabiomfgmdnikaaDoorK1
import Derived.Test.YtabiomfgmdnikaaDoorG2
import Derived.Test.YtabiomfgmdnikaaDoorTie
import Derived.Test.YtabiomfgmdnikaaDoorCards
import Derived.SevenTiedAt
import Derived.Deep.DeepHandedRow
namespace Go.Proofs.YtabiomfgmdnikaaDoor
open Go Go.ChangeShapes Go.WideShapes Go.ChangeAt Go.RowKit

theorem bulk_one {H : Type} (d : DataW H) : 1 ≤ Rows.uptoBulk d := by
  cases d with
  | lit l => cases l <;> simp [Rows.uptoBulk]
  | nil => simp [Rows.uptoBulk]
  | ptr d => simp [Rows.uptoBulk]
  | slice elems spare => simp [Rows.uptoBulk]
  | agg parts => simp [Rows.uptoBulk]
  | iface t d => simp [Rows.uptoBulk]
  | map entries => simp [Rows.uptoBulk]
  | held h => simp [Rows.uptoBulk]
theorem bulk_len {H : Type} (l : List (DataW H)) : l.length ≤ Rows.uptoBulkAll l := by
  induction l with
  | nil => simp
  | cons x r ih => have := bulk_one x; simp only [Rows.uptoBulkAll, List.length_cons]; omega
theorem bulk_mem {H : Type} {d : DataW H} {l : List (DataW H)} (h : d ∈ l) : Rows.uptoBulk d ≤ Rows.uptoBulkAll l := by
  induction l with
  | nil => cases h
  | cons x r ih =>
    simp only [Rows.uptoBulkAll]
    cases List.mem_cons.1 h with
    | inl e => subst e; omega
    | inr e => have := ih e; omega
theorem cells5 : Tryd.prog.cellsOf 5 = 1 := by kernel_rfl
theorem cells24 : Tryd.prog.cellsOf 24 = 1 := by kernel_rfl
/-- one part as it is handed in -/
theorem part_open {H : Type} {enc : TypeId × Value → H} {W : World} {v : Value} {fuel : Nat} {d : DataW H} {pl : List MemPlace} (hf : DataW.trod enc Tryd.prog W 0 (fun _ => true) true fuel 24 [v] = some (d, pl)) :
    ∃ a n c q, v = .slice a n c ∧ BytesOf W a n c q ∧ (a = none → c = 0) ∧ n ≤ Rows.uptoBulk d := by
  rcases open_ints under28 under5 cells5 hf with ⟨hcs, _⟩ | ⟨a, len, cap, zs, hcs, _, hl, _, hz, hx, hcell, hwz⟩
  · have e : v = Value.slice none 0 0 := by simpa using hcs
    subst e
    exact ⟨none, 0, 0, [], rfl, ⟨rfl, Nat.le_refl _, fun h => by omega⟩, fun _ => rfl, Nat.zero_le _⟩
  · have e : v = Value.slice (some a) len cap := by simpa using hcs
    subst e
    simp only [if_true] at hz
    simp only [Prod.mk.injEq] at hx
    refine ⟨some a, len, cap, (zs.take len).map fun z => UInt8.ofNat z.toNat, rfl, ⟨by simp; omega, hl, fun hn => ?_⟩, (fun h => by cases h), ?_⟩
    · obtain ⟨b, off, rfl, hc⟩ := ints_at hcell (by omega)
      refine ⟨b, off, rfl, fun j x hx => ?_⟩
      rw [List.getElem?_map, List.getElem?_take] at hx
      split at hx
      · rename_i hj
        have hjz : j < zs.length := by omega
        rw [List.getElem?_eq_getElem hjz] at hx
        obtain rfl := Option.some.inj hx
        rw [hc j hjz]
        have hb := bounds_u8 (hwz zs[j] (List.getElem_mem hjz))
        have e : zs.getD j 0 = zs[j] := by simp [List.getD, hjz]
        rw [e]
        congr 2
        simp
        omega
      · cases hx
    · rw [hx.1]
      have h1 := bulk_len (H := H) (lits .u8 (zs.take len))
      have h2 : (lits (H := H) .u8 (zs.take len)).length = len := by simp [lits]; omega
      simp only [Rows.uptoBulk]
      omega
/-- the parts as they are handed in -/
theorem parts_open {H : Type} {enc : TypeId × Value → H} {W : World} {a0 : Option Addr} {n0 c0 fuel : Nat} {d : DataW H} {pl : List MemPlace} (hf : DataW.trod enc Tryd.prog W 0 (fun _ => true) true fuel 34 (Value.slice a0 n0 c0).cells.toList = some (d, pl)) :
    ∃ ls : List (List UInt8), Parts W a0 n0 ls ∧ n0 ≤ c0 ∧ (a0 = none → c0 = 0) ∧ Nils W a0 n0 ∧ n0 ≤ Rows.uptoBulk d ∧ ∀ (j : Nat) (l : List UInt8), ls[j]? = some l → l.length ≤ Rows.uptoBulk d := by
  rcases Deep.open_slice1 under34 cells24 hf with ⟨hcs, hx⟩ | ⟨a, len, cap, m, n, V, D, Pl, hcs, _, hl, _, hm, hx, hc⟩
  · have e : Value.slice a0 n0 c0 = Value.slice none 0 0 := by simpa [Value.cells] using hcs
    injection e with e1 e2 e3
    subst e1 e2 e3
    exact ⟨[], ⟨rfl, fun h => by omega⟩, Nat.le_refl _, (fun _ => rfl), (fun B o h => by cases h), Nat.zero_le _, (fun j l h => by simp at h)⟩
  · have e : Value.slice a0 n0 c0 = Value.slice (some a) len cap := by simpa [Value.cells] using hcs
    injection e with e1 e2 e3
    subst e1 e2 e3
    simp only [if_true] at hm
    simp only [Prod.mk.injEq] at hx
    have each : ∀ i, i < n0 → ∃ q : List UInt8, ∃ a n c, V i = .slice a n c ∧ BytesOf W a n c q ∧ (a = none → c = 0) ∧ n ≤ Rows.uptoBulk (D i) := fun i hi => by
      obtain ⟨a, n, c, q, h1, h2, h3, h4⟩ := part_open (hc i (by omega)).2
      exact ⟨q, a, n, c, h1, h2, h3, h4⟩
    obtain ⟨Q, hQ⟩ := Deep.choose_lt each
    have hat : 0 < n0 → ∃ b off, a = ⟨b, off, none⟩ := fun hj => by
      have h0 := (hc 0 (by omega)).1
      obtain ⟨b, off, bt⟩ := a
      cases bt with
      | none => exact ⟨b, off, rfl⟩
      | some x =>
        exfalso
        simp [World.cell?, Addr.add] at h0
        split at h0 <;> cases h0
    have hbk : Rows.uptoBulkAll ((List.range n0).map D) ≤ Rows.uptoBulk d := by
      rw [hx.1]; simp only [Rows.uptoBulk]; omega
    refine ⟨(List.range n0).map Q, ⟨by simp, fun hn => ?_⟩, hl, (fun h => by cases h), fun B o hB j a' n' c' hj hcell hnone => ?_, ?_, fun j l hl' => ?_⟩
    · obtain ⟨b, off, rfl⟩ := hat hn
      refine ⟨b, off, rfl, fun j q hq => ?_⟩
      have hj : j < n0 := by have := (List.getElem?_eq_some_iff.1 hq).1; simpa using this
      have e2 : Q j = q := by
        have : ((List.range n0).map Q)[j]? = some (Q j) := by rw [List.getElem?_map, List.getElem?_range hj]; rfl
        rw [this] at hq; exact Option.some.inj hq
      obtain ⟨a', n', c', h1, h2, _, _⟩ := hQ j hj
      have h0 := (hc j (by omega)).1
      rw [Addr.add_mid, h1] at h0
      exact ⟨a', n', c', h0, e2 ▸ h2⟩
    · have hB' := Option.some.inj hB
      subst hB'
      obtain ⟨a'', n'', c'', h1, _, h3, _⟩ := hQ j hj
      have h0 := (hc j (by omega)).1
      rw [Addr.add_mid, h1, hcell] at h0
      have e3 : Value.slice a' n' c' = Value.slice a'' n'' c'' := Option.some.inj h0
      injection e3 with x1 x2 x3
      rw [x3]; exact h3 (by rw [← x1]; exact hnone)
    · have h1 := bulk_len ((List.range n0).map D)
      rw [List.length_map, List.length_range] at h1
      omega
    · have hj : j < n0 := by have := (List.getElem?_eq_some_iff.1 hl').1; simpa using this
      have e2 : Q j = l := by
        have : ((List.range n0).map Q)[j]? = some (Q j) := by rw [List.getElem?_map, List.getElem?_range hj]; rfl
        rw [this] at hl'; exact Option.some.inj hl'
      obtain ⟨a', n', c', _, h2, _, h4⟩ := hQ j hj
      have h5 := bulk_mem (d := D j) (l := (List.range n0).map D) (List.mem_map.2 ⟨j, List.mem_range.2 hj, rfl⟩)
      rw [← e2, h2.len]
      omega

theorem sums_contract (H : Type) (enc : TypeId × Value → H) (W : World) (base : Nat) (args : Array Value) (ds gs : List (DataW H)) (before : List MemPlace)
    (hval : ∀ (j : Nat) t v, Tryd.f7.params[j]? = some t → args[j]? = some v → Value.okWide Tryd.prog W .any base t v)
    (hW : DataW.Whole enc Tryd.prog Tryd.f7.params.toList Rows.shaSumsSpec.vars false W args.toList ds gs before) (hk : Rows.uptoSmall H (ds ++ gs) = true) (hL : laidMetH Tryd.prog Rows.shaSumsUptoRow.laid W) :
    Calls Tryd.prog 7 args W fun e W' => ∃ v, e = .returned v ∧ Rows.shaSumsSpec.post enc Tryd.prog Tryd.f7 false true false false W args v W' := by
  have hW' := hW
  obtain ⟨p, q, hA0, hV, rfl, hfz, hnd⟩ := hW
  have hA : DataW.TrodAll enc Tryd.prog W 0 (fun _ => true) true Tryd.f7.params.toList args.toList ds p := hA0
  rw [Tryd.params7] at hA hval
  obtain ⟨v0, d0, rfl, rfl, h0⟩ := trodAll_one hA
  obtain ⟨rfl, rfl⟩ := trodVars_none hV
  obtain ⟨a0, n0, c0, rfl⟩ := okWide_slice under34 (hval 0 34 v0 rfl rfl)
  have h0' := h0
  obtain ⟨fuel, hf⟩ := h0
  obtain ⟨ls, hps, hnc, hnone, hnils, hnb, hlb⟩ := parts_open hf
  have hbk : Rows.uptoBulkAll [d0] ≤ 1048576 := by
    rw [List.append_nil] at hk
    exact of_decide_eq_true hk
  simp only [Rows.uptoBulkAll] at hbk
  obtain ⟨hkc, hr, h3⟩ := all_of_laid hL
  clear hA0
  simp only [List.append_nil] at hW'
  have hlt : ∀ x ∈ p, x.block < W.heap.size := fun x hx => hW'.lt x hx
  refine (sums_core a0 n0 c0 ls W hkc hr h3 hps hnc (by omega) hnone hnils (fun j l hl => by have := hlb j l hl; omega)).mono fun e W' ⟨he, hg⟩ => ?_
  subst he
  have hB := below_of hg
  refine ⟨_, rfl, ⟨_, _, _, [], p, [], hW', trodAll_mk1 (shut_bool Tryd.underlying4 _), ?_, rfl, hB.frame _, fun h => by cases h⟩⟩
  have t0 := Below.trod (t := 34) laidOut (by kernel_rfl) (of_decide_eq_true (by kernel_rfl)) h0' hB hlt
  exact trodAll_mk1 t0

theorem sums_reads (os : Os) {H : Type} (enc : TypeId × Value → H) : ∃ places, DataW.whole enc Tryd.prog ((World.doorLaid Tryd.prog 400 os).forCall (fun _ _ => 0) ⟨#[], #[.slice none 0 0], []⟩).memory Tryd.f7.params.toList Rows.shaSumsSpec.vars false (#[Value.slice none 0 0] : Array Value).toList 8 = some ([.nil], [], places) :=
  ⟨[], by kernel_rfl⟩
theorem sums_met (os : Os) : laidMet Tryd.prog Rows.shaSumsUptoRow.laid ((World.doorLaid Tryd.prog 400 os).forCall (fun _ _ => 0) ⟨#[], #[.slice none 0 0], []⟩).memory :=
  laidMet_of_run' 8 (by kernel_rfl) (by kernel_rfl)

set_option maxRecDepth 100000 in
theorem sums_lifted (os : Os) (started : os.Started) (H : Type) (enc : TypeId × Value → H) (F : Stop.Interp) :
    ReturnsInHanded {} Tryd.checked os 7 .any ((Rows.OpenSpec.upto Rows.shaSumsSpec).preRow enc Tryd.prog Tryd.f7 Rows.shaSumsUptoRow.domain false Rows.shaSumsUptoRow.laid) (((Rows.OpenSpec.upto Rows.shaSumsSpec).at F).post enc Tryd.prog Tryd.f7 false true false false) := by
  obtain ⟨places, hx⟩ := sums_reads os enc
  refine returnsInHanded_of_row (C := Tryd.checked) (s := Rows.OpenSpec.upto Rows.shaSumsSpec) own started (by kernel_rfl) Tryd.func7
    (witness_row_at (enc := enc) (C := Tryd.checked) false (World.doorLaid Tryd.prog 400 os) #[.slice none 0 0] rfl (by kernel_rfl) (by kernel_rfl) (by kernel_rfl)
      (OpenSpec.preRow_of_cond 8 hx (by kernel_rfl) (fun k hk => by cases hk; kernel_rfl) (by kernel_rfl) (sums_met os))) ?_
  intro W base args ds gs before hval hW _ hcond _ hL _ _
  exact sums_contract H enc W base args ds gs before hval hW (hcond _ rfl) hL

theorem sums_row : Rows.ShaSumsUptoSaid :=
  OpenClaim.holds_of_cond 7 Tryd.f7 rfl rfl rfl rfl rfl rfl rfl ⟨rfl, rfl, rfl, rfl, rfl⟩ rfl rfl rfl rfl rfl (by kernel_rfl) Tryd.func7 (by kernel_rfl)
    (of_decide_eq_true (by kernel_rfl)) (by unfold Func.isWrapper; first | (rw [if_pos (by decide +kernel)]; kernel_rfl) | (rw [if_neg (by decide +kernel)]; exact ⟨rfl, rfl⟩))
    (fun os started H enc _ F => by rw [OpenClaim.pre_eq_preRow]; exact sums_lifted os started H enc F)

theorem sums_holds : Rows.ShaSumsUptoCardSaid :=
  Claim7.holds_tied_plain_at .later [] [.data, .data, .data] true (true, "dc6009e50a457e1c972dd1b06df61c01104041a34702692b9ecffe281563eae1") false
    sums_row (fun _ h => by cases h) (by kernel_rfl) (fun _ h => by cases h) shaSumsUpto_row_tie rfl ⟨rfl, rfl⟩ (by kernel_rfl) rfl
    (fun f fn hf hfn => by
      obtain rfl : f = 7 := Option.some.inj ((show Tryd.prog.funcNamed "joust/joustlaw01.ShaSums" = some 7 by kernel_rfl).symm.trans hf) |>.symm
      obtain rfl : fn = Tryd.f7 := (Option.some.inj (Tryd.func7.symm.trans hfn)).symm
      exact ⟨by kernel_rfl, fun j t ht => by
        rw [Tryd.params7] at ht
        have hm : t ∈ [34] := by simpa using Array.mem_of_getElem? ht
        have hall : ([34].all fun u => !Tryd.prog.wantsStandIn u) = true := by kernel_rfl
        exact (show Tryd.prog.wantsStandIn t = false by simpa using List.all_eq_true.1 hall t hm)⟩)
    (by kernel_rfl)
#print axioms sums_holds
end Go.Proofs.YtabiomfgmdnikaaDoor
