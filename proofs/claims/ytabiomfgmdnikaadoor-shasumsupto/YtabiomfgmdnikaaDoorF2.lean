/- ShaSums: lend -/
import Derived.Test.YtabiomfgmdnikaaDoorF1
namespace Go.Proofs.YtabiomfgmdnikaaDoor
open Go Go.RowKit

theorem own_some {w : World} {base n : Nat} {ap : Option Addr} {cp : Nat} {xs : List Value} (h : w.ownsRow base 5 1 (.slice ap n cp) n xs) (hn : 0 < n) : ∃ g, ap = some ⟨g, 0, none⟩ := by
  rcases h.2 with ⟨_, e⟩ | ⟨g, cap, cur, e, _⟩
  · omega
  · injection e with e1 _ _
    exact ⟨g, e1⟩
/-- what lend lays last -/
theorem ML.last {w w' : World} {vm : Value} {ls : List (List UInt8)} {n : Nat} (h : ML w w' vm ls n) (hl : ls.length = n) (hn : n ≤ 40) (w1 w2 : World) (e1 : w1 = w'.alloc (.cells (behindL.map bv).toArray 5 (6, 7))) (e2 : w2 = w1.alloc (.cells (itL.map bv).toArray 5 (2, 3))) :
    ∃ gm cm w3, (Builtin.append_ #[34, 34] 34 #[vm, .slice (some ⟨w2.heap.size, 0, none⟩) 2 2]).run Tryd.prog (w2.alloc (.cells #[.slice (some ⟨w'.heap.size, 0, none⟩) 6 6, .slice (some ⟨w1.heap.size, 0, none⟩) 2 2] 24)) = .ok (.slice (some ⟨gm, 0, none⟩) (n + 2) cm) w3 ∧ Lent w3 gm cm n ls ∧ w.grownBy w3 none := by
  obtain ⟨vs, o, rows⟩ := h.o
  have g1 : w'.grownBy w1 none := by rw [e1]; exact World.grownBy_alloc _ _ _
  have g2 : w1.grownBy w2 none := by rw [e2]; exact World.grownBy_alloc _ _ _
  have ga := World.grownBy_alloc w2 (.cells #[.slice (some ⟨w'.heap.size, 0, none⟩) 6 6, .slice (some ⟨w1.heap.size, 0, none⟩) 2 2] 24) none
  have gt := (g1.trans g2).trans ga
  have o2 := o.kept gt (by cases vm.ownBlock <;> simp)
  obtain ⟨a', c', w3, r1, r2, r3, r5⟩ := appMs _ w.heap.size vm n vs w2.heap.size 2 [.slice (some ⟨w'.heap.size, 0, none⟩) 6 6, .slice (some ⟨w1.heap.size, 0, none⟩) 2 2] o2 (Has.newA w2 _ 24) rfl (fun u hu => by simp at hu; rcases hu with rfl | rfl <;> rfl) (by omega) (by have := h.g.size; have := gt.size; omega) (by decide)
  have hvl : vs.length = n := by have := o.1; omega
  have s1 : w1.heap.size = w'.heap.size + 1 := by rw [e1]; exact heap1 _ _
  have s2 : w2.heap.size = w1.heap.size + 1 := by rw [e2]; exact heap1 _ _
  rcases r2.2 with ⟨_, e⟩ | ⟨gm, cap, cur, e, hb, hheap, k1, k2, k3, k4⟩
  · omega
  · injection e with ea _ ec
    have ea' := Option.some.inj ea
    subst ea' ec
    have hcm : ∀ j u, (vs ++ [Value.slice (some ⟨w'.heap.size, 0, none⟩) 6 6, .slice (some ⟨w1.heap.size, 0, none⟩) 2 2])[j]? = some u → w3.cell? ⟨gm, j, none⟩ = some u := fun j u hu => by
      have hj : j < n + 2 := by have := (List.getElem?_eq_some_iff.1 hu).1; rw [List.length_append, hvl] at this; exact this
      rw [← k4, List.getElem?_take, if_pos (by omega)] at hu
      simp only [World.cell?, hheap]
      simpa using hu
    have hvm : ∀ b, w'.heap.size ≤ b → some b ≠ vm.ownBlock := fun b hb e => by have := (o.lt b e.symm).2; omega
    have hb1 : w3.heap[w'.heap.size]? = some (.cells (behindL.map bv).toArray 5 (6, 7)) := by
      rw [r3.block _ (by rw [heap1]; omega) (hvm _ (Nat.le_refl _)), ga.block _ (by omega) (by simp), g2.block _ (by omega) (by simp), e1]
      exact heap_alloc_last _ _
    have hb2 : w3.heap[w1.heap.size]? = some (.cells (itL.map bv).toArray 5 (2, 3)) := by
      rw [r3.block _ (by rw [heap1]; omega) (hvm _ (by omega)), ga.block _ (by omega) (by simp), e2]
      exact heap_alloc_last _ _
    refine ⟨gm, c', w3, r1, ⟨hl, k1, fun j l hjl => ?_, ?_, ?_⟩, gr_row (h.g.trans gt) r3 (fun j hj => (o.lt j hj).1)⟩
    · have hj : j < n := by rw [← hl]; exact (List.getElem?_eq_some_iff.1 hjl).1
      obtain ⟨g, cp, tl, q1, q2, q3, q4⟩ := rows j l hj hjl
      refine ⟨g, cp, hcm j _ (by rw [List.getElem?_append_left (by omega)]; exact q1), q2, fun k x hx => ?_⟩
      have h3 := (q3.kept gt (by simp)).kept r3 (fun e => q4 e.symm)
      have hk := (List.getElem?_eq_some_iff.1 hx).1
      exact h3.cellv k _ (by rw [List.getElem?_append_left (by rw [List.length_map]; exact hk), List.getElem?_map, hx]; rfl)
    · exact ⟨_, 6, hcm n _ (by rw [List.getElem?_append_right (by omega), hvl, Nat.sub_self]; rfl), bytes_new w3 _ 6 6 behindL (6, 7) 5 hb1 rfl (Nat.le_refl _)⟩
    · exact ⟨_, 2, hcm (n + 1) _ (by rw [List.getElem?_append_right (by omega), hvl, show n + 1 - n = 1 by omega]; rfl), bytes_new w3 _ 2 2 itL (2, 3) 5 hb2 rfl (Nat.le_refl _)⟩

set_option maxRecDepth 100000 in
set_option maxHeartbeats 8000000 in
theorem lend_any (a : Option Addr) (n c : Nat) (ls : List (List UInt8)) (w : World) (hp : Parts w a n ls) (hnil : ∀ B o, a = some ⟨B, o, none⟩ → ∀ j a' n' c', j < n → w.cell? ⟨B, o + j, none⟩ = some (.slice a' n' c') → a' = none → c' = 0) (hn : n ≤ 40) (hb : ∀ (j : Nat) (l : List UInt8), ls[j]? = some l → l.length ≤ 2097152) :
    Calls Tryd.prog 17 #[.slice a n c] w fun e w' => ∃ gm cm, e = .returned (.slice (some ⟨gm, 0, none⟩) n cm) ∧ Lent w' gm cm n ls ∧ w.grownBy w' none := by
  have HP : Keep (Parts w a n ls ∧ ∀ B o, a = some ⟨B, o, none⟩ → ∀ j a' n' c', j < n → w.cell? ⟨B, o + j, none⟩ = some (.slice a' n' c') → a' = none → c' = 0) := ⟨hp, hnil⟩
  have hl := hp.len
  have HB : Keep (∀ (j : Nat) (l : List UInt8), ls[j]? = some l → l.length ≤ 2097152) := ⟨hb⟩
  have hcv := kconst
  clear hp hnil hb
  go_enter Tryd.func17, Tryd.ntmps17
  go_wp2_with fail
  go_loopw [3, 4] (fun v t w' => ∃ (i : Nat) (am : Option Addr) (cm : Nat), i ≤ n ∧ t = .int .i64 i ∧ v = .slice am i cm ∧ Keep (ML w w' (.slice am i cm) ls i)) (fun _ t _ => n - (intOf t).toNat)
  case atStart => exact ⟨0, none, 0, by omega, rfl, rfl, ⟨⟨[], World.ownsRow_nil _ _ _ _, fun j l hj _ => by omega⟩, World.grownBy.refl _ _⟩⟩
  case round =>
    obtain ⟨i, am, cm, hi, rfl, rfl, hrel⟩ := hrel
    rename World => wo
    by_cases hli : i < n
    · obtain ⟨B, o, rfl, hat⟩ := HP.out.1.at_ (by omega)
      obtain ⟨l, hil⟩ : ∃ p, ls[i]? = some p := ⟨_, List.getElem?_eq_getElem (by omega)⟩
      obtain ⟨a2, n2, c2, hcell, hby⟩ := hat i l hil
      have hll := HB.out i l hil
      have hc : wo.cell? ⟨B, o + i, none⟩ = some (.slice a2 n2 c2) := hrel.out.g.cell hcell (by simp)
      obtain rfl := hby.len
      obtain ⟨v1, w1, hap, o1, o2⟩ := app28 wo wo.heap.size (.slice none 0 0) 0 [] a2 l.length c2 l (World.ownsRow_nil _ _ _ _) (hby.kept hrel.out.g) (HP.out.2 B o rfl i a2 l.length c2 hli hcell) (by omega) (Nat.le_refl _)
      rw [List.nil_append, Nat.zero_add] at o1
      obtain ⟨ap, cp, rfl, _, _⟩ := own_bytes o1
      have HCW : Keep (∀ W, wo.grownBy W none → W.cell? ⟨B, o + i, none⟩ = some (.slice a2 l.length c2)) := ⟨fun W gW => (hrel.out.g.trans gW).cell hcell (by simp)⟩
      have HAP : Keep ((Builtin.append_ #[24, 24] 24 #[.slice none 0 0, .slice a2 l.length c2]).run Tryd.prog wo = .ok (.slice ap l.length cp) w1) := ⟨hap⟩
      have H1 : Keep (w1.ownsRow wo.heap.size 5 1 (.slice ap (l.length + 0) cp) (l.length + 0) ((l ++ (marks i).take 0).map bv) ∧ wo.grownBy w1 none) := ⟨by rw [List.take_zero, List.append_nil]; exact o1, o2⟩
      have HIL : Keep (ls[i]? = some l ∧ ML w wo (.slice am i cm) ls i) := ⟨hil, hrel.out⟩
      clear hat hcell hby hap o1 o2 hrel hil
      go_wp2_with (at_builtin; refine wpList_append_run _ rfl (.const (.slice none 0 0)) (.tmp 16) 24 rfl _ _ rfl rfl HAP.out ?_)
      go_loopw [5, 6] (fun v t w' => ∃ (j : Nat) (ap : Option Addr) (cp : Nat), j ≤ 150 ∧ t = .int .i64 j ∧ v = .slice ap (l.length + j) cp ∧ Keep (w'.ownsRow wo.heap.size 5 1 (.slice ap (l.length + j) cp) (l.length + j) ((l ++ (marks i).take j).map bv) ∧ wo.grownBy w' none)) (fun _ t _ => 150 - (intOf t).toNat)
      case atStart => exact ⟨0, ap, cp, by omega, rfl, rfl, H1⟩
      case round =>
        obtain ⟨j, ap, cp, hj, rfl, rfl, hin⟩ := hrel
        by_cases hlj : j < 150
        · obtain ⟨v, hv⟩ : ∃ v, UInt8.ofNat (7 * i + j) = v := ⟨_, rfl⟩
          have hv2 : (7 * (i : Int) + (j : Int)) % 256 = (v.toNat : Int) := by rw [← hv]; simp
          have ga := World.grownBy_alloc wr (.cells #[.int .u8 v.toNat] 5) none
          have hnb : BytesOf (wr.alloc (.cells #[.int .u8 v.toNat] 5)) (some ⟨wr.heap.size, 0, none⟩) 1 1 [v] := bytes_new _ wr.heap.size 1 1 [v] (0, 0) 5 (heap_alloc_last wr _) rfl (Nat.le_refl _)
          obtain ⟨v2, w2, hap, p1, p2⟩ := app28 _ wo.heap.size (.slice ap (l.length + j) cp) (l.length + j) _ (some ⟨wr.heap.size, 0, none⟩) 1 1 [v] (hin.out.1.kept ga (by cases (Value.slice ap (l.length + j) cp).ownBlock <;> simp)) hnb (fun h => by cases h) (by omega) (by rw [heap1]; have := hin.out.2.size; omega)
          rw [← List.map_append, List.append_assoc, ← hv, marks_step i j hlj, Nat.add_assoc] at p1
          obtain ⟨a3, c3, e3, _, _⟩ := own_bytes p1
          have hlen3 : (l ++ (marks i).take (j + 1)).length = l.length + (j + 1) := by rw [List.length_append, List.length_take, marks_len]; omega
          subst e3
          have HAQ : Keep ((Builtin.append_ #[24, 24] 24 #[.slice ap (l.length + j) cp, .slice (some ⟨wr.heap.size, 0, none⟩) 1 1]).run Tryd.prog (wr.alloc (.cells #[.int .u8 v.toNat] 5)) = .ok (.slice a3 (l.length + (j + 1)) c3) w2) := ⟨hap⟩
          have H2 : Keep (w2.ownsRow wo.heap.size 5 1 (.slice a3 (l.length + (j + 1)) c3) (l.length + (j + 1)) ((l ++ (marks i).take (j + 1)).map bv) ∧ wo.grownBy w2 none) := ⟨p1, gr_row (hin.out.2.trans ga) p2 (fun k hk => (hin.out.1.lt k hk).1)⟩
          clear ga hnb hap p1 p2 hin hv
          go_wp2_with (at_builtin; refine wpList_append_run _ rfl (.tmp 22) (.tmp 28) 24 rfl _ _ rfl rfl HAQ.out ?_)
          refine ⟨⟨j + 1, _, _, by omega, by go_num, rfl, H2⟩, ?_⟩
          simp [intOf]; omega
        · obtain rfl : j = 150 := by omega
          obtain ⟨gp, rfl⟩ := own_some hin.out.1 (by omega)
          have hown : wr.ownsRow wo.heap.size 5 1 (.slice (some ⟨gp, 0, none⟩) (l.length + 150) cp) (l.length + 150) ((l ++ marks i).map bv) := by
            have h := hin.out.1
            rwa [List.take_of_length_le (by rw [marks_len]; omega)] at h
          have hcp := (own_has hown).2.1
          obtain ⟨a4, c4, w4, hmp, h4⟩ := HIL.out.2.next hin.out.2 l HIL.out.1 gp cp hown (by omega)
          have hc2 : wr.cell? ⟨B, o + i, none⟩ = some (.slice a2 l.length c2) := HCW.out wr hin.out.2
          have HMP : Keep ((Builtin.append_ #[34, 34] 34 #[.slice am i cm, .slice (some ⟨wr.heap.size, 0, none⟩) 1 1]).run Tryd.prog (wr.alloc (.cells #[.slice (some ⟨gp, 0, none⟩) l.length cp] 24)) = .ok (.slice (some a4) (i + 1) c4) w4) := ⟨hmp⟩
          have H4 : Keep (ML w w4 (.slice (some a4) (i + 1) c4) ls (i + 1)) := ⟨h4⟩
          clear hin hown hmp h4
          go_wp2_with (at_builtin; refine wpList_append_run _ rfl (.tmp 30) (.tmp 38) 34 rfl _ _ rfl rfl HMP.out ?_)
          refine ⟨⟨i + 1, _, _, by omega, by go_num, rfl, H4⟩, ?_⟩
          simp [intOf]; omega
    · obtain rfl : i = n := by omega
      obtain ⟨w1, e1⟩ : ∃ w1, w1 = wo.alloc (.cells (behindL.map bv).toArray 5 (6, 7)) := ⟨_, rfl⟩
      obtain ⟨w2, e2⟩ : ∃ w2, w2 = w1.alloc (.cells (itL.map bv).toArray 5 (2, 3)) := ⟨_, rfl⟩
      obtain ⟨gm, cm2, w3, hmp, h3, g3⟩ := hrel.out.last hl (by omega) w1 w2 e1 e2
      have H3 : Keep (Lent w3 gm cm2 i ls ∧ w.grownBy w3 none) := ⟨h3, g3⟩
      have hcm := h3.cap
      subst e2 e1
      rw [heap1, heap1] at hmp
      have HMP : Keep ((Builtin.append_ #[34, 34] 34 #[.slice am i cm, .slice (some ⟨wo.heap.size + 1 + 1, 0, none⟩) 2 2]).run Tryd.prog (((wo.alloc (.cells #[.int .u8 98, .int .u8 101, .int .u8 104, .int .u8 105, .int .u8 110, .int .u8 100] 5 (6, 7))).alloc (.cells #[.int .u8 105, .int .u8 116] 5 (2, 3))).alloc (.cells #[.slice (some ⟨wo.heap.size, 0, none⟩) 6 6, .slice (some ⟨wo.heap.size + 1, 0, none⟩) 2 2] 24)) = .ok (.slice (some ⟨gm, 0, none⟩) (i + 2) cm2) w3) := ⟨hmp⟩
      have hcv2 := kconst (wo.alloc (.cells #[.int .u8 98, .int .u8 101, .int .u8 104, .int .u8 105, .int .u8 110, .int .u8 100] 5 (6, 7))) #[.int .u8 105, .int .u8 116] 2 2
      rw [heap1] at hcv2
      clear hrel hmp h3 g3
      go_wp2_with (at_builtin; refine wpList_append_run _ rfl (.tmp 40) (.tmp 45) 34 rfl _ _ rfl rfl HMP.out ?_)
      go_ret
      exact ⟨gm, cm2, rfl, H3.out⟩
end Go.Proofs.YtabiomfgmdnikaaDoor
