/- rows of strings; table: Keys. -/
import Derived.Test.YtkaakbldkicnaaaXA7
import Derived.Test.YtkaakbldkicnaaaS1
import Derived.Maps.AppendAt
import Derived.Laws.MakeOwn
import Derived.OwnWalk
namespace Go.Proofs.Ytkaakbldkicnaaa.Sx
open Go Go.RowKit Go.Maps

theorem TabAt.kept {w w' : World} {tb mb sz : Nat} {E : List Ent} (h : TabAt w tb mb sz E) (g : w.grownBy w' none) : TabAt w' tb mb sz E := h.fr (S := fun _ => False) (Fr.ofNone g) (fun _ _ e => e)
set_option maxHeartbeats 2000000 in
theorem keys_c (w : World) (tb mb sz : Nat) (E : List Ent) (h : TabAt w tb mb sz E) :
    Calls Try.prog 16 #[pt tb] w fun r w' => ∃ v, r = .returned v ∧ w'.ownsRow w.heap.size 9 1 v E.length ((E.map Ent.k).map .string) ∧ w.grownBy w' none := by
  have hle := h.le
  have hhi := h.hi
  obtain ⟨_, t1, _, _, _, _, _⟩ := Has.c4 (v0 := iv sz) (v1 := .map (some mb)) h.hdr
  have hlen := h.map.len
  rw [show (km E).length = E.length by simp [km]] at hlen
  obtain ⟨w1, m1, m2, m3⟩ := mk22 w E.length (by omega)
  have u2 : w1.cell? ⟨tb, 2, none⟩ = some (hd np E) := (Has.c4 (v0 := iv sz) (v1 := .map (some mb)) (h.kept m3).hdr).2.2.1
  have H1 : Keep (w1.ownsRow w.heap.size 9 1 (.slice (some ⟨w.heap.size, 0, none⟩) 0 E.length) 0 ([].map .string) ∧ w.grownBy w1 none ∧ TabAt w tb mb sz E) := ⟨m2, m3, h⟩
  have HE : Keep (E.length ≤ 4096) := ⟨by omega⟩
  clear h m2 m3 hle hhi
  generalize hw : w.heap.size = base at *
  generalize hn : E.length = n at *
  have HN : Keep (E.length = n) := ⟨hn⟩
  clear hn
  go_enter Try.func16, Try.ntmps16
  go_wp2_with fail
  clear m1 hlen t1 u2
  go_loopw [3, 4] (fun u v wr => ∃ A C, E = A ++ C ∧ v = hd np C ∧ slen u = A.length ∧ Keep (wr.ownsRow base 9 1 u A.length ((A.map Ent.k).map .string) ∧ w.grownBy wr none)) (fun u _ _ => n - slen u)
  case atStart => exact ⟨[], E, rfl, rfl, rfl, H1.out.1, H1.out.2.1⟩
  case round =>
    obtain ⟨A, C, hE, hv, hs, hR⟩ := hrel
    cases C with
    | nil =>
      have HR : Keep (∃ v, Ending.returned u3 = .returned v ∧ wr.ownsRow base 9 1 v n ((E.map Ent.k).map .string) ∧ w.grownBy wr none) := by
        rw [List.append_nil] at hE
        subst hE
        exact ⟨u3, rfl, by rw [← HN.out]; exact hR.out.1, hR.out.2⟩
      clear hR hE hs
      change u4 = np at hv
      subst hv
      go_wp2_with fail
      go_ret
      exact HR.out
    | cons e C =>
      have hT := H1.out.2.2
      rw [hE] at hT
      have hB : e.b < base := by rw [← hw]; exact hT.lt e.b (.inr (.inr (by simp)))
      have hk : e.k.size ≤ 281474976710656 := hT.small e.k (by simp)
      have hAn : A.length < n := by rw [← HN.out, hE]; simp
      have c0 : wr.cell? ⟨e.b, 0, none⟩ = some (.string e.k) := (Has.c4 (v0 := .string e.k) (v1 := sv e.x) (hT.kept hR.out.2).entry).1
      have HC : Keep (E = A ++ e :: C ∧ e.b < base ∧ A.length < n) := ⟨hE, hB, hAn⟩
      clear hT hB hE hAn
      change u4 = pt e.b at hv
      subst hv
      generalize hq : e.b = eb at *
      generalize hz : e.k = ek at *
      go_wp2_with fail
      refine (clone_c ek _ hk).mono ?_
      rintro r w2 ⟨rfl, g2⟩
      obtain ⟨hE, hB, hAn⟩ := HC.out
      obtain ⟨a', c', w3, a1, a2, a3, a4⟩ := apps1 w2 base u3 A.length (A.map Ent.k) ek (hR.out.1.kept g2 (by cases u3.ownBlock <;> simp)) (by have := HE.out; omega) (by rw [← hw]; exact (hR.out.2.trans g2).size)
      have gw : w.grownBy w3 none := by
        have g := hR.out.2.trans g2
        refine ⟨a3.os.trans g.os, a3.tape.trans g.tape, a3.output.trans g.output, Nat.le_trans g.size a3.size, fun i hi _ => ?_⟩
        rw [a3.block i (Nat.lt_of_lt_of_le hi g.size) ?_, g.block i hi (by simp)]
        intro q
        obtain ⟨_, q2⟩ := hR.out.1
        rcases q2 with ⟨rfl, _⟩ | ⟨g', cap, cur, rfl, q3, _⟩
        · cases q
        · injection q with q
          have q : i = g' := q
          omega
      have hT := H1.out.2.2
      rw [hE] at hT
      have c3 : w3.cell? ⟨eb, 3, none⟩ = some (hd np C) := by
        rw [← hq]
        exact (Has.c4 (v0 := .string e.k) (v1 := sv e.x) (hT.kept gw).entry).2.2.2.1
      have HR : Keep (∃ A' C', E = A' ++ C' ∧ hd np C = hd np C' ∧ slen (.slice a' (A.length + 1) c') = A'.length ∧ Keep (w3.ownsRow base 9 1 (.slice a' (A.length + 1) c') A'.length ((A'.map Ent.k).map .string) ∧ w.grownBy w3 none)) := by
        refine ⟨⟨A ++ [e], C, by rw [hE]; simp, rfl, by simp [slen], ⟨?_, gw⟩⟩⟩
        rw [List.map_append, List.length_append]
        simp only [List.map_cons, List.map_nil, hz]
        exact a2
      have HD : Keep (n - (A.length + 1) < n - slen u3) := ⟨by rw [hs]; omega⟩
      have A1 : Keep _ := ⟨a1⟩
      clear a1 a2 a3 a4 gw hT hE hB hAn hs hR g2
      go_wp2_with ((first | (at_builtin; refine wpList_append_run _ rfl (.tmp 22) (.tmp 28) 22 rfl _ _ rfl rfl A1.out ?_)))
      exact ⟨HR.out, HD.out⟩
end Go.Proofs.Ytkaakbldkicnaaa.Sx
