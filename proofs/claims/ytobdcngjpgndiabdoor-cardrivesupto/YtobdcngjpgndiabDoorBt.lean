/- both readings of a text -/
import Derived.Test.YtobdcngjpgndiabDoorD2
import Derived.Test.YtobdcngjpgndiabDoorBRP2
import Derived.Test.YtobdcngjpgndiabDoorBRA3
import Derived.Test.YtobdcngjpgndiabDoorBA7
import Derived.OwnWalk
namespace Go.Proofs.YtobdcngjpgndiabDoor.Bo
open Go Go.RowKit

set_option maxHeartbeats 8000000 in
set_option maxRecDepth 100000 in
theorem both_c (w : World) (s : ByteArray) (hs : s.size ≤ 1048576) : Calls Tryd.prog 4 #[.string s] w fun e w' => w.grownBy w' none ∧ (e = .returned (.tuple #[.pointer none, .pointer none, .bool true]) ∨ ∃ kb kk L, spn L ≠ [] ∧ e = .returned (.tuple #[pt kb, pt kk, .bool true]) ∧ Bd w' (pt kb) L ∧ RB w' (pt kk) L) := by
  have hP := parse_c w s
  have HR := Keep.mk (fun W => rparse_c W s hs)
  clear hs
  generalize lns s = L at *
  go_enter Tryd.func4, Tryd.ntmps4
  go_wp2_with fail
  refine hP.mono ?_
  rintro e w1 ⟨g1, h1⟩
  have HG := Keep.mk g1
  have hR := HR.out w1
  clear hP g1 HR
  rcases h1 with ⟨h1, rfl⟩ | ⟨h1, h2, rfl⟩ | ⟨h1, h2, v, rfl, hB⟩
  · go_wp2_with fail
    refine hR.mono ?_
    rintro e w2 ⟨g2, h3⟩
    have HG2 := Keep.mk (HG.out.trans g2)
    clear hR g2
    rcases h3 with ⟨_, rfl⟩ | ⟨h3, _⟩ | ⟨h3, _⟩
    · go_wp2_with fail
      go_ret3
      exact ⟨HG2.out, .inl rfl⟩
    · exact absurd h3 h1
    · exact absurd h3 h1
  · go_wp2_with fail
    refine hR.mono ?_
    rintro e w2 ⟨g2, h3⟩
    have HG2 := Keep.mk (HG.out.trans g2)
    clear hR g2
    rcases h3 with ⟨h3, _⟩ | ⟨_, _, rfl⟩ | ⟨_, h3, _⟩
    · exact absurd h1 h3
    · go_wp2_with fail
      go_ret3
      exact ⟨HG2.out, .inl rfl⟩
    · exact absurd h2 h3
  · obtain ⟨kb, _, _, hv, _⟩ := hB.o
    subst hv
    have HB := Keep.mk hB
    clear hB
    go_wp2_with fail
    refine hR.mono ?_
    rintro e w2 ⟨g2, h3⟩
    have HG2 := Keep.mk (HG.out.trans g2)
    have HB2 := Keep.mk (HB.out.kept g2)
    clear hR g2 HB
    rcases h3 with ⟨h3, _⟩ | ⟨_, h3, _⟩ | ⟨_, _, v, rfl, hB⟩
    · exact absurd h1 h3
    · exact absurd h3 h2
    · obtain ⟨kk, _, _, hv, _⟩ := hB.o
      subst hv
      have HK := Keep.mk hB
      have HE := Keep.mk h2
      clear hB h1 h2
      go_wp2_with fail
      go_ret3
      exact ⟨HG2.out, .inr ⟨_, _, L, HE.out, rfl, HB2.out, HK.out⟩⟩
end Go.Proofs.YtobdcngjpgndiabDoor.Bo
