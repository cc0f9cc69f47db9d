/- Ahead -/
import Derived.Test.YtfhhneibdmjfgabQ6
import Derived.Deep.DeepCutAuto
namespace Go.Proofs.Ytfhhneibdmjfgab
open Go Go.RowKit Ieee Fx
namespace Sm
set_option maxRecDepth 100000
attribute [local go_sem] run_store_fl
abbrev iv (x : Int) : Value := .int .i64 x
structure Cr where
  p : Int
  n : ByteArray
  x : Int
  y : Int
  u : Int
  v : Int
  h : Int
  he : Int
  en : Int
  am : Int
  co : Int
  wt : Int
  sp : Int
  sc : Int
def crv (c : Cr) : List Value := [iv c.p, .string c.n, iv c.x, iv c.y, iv c.u, iv c.v, iv c.h, iv c.he, iv c.en, iv c.am, iv c.co, iv c.wt, iv c.sp, iv c.sc]
abbrev crA (c : Cr) : Array Value := #[iv c.p, .string c.n, iv c.x, iv c.y, iv c.u, iv c.v, iv c.h, iv c.he, iv c.en, iv c.am, iv c.co, iv c.wt, iv c.sp, iv c.sc]
theorem wreck_c (c : Cr) (w : World) : Calls Try.prog 14 #[.agg (crA c)] w fun e w' => e = .returned (.bool (decide (0 < c.wt))) ∧ w.grownBy w' none := by
  have HB := Keep.mk (And.intro (Has.newA w (crA c) 26) (gr_alloc w (.cells (crA c) 26) none))
  go_enter Try.func14, Try.ntmps14
  go_wp2_with fail
  go_ret
  exact ⟨rfl, HB.out.2⟩
def t1V (c : Cr) (t : OF) : OF := if (!gtB t k0 || decide (0 < c.wt)) = true then k0 else t
def t2V (t : OF) : OF := if gtB t k32 then k32 else t
def ahV (c : Cr) (t : OF) : Pl := ⟨alongV (V (fl c.x)) (V (fl c.u)) (t2V (t1V c t)), alongV (V (fl c.y)) (V (fl c.v)) (t2V (t1V c t)), angV c.h⟩
theorem IsV.c0 : IsV k0 := ⟨_, V0⟩
theorem IsV.c32 : IsV k32 := ⟨_, V32⟩
theorem isV_t2 (c : Cr) (t : Nat) : IsV (t2V (t1V c (V t))) := by
  unfold t2V
  split
  · exact .c32
  · unfold t1V
    split
    · exact .c0
    · exact .of t
theorem row26 : ∃ d, Try.prog.underlying 26 = some d ∧ d.isRow = true := ⟨_, Try.underlying26, rfl⟩
theorem info26 : (Try.prog.info? 26).map (·.size) = some 14 := by kernel_rfl
end Sm
end Go.Proofs.Ytfhhneibdmjfgab
