/- float32 by their values: what is no number is one thing -/
import Derived.Test.YtfhhneibdmjfgaaPc
import Derived.Test.YtfhhneibdmjfgaaR5
namespace Go.Proofs.Ytfhhneibdmjfgaa
open Go Go.RowKit Ieee Fx
namespace Sm

abbrev OF := Option Nat
def isN (g : Nat) : Bool := (single.read g).isNaN
/-- a float's value: none for what is no number -/
def V (g : Nat) : OF := if isN g then none else some g
def lift2 (f : Nat → Nat → Option Nat) : OF → OF → OF
  | some a, some b => f a b
  | _, _ => none
def oadd : OF → OF → OF := lift2 single.add
def osub : OF → OF → OF := lift2 single.sub
def omul : OF → OF → OF := lift2 single.mul
def oquo : OF → OF → OF := lift2 single.div
def oord : OF → OF → Option Ordering
  | some a, some b => single.order a b
  | _, _ => none
def gtB (x y : OF) : Bool := oord x y == some .gt
def ltB (x y : OF) : Bool := oord x y == some .lt
def geB (x y : OF) : Bool := oord x y == some .gt || oord x y == some .eq
def leB (x y : OF) : Bool := oord x y == some .lt || oord x y == some .eq

theorem isN_iff {g : Nat} : isN g = true ↔ ∃ s t, single.read g = .nan s t := by
  unfold isN
  cases h : single.read g with
  | number s m e => simp [Datum.isNaN]
  | infinity s => simp [Datum.isNaN]
  | nan s t => simp [Datum.isNaN]
theorem num_of {g : Nat} (h : isN g = false) : Num (single.read g) := by
  unfold isN at h
  cases hd : single.read g with
  | number s m e => exact .inl ⟨_, _, _, rfl⟩
  | infinity s => exact .inr ⟨_, rfl⟩
  | nan s t => rw [hd] at h; simp [Datum.isNaN] at h
theorem isN_num {g : Nat} (h : Num (single.read g)) : isN g = false := by
  unfold isN
  rcases h with ⟨s, m, e, h⟩ | ⟨s, h⟩ <;> rw [h] <;> rfl
theorem V_nan {g : Nat} (h : isN g = true) : V g = none := by unfold V; rw [h]; rfl
theorem V_num {g : Nat} (h : isN g = false) : V g = some g := by unfold V; rw [h]; rfl
theorem V_ne {g : Nat} : V g = none ↔ isN g = true := by
  unfold V
  cases isN g <;> simp
theorem sum_num {a b d : Datum} (h : a.sum b = some d) : Num d := by
  cases a <;> cases b <;> simp only [Datum.sum] at h <;> try (cases h; done)
  all_goals first | (split at h <;> cases h <;> exact .inr ⟨_, rfl⟩) | (cases h; first | exact .inr ⟨_, rfl⟩ | exact .inl ⟨_, _, _, rfl⟩)
theorem prod_num {a b d : Datum} (h : a.product b = some d) : Num d := by
  cases a <;> cases b <;> simp only [Datum.product] at h <;> try (cases h; done)
  all_goals first | (split at h <;> first | (cases h; done) | (cases h; exact .inr ⟨_, rfl⟩)) | (cases h; first | exact .inr ⟨_, rfl⟩ | exact .inl ⟨_, _, _, rfl⟩)
theorem quot_num {k : Nat} {a b d : Datum} (h : a.quotient k b = some d) : Num d := by
  cases a <;> cases b <;> simp only [Datum.quotient] at h <;> try (cases h; done)
  all_goals first
    | (cases h; first | exact .inr ⟨_, rfl⟩ | exact .inl ⟨_, _, _, rfl⟩)
    | (split at h
       · split at h
         · cases h
         · cases h; exact .inr ⟨_, rfl⟩
       · cases h; exact .inl ⟨_, _, _, rfl⟩)
theorem map_num {o : Option Datum} {r : Nat} (ho : ∀ d, o = some d → Num d) (h : o.map single.write = some r) : isN r = false := by
  cases o with
  | none => cases h
  | some d => cases h; exact isN_num (num_write (ho d rfl))
theorem add_num {a b r : Nat} (h : single.add a b = some r) : isN r = false := map_num (fun _ => sum_num) h
theorem sub_num {a b r : Nat} (h : single.sub a b = some r) : isN r = false := map_num (fun _ => sum_num) h
theorem mul_num {a b r : Nat} (h : single.mul a b = some r) : isN r = false := map_num (fun _ => prod_num) h
theorem div_num {a b r : Nat} (h : single.div a b = some r) : isN r = false := map_num (fun _ => quot_num) h
theorem sum_nan {a b : Datum} (h : a.isNaN = true ∨ b.isNaN = true) : a.sum b = none := by
  cases a <;> cases b <;> first | rfl | simp [Datum.isNaN] at h
theorem prod_nan {a b : Datum} (h : a.isNaN = true ∨ b.isNaN = true) : a.product b = none := by
  cases a <;> cases b <;> first | rfl | simp [Datum.isNaN] at h
theorem quot_nan {k : Nat} {a b : Datum} (h : a.isNaN = true ∨ b.isNaN = true) : a.quotient k b = none := by
  cases a <;> cases b <;> first | rfl | simp [Datum.isNaN] at h
theorem opp_nan {a : Datum} : a.opposite.isNaN = a.isNaN := by cases a <;> rfl
theorem ord_nan {a b : Datum} (h : a.isNaN = true ∨ b.isNaN = true) : a.order b = none := by
  cases a <;> cases b <;> first | rfl | simp [Datum.isNaN] at h

theorem add_nan {a b : Nat} (h : isN a = true ∨ isN b = true) : single.add a b = none := by
  unfold Format.add; rw [sum_nan h]; rfl
theorem sub_nan {a b : Nat} (h : isN a = true ∨ isN b = true) : single.sub a b = none := by
  unfold Format.sub; rw [sum_nan (by rw [opp_nan]; exact h)]; rfl
theorem mul_nan {a b : Nat} (h : isN a = true ∨ isN b = true) : single.mul a b = none := by
  unfold Format.mul; rw [prod_nan h]; rfl
theorem div_nan {a b : Nat} (h : isN a = true ∨ isN b = true) : single.div a b = none := by
  unfold Format.div; rw [quot_nan h]; rfl
theorem lift_V {f : Nat → Nat → Option Nat} (hf : ∀ a b, (isN a = true ∨ isN b = true) → f a b = none) (a b : Nat) : f a b = lift2 f (V a) (V b) := by
  cases ha : isN a
  · cases hb : isN b
    · rw [V_num ha, V_num hb]; rfl
    · rw [V_num ha, V_nan hb, hf a b (.inr hb)]; rfl
  · rw [V_nan ha, hf a b (.inl ha)]; rfl
theorem add_V (a b : Nat) : single.add a b = oadd (V a) (V b) := lift_V (fun _ _ => add_nan) a b
theorem sub_V (a b : Nat) : single.sub a b = osub (V a) (V b) := lift_V (fun _ _ => sub_nan) a b
theorem mul_V (a b : Nat) : single.mul a b = omul (V a) (V b) := lift_V (fun _ _ => mul_nan) a b
theorem div_V (a b : Nat) : single.div a b = oquo (V a) (V b) := lift_V (fun _ _ => div_nan) a b
theorem order_V (a b : Nat) : FloatKind.f32.format.order a b = oord (V a) (V b) := by
  show single.order a b = _
  cases ha : isN a
  · cases hb : isN b
    · rw [V_num ha, V_num hb]; rfl
    · rw [V_num ha, V_nan hb]; unfold Format.order; rw [ord_nan (.inr hb)]; rfl
  · rw [V_nan ha]; unfold Format.order; rw [ord_nan (.inl ha)]; rfl

section
variable {P : Program}
theorem run_some {op : BinOp} {T : TypeId} {g h r : Nat} (hr : floatBits op .f32 g h = some r) (hn : isN r = false) (W : World) :
    ∃ r q, (binOp op T (.float .f32 g) (.float .f32 h)).run P W = .ok (.float .f32 r) (W.drewN q) ∧ V r = floatBits op .f32 g h :=
  ⟨r, 0, run_float_arith W op T .f32 _ _ _ hr, by rw [hr, V_num hn]⟩
theorem cut_nan (x y t : Nat) : isN (Question.cut (.nanBits .f32 x y) t) = true := isN_iff.2 (nan_cut x y t)
theorem add_run (T : TypeId) (g h : Nat) (W : World) : ∃ r q, (binOp .add T (.float .f32 g) (.float .f32 h)).run P W = .ok (.float .f32 r) (W.drewN q) ∧ V r = oadd (V g) (V h) := by
  rw [← add_V]
  cases hr : single.add g h with
  | none =>
    refine ⟨_, 1, ?_, V_nan (cut_nan g h (W.tape W.drawn (.nanBits .f32 g h)))⟩
    have hm : FloatKind.f32.format.add g h = none := hr
    simp [binOp, Op.floatArith, hm, Question.forced]
    rfl
  | some r => exact run_some (op := .add) hr (add_num hr) W |>.imp fun r => .imp fun q ⟨a, b⟩ => ⟨a, b.trans hr⟩
theorem sub_run (T : TypeId) (g h : Nat) (W : World) : ∃ r q, (binOp .sub T (.float .f32 g) (.float .f32 h)).run P W = .ok (.float .f32 r) (W.drewN q) ∧ V r = osub (V g) (V h) := by
  rw [← sub_V]
  cases hr : single.sub g h with
  | none =>
    refine ⟨_, 1, ?_, V_nan (cut_nan g h (W.tape W.drawn (.nanBits .f32 g h)))⟩
    have hm : FloatKind.f32.format.sub g h = none := hr
    simp [binOp, Op.floatArith, hm, Question.forced]
    rfl
  | some r => exact run_some (op := .sub) hr (sub_num hr) W |>.imp fun r => .imp fun q ⟨a, b⟩ => ⟨a, b.trans hr⟩
theorem mul_run (T : TypeId) (g h : Nat) (W : World) : ∃ r q, (binOp .mul T (.float .f32 g) (.float .f32 h)).run P W = .ok (.float .f32 r) (W.drewN q) ∧ V r = omul (V g) (V h) := by
  rw [← mul_V]
  cases hr : single.mul g h with
  | none =>
    refine ⟨_, 1, ?_, V_nan (cut_nan g h (W.tape W.drawn (.nanBits .f32 g h)))⟩
    have hm : FloatKind.f32.format.mul g h = none := hr
    simp [binOp, Op.floatArith, hm, Question.forced]
    rfl
  | some r => exact run_some (op := .mul) hr (mul_num hr) W |>.imp fun r => .imp fun q ⟨a, b⟩ => ⟨a, b.trans hr⟩
theorem quo_run (T : TypeId) (g h : Nat) (W : World) : ∃ r q, (binOp .quo T (.float .f32 g) (.float .f32 h)).run P W = .ok (.float .f32 r) (W.drewN q) ∧ V r = oquo (V g) (V h) := by
  rw [← div_V]
  cases hr : single.div g h with
  | none =>
    refine ⟨_, 1, ?_, V_nan (cut_nan g h (W.tape W.drawn (.nanBits .f32 g h)))⟩
    have hm : FloatKind.f32.format.div g h = none := hr
    simp [binOp, Op.floatArith, hm, Question.forced]
    rfl
  | some r => exact run_some (op := .quo) hr (div_num hr) W |>.imp fun r => .imp fun q ⟨a, b⟩ => ⟨a, b.trans hr⟩
end
theorem ord_self_V (g : Nat) : oord (V g) (V g) = if isN g then none else some .eq := by
  cases h : isN g
  · rw [V_num h]; exact order_eq (num_of h)
  · rw [V_nan h]; rfl
/-- a value is a float of this value -/
def FV (v : Value) (x : OF) : Prop := ∃ g, v = .float .f32 g ∧ V g = x
abbrev k0 : OF := some 0
abbrev k1 : OF := some 1065353216
abbrev k32 : OF := some 1107296256
abbrev k180 : OF := some 1127481344
abbrev kn180 : OF := some 3274964992
abbrev k360 : OF := some 1135869952
abbrev kDeg : OF := some 1068761088
theorem V0 : V 0 = k0 := by decide
theorem V1 : V 1065353216 = k1 := by decide
theorem V32 : V 1107296256 = k32 := by decide
theorem V180 : V 1127481344 = k180 := by decide
theorem Vn180 : V 3274964992 = kn180 := by decide
theorem V360 : V 1135869952 = k360 := by decide
theorem VDeg : V 1068761088 = kDeg := by decide
def alongV (f w s : OF) : OF := oadd f (omul w s)
def shortV (w : OF) : OF := if gtB w k180 then osub w k360 else if ltB w kn180 then oadd w k360 else w
def turnC (y : OF) : OF := if ltB y k0 then (if geB (oadd y k360) k360 then k0 else oadd y k360) else y
def turnV (x : OF) : OF := turnC (if geB x k360 then osub x k360 else x)
end Sm
end Go.Proofs.Ytfhhneibdmjfgaa
