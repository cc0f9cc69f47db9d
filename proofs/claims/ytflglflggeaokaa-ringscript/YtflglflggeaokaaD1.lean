/- the reference's ring: a list in a slice. -/
import Derived.Test.YtflglflggeaokaaC2
namespace Go.Proofs.Ytflglflggeaokaa
open Go Go.RowKit

/-- a slice of ints that may begin within its block -/
structure DRow (w : World) (a : Option Addr) (c : Nat) (L : List Int) : Prop where
  or : (a = none ∧ c = 0 ∧ L = []) ∨ ∃ g o cs, a = some ⟨g, o, none⟩ ∧ Has w g cs 3 ∧ (c = 0 ∨ o + c ≤ cs.length) ∧ L.length ≤ c ∧ ∀ j x, L[j]? = some x → cs[o + j]? = some (iv x)
abbrev dcs (a : Option Addr) (n c sz : Nat) : List Value := [.slice a n c, .int .i64 sz]
structure DAt (w : World) (db : Nat) (a : Option Addr) (c sz : Nat) (L : List Int) : Prop where
  lo : 1 ≤ sz
  hi : sz ≤ 4096
  le : L.length ≤ sz
  h : Has w db (dcs a L.length c sz) 75
  row : DRow w a c L
  ne : ∀ g o, a = some ⟨g, o, none⟩ → g ≠ db
/-- the blocks of it -/
def DF (db : Nat) (a : Option Addr) (i : Nat) : Prop := i = db ∨ ∃ o, a = some ⟨i, o, none⟩
theorem DRow.fr {S : Nat → Prop} {w w' : World} {a : Option Addr} {c : Nat} {L : List Int} (h : DRow w a c L) (f : Fr S w w') (hs : ∀ g o, a = some ⟨g, o, none⟩ → ¬ S g) : DRow w' a c L := by
  rcases h.or with e | ⟨g, o, cs, rfl, hh, r⟩
  · exact ⟨.inl e⟩
  · exact ⟨.inr ⟨g, o, cs, rfl, hh.fr f (hs g o rfl), r⟩⟩
theorem DAt.fr {S : Nat → Prop} {w w' : World} {db : Nat} {a : Option Addr} {c sz : Nat} {L : List Int} (h : DAt w db a c sz L) (f : Fr S w w') (hs : ∀ i, DF db a i → ¬ S i) : DAt w' db a c sz L :=
  ⟨h.lo, h.hi, h.le, h.h.fr f (hs db (.inl rfl)), h.row.fr f (fun g o e => hs g (.inr ⟨o, e⟩)), h.ne⟩
theorem DAt.kept {w w' : World} {db : Nat} {a : Option Addr} {c sz : Nat} {L : List Int} (h : DAt w db a c sz L) (hg : w.grownBy w' none) : DAt w' db a c sz L :=
  h.fr (S := fun _ => False) (Fr.ofNone hg) (fun _ _ e => e)
theorem DAt.drewN {w : World} {db : Nat} {a : Option Addr} {c sz : Nat} {L : List Int} (h : DAt w db a c sz L) (k : Nat) : DAt (w.drewN k) db a c sz L := h.kept (gr_drewN _ _ _)
theorem DAt.lt {w : World} {db : Nat} {a : Option Addr} {c sz : Nat} {L : List Int} (h : DAt w db a c sz L) : ∀ i, DF db a i → i < w.heap.size := by
  intro i hi
  rcases hi with rfl | ⟨o, e⟩
  · exact h.h.lt
  · rcases h.row.or with ⟨rfl, _⟩ | ⟨g, o', cs, rfl, hh, _⟩
    · cases e
    · cases e; exact hh.lt
theorem DRow.ints {w : World} {a : Option Addr} {c : Nat} {L : List Int} (h : DRow w a c L) : Ints w a L.length L := by
  refine ⟨rfl, fun hn => ?_⟩
  rcases h.or with ⟨_, _, rfl⟩ | ⟨g, o, cs, rfl, hh, _, _, hc⟩
  · simp at hn
  · exact ⟨g, o, rfl, fun j x hx => by rw [hh.cell]; exact hc j x hx⟩
theorem DRow.cap {w : World} {a : Option Addr} {c : Nat} {L : List Int} (h : DRow w a c L) : L.length ≤ c := by
  rcases h.or with ⟨_, rfl, rfl⟩ | ⟨g, o, cs, rfl, hh, _, h1, hc⟩
  · exact Nat.le_refl _
  · exact h1

theorem dnew_no (sz : Int) (w : World) (h : ¬ (1 ≤ sz ∧ sz ≤ 4096)) :
    Calls Try.prog 33 #[.int .i64 sz] w fun e w' => e = .returned (.tuple #[.pointer none, .int .i64 110]) ∧ w' = w := by
  go_enter Try.func33, Try.ntmps33
  by_cases h0 : sz < 1
  · go_wp2_with fail
    go_ret2
    exact ⟨rfl, rfl⟩
  · have h1 : 4096 < sz := by omega
    go_wp2_with fail
    go_ret2
    exact ⟨rfl, rfl⟩
theorem dnew_yes (sz : Nat) (w : World) (h : 1 ≤ sz) (h2 : sz ≤ 4096) :
    Calls Try.prog 33 #[.int .i64 (sz : Nat)] w fun e w' => e = .returned (.tuple #[.pointer (some ⟨w.heap.size, 0, none⟩), .int .i64 0]) ∧ DAt w' w.heap.size none 0 sz [] ∧ w.grownBy w' none ∧ w'.heap.size = w.heap.size + 1 := by
  have h0 : ¬ ((sz : Int) < 1) := by omega
  have h1 : ¬ (4096 < (sz : Int)) := by omega
  go_enter Try.func33, Try.ntmps33
  go_wp2_with fail
  go_ret2
  refine ⟨rfl, ⟨h, h2, Nat.zero_le _, Has.newA w _ 75, ⟨.inl ⟨rfl, rfl, rfl⟩⟩, fun g o e => by cases e⟩, World.grownBy_alloc _ _ _, by simp⟩

theorem dat_no (db : Nat) (a : Option Addr) (c sz : Nat) (L : List Int) (i : Int) (w : World) (h : DAt w db a c sz L) (hi : ¬ (0 ≤ i ∧ i < L.length)) :
    Calls Try.prog 36 #[.pointer (some ⟨db, 0, none⟩), .int .i64 i] w fun e w' => e = .returned (.tuple #[.int .i64 0, .bool false]) ∧ w' = w := by
  have h0 : w.cell? ⟨db, 0, none⟩ = some (.slice a L.length c) := h.h.cellv 0 _ rfl
  clear h
  go_enter Try.func36, Try.ntmps36
  by_cases hl : i < 0
  · go_wp2_with fail
    go_ret2
    exact ⟨rfl, rfl⟩
  · have h1 : (L.length : Int) ≤ i := by omega
    generalize L.length = n at *
    go_wp2_with fail
    go_ret2
    exact ⟨rfl, rfl⟩
theorem dat_yes (db : Nat) (a : Option Addr) (c sz : Nat) (L : List Int) (i : Nat) (x : Int) (w : World) (h : DAt w db a c sz L) (hi : L[i]? = some x) :
    Calls Try.prog 36 #[.pointer (some ⟨db, 0, none⟩), .int .i64 i] w fun e w' => e = .returned (.tuple #[.int .i64 x, .bool true]) ∧ w' = w := by
  have hil : i < L.length := (List.getElem?_eq_some_iff.1 hi).1
  have h0 : w.cell? ⟨db, 0, none⟩ = some (.slice a L.length c) := h.h.cellv 0 _ rfl
  obtain ⟨g, o, rfl, hc⟩ := h.row.ints.at_ (by omega)
  have h1 := hc i x hi
  have hL : (i : Int) < (L.length : Nat) := by omega
  clear h hc hi
  generalize L.length = n at *
  go_enter Try.func36, Try.ntmps36
  go_wp2_with fail
  go_ret2
  exact ⟨rfl, rfl⟩
theorem dpop_no (db : Nat) (a : Option Addr) (c sz : Nat) (w : World) (h : DAt w db a c sz []) :
    Calls Try.prog 35 #[.pointer (some ⟨db, 0, none⟩)] w fun e w' => e = .returned (.tuple #[.int .i64 0, .bool false]) ∧ w' = w := by
  have h0 : w.cell? ⟨db, 0, none⟩ = some (.slice a 0 c) := h.h.cellv 0 _ rfl
  clear h
  go_enter Try.func35, Try.ntmps35
  go_wp2_with fail
  go_ret2
  exact ⟨rfl, rfl⟩
theorem dpush_full (db : Nat) (a : Option Addr) (c sz : Nat) (L : List Int) (x : Int) (w : World) (h : DAt w db a c sz L) (hl : L.length = sz) :
    Calls Try.prog 34 #[.pointer (some ⟨db, 0, none⟩), .int .i64 x] w fun e w' => e = .returned (.int .i64 111) ∧ ∃ n, w' = w.drewN n := by
  have h0 : w.cell? ⟨db, 0, none⟩ = some (.slice a L.length c) := h.h.cellv 0 _ rfl
  have h1 : w.cell? ⟨db, 1, none⟩ = some (.int .i64 sz) := h.h.cellv 1 _ rfl
  rw [hl] at h0
  clear h hl
  go_enter Try.func34, Try.ntmps34
  go_wp2_with fail
  go_quiet (fail)
  go_wp2_with fail
  go_ret
  exact ⟨rfl, _, rfl⟩
end Go.Proofs.Ytflglflggeaokaa
