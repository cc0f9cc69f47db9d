/- ring: the state; place, At, Len, Room, New. -/
import Derived.Test.YtflglflggeaokaaA1
namespace Go.Proofs.Ytflglflggeaokaa.Str
open Go Go.RowKit

abbrev sv (x : ByteArray) : Value := .string x

/-- the places of a ring: none yet, or a row of its own -/
structure Pl (w : World) (rb : Nat) (v : Value) (f : Nat) (P : List ByteArray) : Prop where
  or : (v = .slice none 0 0 ∧ P = [] ∧ f = 0) ∨ ∃ pb, v = .slice (some ⟨pb, 0, none⟩) P.length P.length ∧ Has w pb (P.map sv) 9 ∧ pb ≠ rb ∧ f < P.length
abbrev rcs (sz : Nat) (v : Value) (f c : Nat) : List Value := [.int .i64 sz, v, .int .i64 f, .int .i64 c]
/-- the ring in block rb, its places' slice v: so many at most; its things -/
structure RingAt (w : World) (rb : Nat) (v : Value) (sz : Nat) (L : List ByteArray) : Prop where
  lo : 1 ≤ sz
  hi : sz ≤ 4096
  st : ∃ f P, Has w rb (rcs sz v f L.length) 68 ∧ Pl w rb v f P ∧ L.length ≤ P.length ∧ P.length ≤ sz ∧ Rg.RI P f L
def RF (rb : Nat) (v : Value) (i : Nat) : Prop := i = rb ∨ v.ownBlock = some i

theorem place_c (rb : Nat) (v : Value) (pb m f c sz : Nat) (i : Int) (w : World) (hh : Has w rb (rcs sz v f c) 68) (hv : v = .slice (some ⟨pb, 0, none⟩) m m) (hm : 0 < m) (hm2 : m ≤ 4096) (hf : f < m) (hi : 0 ≤ i) (hi2 : i ≤ 4096) :
    Calls Try.prog 29 #[.pointer (some ⟨rb, 0, none⟩), .int .i64 i] w fun e w' => e = .returned (.int .i64 ((f + i) % m)) ∧ ∃ n, w' = w.drewN n := by
  subst hv
  have h1 : w.cell? ⟨rb, 1, none⟩ = some (.slice (some ⟨pb, 0, none⟩) m m) := hh.cellv 1 _ rfl
  have h2 : w.cell? ⟨rb, 2, none⟩ = some (.int .i64 f) := hh.cellv 2 _ rfl
  have hw : IntKind.i64.wrap ((f : Int) + i) = f + i := wi _ (by omega) (by omega)
  have hr : ((f : Int) + i).tmod m = (f + i) % m := Int.tmod_eq_emod_of_nonneg (by omega)
  have hm0 : (m : Int) ≠ 0 := by omega
  have HM : Keep (0 ≤ ((f : Int) + i) % m ∧ ((f : Int) + i) % m < m) := ⟨Int.emod_nonneg _ hm0, Int.emod_lt_of_pos _ (by omega)⟩
  generalize ((f : Int) + i) % m = q at *
  have hw2 : IntKind.i64.wrap q = q := wi _ (by have := HM.out; omega) (by have := HM.out; omega)
  go_enter Try.func29, Try.ntmps29
  go_wp2_with fail
  go_quiet (fail)
  go_wp2
  go_ret
  exact ⟨rfl, _, rfl⟩

theorem at_no (rb : Nat) (v : Value) (sz : Nat) (L : List ByteArray) (i : Int) (w : World) (h : RingAt w rb v sz L) (hi : ¬ (0 ≤ i ∧ i < L.length)) :
    Calls Try.prog 30 #[.pointer (some ⟨rb, 0, none⟩), .int .i64 i] w fun e w' => e = .returned (.tuple #[.string ⟨#[]⟩, .bool false]) ∧ w' = w := by
  obtain ⟨f, P, hh, _, _, _, _⟩ := h.st
  have h3 : w.cell? ⟨rb, 3, none⟩ = some (.int .i64 (L.length : Nat)) := hh.cellv 3 _ rfl
  clear hh h
  go_enter Try.func30, Try.ntmps30
  by_cases h0 : i < 0
  · go_wp2_with fail
    go_ret2
    exact ⟨rfl, rfl⟩
  · have h1 : (L.length : Int) ≤ i := by omega
    generalize (L.length : Int) = n at *
    go_wp2_with fail
    go_ret2
    exact ⟨rfl, rfl⟩
theorem at_yes (rb : Nat) (v : Value) (sz : Nat) (L : List ByteArray) (i : Nat) (x : ByteArray) (w : World) (h : RingAt w rb v sz L) (hi : L[i]? = some x) :
    Calls Try.prog 30 #[.pointer (some ⟨rb, 0, none⟩), .int .i64 i] w fun e w' => e = .returned (.tuple #[.string x, .bool true]) ∧ ∃ n, w' = w.drewN n := by
  have hil : i < L.length := (List.getElem?_eq_some_iff.1 hi).1
  have h4 := h.hi
  obtain ⟨f, P, hh, hp, h5, h6, h7⟩ := h.st
  have h3 : w.cell? ⟨rb, 3, none⟩ = some (.int .i64 (L.length : Nat)) := hh.cellv 3 _ rfl
  have hL : (i : Int) < (L.length : Nat) := by omega
  have h8 := h7 i hil
  rw [hi] at h8
  rcases hp.or with ⟨_, rfl, _⟩ | ⟨pb, rfl, hb, hne, hf⟩
  · rw [List.length_nil] at h5; omega
  have h1 : w.cell? ⟨rb, 1, none⟩ = some (.slice (some ⟨pb, 0, none⟩) P.length P.length) := hh.cellv 1 _ rfl
  have hq : w.cell? ⟨pb, (f + i) % P.length, none⟩ = some (.string x) := hb.cellv _ _ (by rw [List.getElem?_map, h8]; rfl)
  have HM : Keep ((f + i) % P.length < P.length) := ⟨Nat.mod_lt _ (by omega)⟩
  have hc : ∀ k, _ := fun k => place_c rb _ pb P.length f L.length sz i (w.drewN k) (hh.drewN k) rfl (by omega) (by omega) hf (by omega) (by omega)
  have e : ((f : Int) + (i : Int)) % (P.length : Nat) = (((f + i) % P.length : Nat) : Int) := by simp
  rw [e] at hc
  generalize (f + i) % P.length = q at *
  have hq1 : (q : Int) < P.length := by have := HM.out; omega
  have hq0 : (0 : Int) ≤ q := by omega
  have hq2 : ((q : Nat) : Int).toNat = q := by omega
  clear hh h h5 h6 h7 h8 hp
  generalize (L.length : Nat) = n at *
  generalize P.length = m at *
  go_enter Try.func30, Try.ntmps30
  go_wp2_with fail
  go_quiet ((go_at_call 29; exact Calls.quiet_of (hc _)))
  go_wp2
  go_ret2
  exact ⟨rfl, _, rfl⟩
theorem new_no (sz : Int) (w : World) (h : ¬ (1 ≤ sz ∧ sz ≤ 4096)) :
    Calls Try.prog 17 #[.int .i64 sz] w fun e w' => e = .returned (.tuple #[.pointer none, .int .i64 110]) ∧ w' = w := by
  go_enter Try.func17, Try.ntmps17
  by_cases h0 : sz < 1
  · go_wp2_with fail
    go_ret2
    exact ⟨rfl, rfl⟩
  · have h1 : 4096 < sz := by omega
    go_wp2_with fail
    go_ret2
    exact ⟨rfl, rfl⟩
theorem new_yes (sz : Nat) (w : World) (h : 1 ≤ sz) (h2 : sz ≤ 4096) :
    Calls Try.prog 17 #[.int .i64 (sz : Nat)] w fun e w' => e = .returned (.tuple #[.pointer (some ⟨w.heap.size, 0, none⟩), .int .i64 0]) ∧ RingAt w' w.heap.size (.slice none 0 0) sz [] ∧ w.grownBy w' none ∧ w'.heap.size = w.heap.size + 1 := by
  have h0 : ¬ ((sz : Int) < 1) := by omega
  have h1 : ¬ (4096 < (sz : Int)) := by omega
  go_enter Try.func17, Try.ntmps17
  go_wp2_with fail
  go_ret2
  refine ⟨rfl, ⟨h, h2, 0, [], Has.newA w _ 68, ⟨.inl ⟨rfl, rfl, rfl⟩⟩, Nat.le_refl _, Nat.zero_le _, Rg.RI.nil _ _⟩, World.grownBy_alloc _ _ _, by simp⟩

theorem Pl.fr {S : Nat → Prop} {w w' : World} {rb : Nat} {v : Value} {f : Nat} {P : List ByteArray} (h : Pl w rb v f P) (hf : Fr S w w') (hs : ∀ i, v.ownBlock = some i → ¬ S i) : Pl w' rb v f P := by
  rcases h.or with e | ⟨pb, rfl, hb, hne, hl⟩
  · exact ⟨.inl e⟩
  · exact ⟨.inr ⟨pb, rfl, hb.fr hf (hs pb rfl), hne, hl⟩⟩
theorem RingAt.fr {S : Nat → Prop} {w w' : World} {rb : Nat} {v : Value} {sz : Nat} {L : List ByteArray} (h : RingAt w rb v sz L) (hf : Fr S w w') (hs : ∀ i, RF rb v i → ¬ S i) : RingAt w' rb v sz L := by
  obtain ⟨f, P, hh, hp, h5, h6, h7⟩ := h.st
  exact ⟨h.lo, h.hi, f, P, hh.fr hf (hs rb (.inl rfl)), hp.fr hf (fun i e => hs i (.inr e)), h5, h6, h7⟩
theorem RingAt.kept {w w' : World} {rb : Nat} {v : Value} {sz : Nat} {L : List ByteArray} (h : RingAt w rb v sz L) (hg : w.grownBy w' none) : RingAt w' rb v sz L :=
  h.fr (S := fun _ => False) (Fr.ofNone hg) (fun _ _ e => e)
theorem RingAt.drewN {w : World} {rb : Nat} {v : Value} {sz : Nat} {L : List ByteArray} (h : RingAt w rb v sz L) (n : Nat) : RingAt (w.drewN n) rb v sz L := h.kept (gr_drewN _ _ _)
theorem RingAt.lt {w : World} {rb : Nat} {v : Value} {sz : Nat} {L : List ByteArray} (h : RingAt w rb v sz L) : ∀ i, RF rb v i → i < w.heap.size := by
  obtain ⟨f, P, hh, hp, _⟩ := h.st
  intro i hi
  rcases hi with rfl | hi
  · exact hh.lt
  · rcases hp.or with ⟨rfl, _⟩ | ⟨pb, rfl, hb, _⟩
    · cases hi
    · cases hi; exact hb.lt
end Go.Proofs.Ytflglflggeaokaa.Str
