/- the reference's ring: All, Take. -/
import Derived.Test.YtflglflggeaokaaD2
import Derived.Laws.AppendOwnNone
namespace Go.Proofs.Ytflglflggeaokaa
open Go Go.RowKit

theorem dall_app {W : World} {a : Option Addr} {c : Nat} {L : List Int} (h : DRow W a c L) (hL : L.length ≤ 1000000) :
    ∃ a' c' w', (Builtin.append_ #[22, 22] 22 #[.slice none 0 0, .slice a L.length c]).run Try.prog W = .ok (.slice a' L.length c') w' ∧ DRow w' a' c' L ∧ W.grownBy w' none ∧ (∀ g o, a' = some ⟨g, o, none⟩ → W.heap.size ≤ g) := by
  obtain ⟨i, h1, h2, h3, h4⟩ := info3
  rcases h.or with ⟨rfl, rfl, rfl⟩ | ⟨g, o, cs, rfl, hh, hc, hle, hat⟩
  · exact ⟨none, 0, W, run_append_owned_none (P := Try.prog) W 0 22 22 3 i 1 under22 h1 (.slice none 0 0) 0 [] (World.ownsRow_nil _ _ _ _), ⟨.inl ⟨rfl, rfl, rfl⟩⟩, World.grownBy.refl _ _, fun g o e => by cases e⟩
  · obtain ⟨v', w', r1, r2, r3, _, r5⟩ := run_append_own_at (P := Try.prog) W W.heap.size 22 22 3 i (.int .i64 0) 1 8 under22 h1 h4 h2 h3 rfl (by decide) (.slice none 0 0) 0 [] (World.ownsRow_nil _ _ _ _) ⟨g, o, none⟩ L.length c (L.map iv) (by simp) (fun j u hu => by
        rw [Addr.add_mid, hh.cell]
        rw [List.getElem?_map] at hu
        cases hx : L[j]? with
        | none => rw [hx] at hu; cases hu
        | some y => rw [hx] at hu; obtain rfl := Option.some.inj hu; exact hat j y hx) (fun u hu => by obtain ⟨y, _, rfl⟩ := List.mem_map.1 hu; rfl) (by unfold maxLen; omega) (by omega) (Nat.le_refl _)
    rw [List.nil_append, Nat.zero_add] at r2
    obtain ⟨a', c', rfl, _⟩ := row_shape (w0 := W) r2
    obtain ⟨d1, d2⟩ := drow_of (w0 := W) r2 rfl
    exact ⟨a', c', w', r1, d1, r3, d2⟩
theorem dall_c (db : Nat) (a : Option Addr) (c sz : Nat) (L : List Int) (w : World) (h : DAt w db a c sz L) :
    Calls Try.prog 40 #[.pointer (some ⟨db, 0, none⟩)] w fun e w' => ∃ a' c', e = .returned (.slice a' L.length c') ∧ DRow w' a' c' L ∧ w.grownBy w' none ∧ (∀ g o, a' = some ⟨g, o, none⟩ → w.heap.size ≤ g) := by
  have h0 : w.cell? ⟨db, 0, none⟩ = some (.slice a L.length c) := h.h.cellv 0 _ rfl
  obtain ⟨a', c', w', r1, r2, r3, r4⟩ := dall_app h.row (by have := h.hi; have := h.le; omega)
  have R1 : Keep (_ = _) := ⟨r1⟩
  have HK : Keep (DRow w' a' c' L ∧ w.grownBy w' none ∧ (∀ g o, a' = some ⟨g, o, none⟩ → w.heap.size ≤ g)) := ⟨r2, r3, r4⟩
  clear h r1 r2 r3 r4
  obtain ⟨n, hn⟩ : ∃ n, L.length = n := ⟨_, rfl⟩
  rw [hn] at h0 R1 ⊢
  clear hn
  go_enter Try.func40, Try.ntmps40
  go_wp2_with ((at_builtin; refine wpList_append_run _ rfl (.tmp 4) (.tmp 8) 22 rfl _ _ rfl rfl R1.out ?_))
  go_ret
  exact ⟨_, _, rfl, HK.out⟩

theorem dshrink {w : World} {db g o c sz : Nat} {L : List Int} {x : Int} (h : DAt w db (some ⟨g, o, none⟩) c sz (x :: L)) (n o' c' : Nat) (hn : L.length = n) (ho : c' = 0 ∨ o' = o + 1) (hc' : c' = c - 1) :
    DAt (w.setCell ⟨db, 0, none⟩ (.slice (some ⟨g, o', none⟩) n c')) db (some ⟨g, o', none⟩) c' sz L ∧ Fr (fun i => i = db) w (w.setCell ⟨db, 0, none⟩ (.slice (some ⟨g, o', none⟩) n c')) ∧ (∀ i, DF db (some ⟨g, o', none⟩) i → DF db (some ⟨g, o, none⟩) i) := by
  have f : Fr (fun i => i = db) w (w.setCell ⟨db, 0, none⟩ (.slice (some ⟨g, o', none⟩) n c')) := Fr.ofSome (gr_set _ _ _ _) rfl
  have hg : g ≠ db := h.ne g o rfl
  rcases h.row.or with ⟨e, _⟩ | ⟨g2, o2, cs, e, hh, h2, h3, h4⟩
  · cases e
  · cases e
    have hle := h.le
    rw [List.length_cons] at h3 hle
    refine ⟨⟨h.lo, h.hi, by omega, ?_, ⟨.inr ⟨g, o', cs, rfl, hh.fr f hg, ?_, by omega, fun j y hy => ?_⟩⟩, fun g3 o3 e => by cases e; exact hg⟩, f, fun i hi => ?_⟩
    · have := h.h.setCell 0 (.slice (some ⟨g, o', none⟩) n c')
      rw [hn]
      exact this
    · rcases h2 with h2 | h2
      · omega
      · rcases ho with ho | ho
        · exact .inl ho
        · by_cases hz : c' = 0
          · exact .inl hz
          · right; omega
    · have hj : j < L.length := (List.getElem?_eq_some_iff.1 hy).1
      have := h4 (j + 1) y (by simpa using hy)
      rcases ho with ho | ho
      · omega
      · rw [ho, show o + 1 + j = o + (j + 1) by omega]; exact this
    · rcases hi with hi | ⟨o3, hi⟩
      · exact .inl hi
      · cases hi; exact .inr ⟨o, rfl⟩
def lenOf : Value → Nat
  | .slice _ n _ => n
  | _ => 0
/-- Take, under way -/
structure TD (w w' : World) (db : Nat) (a : Option Addr) (sz : Nat) (L : List Int) (ao : Option Addr) (k co : Nat) (a2 : Option Addr) (c2 : Nat) : Prop where
  o : Row w w' (.slice ao k co) (L.take k)
  d : DAt w' db a2 c2 sz (L.drop k)
  f : Fr (DF db a) w w'
  n : ∀ i, DF db a2 i → DF db a i
  k : k ≤ L.length
theorem TD.step {w w1 : World} {db : Nat} {a : Option Addr} {sz : Nat} {L : List Int} {ao : Option Addr} {k co : Nat} {a2 : Option Addr} {c2 : Nat} (h : TD w w1 db a sz L ao k co a2 c2) (hlt : ∀ i, DF db a i → i < w.heap.size) {x : Int} (hx : L[k]? = some x) (hsz : L.length ≤ 4096) :
    ∃ a' c' w', (Builtin.append_ #[22, 22] 22 #[.slice ao k co, .slice (some ⟨w1.heap.size, 0, none⟩) 1 1]).run Try.prog (w1.alloc (.cells #[.int .i64 x] 3)) = .ok (.slice a' (k + 1) c') w' ∧ Row w w' (.slice a' (k + 1) c') (L.take (k + 1)) ∧ DAt w' db a2 c2 sz (x :: L.drop (k + 1)) ∧ Fr (DF db a) w w' := by
  obtain ⟨hl, e⟩ := List.getElem?_eq_some_iff.1 hx
  have hk : (L.take k).length = k := by rw [List.length_take]; omega
  have ga := World.grownBy_alloc w1 (.cells #[.int .i64 x] 3) none
  have hd : L.drop k = x :: L.drop (k + 1) := by rw [← e]; exact List.drop_eq_getElem_cons hl
  have hs := h.f.size
  have hrow := row_fr h.o (Fr.ofNone (S := fun _ => False) ga) (fun _ _ e => e)
  obtain ⟨a', c', w', r1, r2, r3, r5⟩ := app22 hrow w1.heap.size 1 1 [x] rfl (row_one w1 x) (by rw [hk]; omega) (by rw [World.size_alloc]; omega)
  rw [hk] at r1 r2 r5
  have e2 : L.take k ++ [x] = L.take (k + 1) := by rw [List.take_succ_eq_append_getElem hl, e]
  rw [e2] at r2
  have hf2 : Fr (fun i => (Value.slice ao k co).ownBlock = some i) w1 w' := (Fr.ofNone ga).then (Fr.of r3) (fun i e => .inl e)
  refine ⟨a', c', w', r1, r2, ?_, h.f.then hf2 (fun i e => .inr (h.o.lt i e).1)⟩
  have := h.d
  rw [hd] at this
  exact this.fr hf2 (fun i hi e => by have := hlt i (h.n i hi); have := (h.o.lt i e).1; omega)

structure DTook (w w' : World) (db : Nat) (a a2 : Option Addr) (c2 sz : Nat) (L : List Int) (ao : Option Addr) (k co : Nat) : Prop where
  o : DRow w' ao co (L.take k)
  on : ∀ g o, ao = some ⟨g, o, none⟩ → w.heap.size ≤ g
  d : DDid w w' db a a2 c2 sz (L.drop k)
  oo : ∀ i, DF db a2 i → i < w.heap.size
set_option maxHeartbeats 1000000 in
theorem dtake_c (db : Nat) (a : Option Addr) (c sz : Nat) (L : List Int) (n : Int) (k : Nat) (w : World) (h : DAt w db a c sz L) (hk : k = (min n (L.length : Nat)).toNat) :
    Calls Try.prog 37 #[.pointer (some ⟨db, 0, none⟩), .int .i64 n] w fun e w' => ∃ ao co a2 c2, e = .returned (.slice ao k co) ∧ DTook w w' db a a2 c2 sz L ao k co := by
  have hlt := h.lt
  have hL : L.length ≤ 4096 := by have := h.hi; have := h.le; omega
  have HK : Keep (k = (min n (L.length : Nat)).toNat ∧ ∀ i, DF db a i → i < w.heap.size) := ⟨hk, hlt⟩
  have H0 : Keep (∃ a2 c2, TD w w db a sz L none 0 0 a2 c2) := ⟨a, c, ⟨by rw [List.take_zero]; exact World.ownsRow_nil _ _ _ _, by rw [List.drop_zero]; exact h, Fr.refl _ _, fun _ h => h, Nat.zero_le _⟩⟩
  clear h hlt hk
  go_enter Try.func37, Try.ntmps37
  go_wp2_with fail
  go_loopw [5] (fun u wr => ∃ (ao : Option Addr) (j co : Nat), (j : Int) ≤ max 0 n ∧ u = .slice ao j co ∧ Keep (∃ a2 c2, TD w wr db a sz L ao j co a2 c2)) (fun u _ => L.length - lenOf u)
  case atStart => exact ⟨none, 0, 0, by omega, rfl, H0⟩
  case round =>
    obtain ⟨ao, j, co, hjn, rfl, hF⟩ := hrel
    clear H0
    obtain ⟨a2, c2, hT⟩ := hF.out
    have HT : Keep (TD w wr db a sz L ao j co a2 c2) := ⟨hT⟩
    have c0 : wr.cell? ⟨db, 0, none⟩ = some (.slice a2 (L.drop j).length c2) := hT.d.h.cellv 0 _ rfl
    have f0 : wr.frozen? ⟨db, 0, none⟩ = false := hT.d.h.frozen _
    have hjL := hT.k
    rw [List.length_drop] at c0
    clear hF hT
    by_cases hmore : (j : Int) < n ∧ j < L.length
    · obtain ⟨hm1, hm2⟩ := hmore
      obtain ⟨x, hx⟩ : ∃ x, L[j]? = some x := ⟨_, List.getElem?_eq_getElem hm2⟩
      obtain ⟨a', c', w2, r1, r2, r3, r4⟩ := HT.out.step HK.out.2 hx hL
      obtain ⟨q, hq⟩ : ∃ q, L.length - j = q := ⟨_, rfl⟩
      rw [hq] at c0
      have hq0 : (0 : Int) < (q : Int) := by omega
      have hcap := HT.out.d.row.cap
      rw [List.length_drop, hq] at hcap
      have hxr : (L.drop j)[0]? = some x := by rw [List.getElem?_drop, Nat.add_zero]; exact hx
      obtain ⟨g, o, rfl, hc⟩ := HT.out.d.row.ints.at_ (by rw [List.length_drop]; omega)
      have e1 := hc 0 x hxr
      rw [Nat.add_zero] at e1
      have R1 : Keep (_ = _) := ⟨r1⟩
      have c2' : w2.cell? ⟨db, 0, none⟩ = some (.slice (some ⟨g, o, none⟩) q c2) := by
        have := r3.h.cellv 0 _ rfl
        rw [List.length_cons, List.length_drop] at this
        rw [show L.length - (j + 1) + 1 = q by omega] at this
        exact this
      have f2 : w2.frozen? ⟨db, 0, none⟩ = false := r3.h.frozen _
      have HS : Keep (∀ o' q2 c3, (c3 = 0 ∨ o' = o + 1) → c3 = c2 - 1 → q2 + 1 = q → TD w (w2.setCell ⟨db, 0, none⟩ (.slice (some ⟨g, o', none⟩) q2 c3)) db a sz L a' (j + 1) c' (some ⟨g, o', none⟩) c3) := by
        refine ⟨fun o' q2 c3 h1 h2 h3 => ?_⟩
        obtain ⟨k1, k2, k3⟩ := dshrink r3 q2 o' c3 (by rw [List.length_drop]; omega) h1 h2
        have hdb := HK.out.2 db (.inl rfl)
        exact ⟨row_fr r2 k2 (fun i e e2 => by have := (r2.lt i e).1; omega), k1, r4.then k2 (fun i e => .inl (.inl e)), fun i hi => HT.out.n i (k3 i hi), by omega⟩
      obtain ⟨q2, hq2⟩ : ∃ q2, q = q2 + 1 := ⟨q - 1, by omega⟩
      have HQ : Keep (q2 + 1 = q) := ⟨hq2.symm⟩
      rw [hq2] at c0 c2' hcap
      obtain ⟨jj, hjj⟩ : ∃ jj, j + 1 = jj := ⟨_, rfl⟩
      rw [hjj] at R1 HS
      have hj1 : (jj : Int) ≤ max 0 n := by omega
      have hj2 : L.length - jj < L.length - j := by omega
      have hj3 : (j : Int) < n := hm1
      clear r1 r2 r3 r4 hc hx hxr HT hq hq2 hjj hjn hq0 hm2
      by_cases hc1 : c2 = 1
      · have hq3 : q2 = 0 := by omega
        go_wp2_with ((at_builtin; refine wpList_append_run _ rfl (.tmp 18) (.tmp 25) 22 rfl _ _ rfl rfl R1.out ?_))
        have := HS.out o q2 0 (.inl rfl) (by omega) HQ.out
        rw [hq3] at this
        exact ⟨⟨a', jj, c', hj1, rfl, ⟨_, _, this⟩⟩, by simp only [lenOf]; exact hj2⟩
      · go_wp2_with ((at_builtin; refine wpList_append_run _ rfl (.tmp 18) (.tmp 25) 22 rfl _ _ rfl rfl R1.out ?_))
        exact ⟨⟨a', jj, c', hj1, rfl, ⟨_, _, HS.out (o + 1) q2 (c2 - 1) (.inr rfl) rfl HQ.out⟩⟩, by simp only [lenOf]; exact hj2⟩
    · have hjk : j = k := by have := HK.out.1; omega
      have HE : Keep (∃ a2 c2, DTook w wr db a a2 c2 sz L ao k co) := by
        have hd := drow_of (w0 := w) (n := j) (xs := L.take j) (by have := HT.out.o; unfold Row at this; rwa [show (L.take j).length = j by rw [List.length_take]; omega] at this) (by rw [List.length_take]; omega)
        rw [← hjk]
        exact ⟨a2, c2, hd.1, hd.2, ⟨HT.out.d, HT.out.f, fun i hi => .inl (HT.out.n i hi)⟩, fun i hi => HK.out.2 i (HT.out.n i hi)⟩
      subst hjk
      clear HT HK
      by_cases hm1 : (j : Int) < n
      · have hq0 : ¬ ((0 : Int) < ((L.length - j : Nat) : Int)) := by omega
        generalize L.length - j = q at *
        go_wp2_with fail
        go_ret
        obtain ⟨a3, c3, hE⟩ := HE.out
        exact ⟨_, _, rfl, _, _, hE⟩
      · go_wp2_with fail
        go_ret
        obtain ⟨a3, c3, hE⟩ := HE.out
        exact ⟨_, _, rfl, _, _, hE⟩
end Go.Proofs.Ytflglflggeaokaa
