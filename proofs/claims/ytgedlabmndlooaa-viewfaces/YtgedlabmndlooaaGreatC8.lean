/- slices: SortStableFunc -/
import Derived.Test.YtgedlabmndlooaaGreatC7
namespace Go.Proofs.YtgedlabmndlooaaGreat
open Go Go.RowKit Go.Maps

section
variable {α : Type} (key : α → Int)
/-- every stretch of bs is rising -/
def Chk (bs : Nat) (L : List α) : Prop := ∀ q : Nat, Ris key ((L.drop (q * bs)).take bs)
variable {key}
theorem Ris.sub {A B : List α} (h : Ris key B) (s : A.Sublist B) : Ris key A := List.Pairwise.sublist s h
theorem Chk.nil (bs : Nat) : Chk key bs ([] : List α) := fun q => by simp [Ris]
theorem Chk.app {bs q : Nat} {X M : List α} (h : Chk key bs X) (hX : X.length = q * bs) (hM : M.length ≤ bs) (hR : Ris key M) : Chk key bs (X ++ M) := fun i => by
  rcases Nat.lt_trichotomy i q with hi | hi | hi
  · have h1 : (i + 1) * bs ≤ q * bs := Nat.mul_le_mul_right bs hi
    rw [Nat.succ_mul] at h1
    rw [List.drop_append_of_le_length (by omega), List.take_append_of_le_length (by rw [List.length_drop]; omega)]
    exact h i
  · subst hi
    rw [← hX, List.drop_append_of_le_length (Nat.le_refl _), List.drop_length, List.nil_append, List.take_of_length_le hM]
    exact hR
  · have h1 : (q + 1) * bs ≤ i * bs := Nat.mul_le_mul_right bs hi
    rw [Nat.succ_mul] at h1
    rw [List.drop_of_length_le (by rw [List.length_append]; omega)]
    simp [Ris]
theorem Chk.drop {bs : Nat} {X : List α} (h : Chk key bs X) (k : Nat) : Chk key bs (X.drop (k * bs)) := fun i => by
  rw [List.drop_drop, ← Nat.add_mul]
  exact h (k + i)
theorem Chk.zero {bs : Nat} {X : List α} (h : Chk key bs X) : Ris key (X.take bs) := by
  have := h 0
  rwa [Nat.zero_mul, List.drop_zero] at this
theorem Chk.one {bs : Nat} {X : List α} (h : Chk key bs X) : Ris key ((X.drop bs).take bs) := by
  have := h 1
  rwa [Nat.one_mul] at this
theorem Chk.all {bs : Nat} {X : List α} (h : Chk key bs X) (hX : X.length ≤ bs) : Ris key X := by
  have := h.zero
  rwa [List.take_of_length_le hX] at this
end
set_option maxRecDepth 100000 in
set_option maxHeartbeats 16000000 in
theorem stbC (w0 W : World) (l : List As) (g n c kb : Nat) (L : List Cr) (hn : L.length = n) (hn0 : 0 < n) (hn1 : n ≤ 281474976710656) (hkb : boxA kb [nvC] 86 ∈ l)
    (h : Sep w0 W (rowV 26 14 (sl g n c) n (fl crv (L)) :: l)) :
    Calls Tryz.prog 72 #[sl g n c, iv n, cvC kb] W fun e W' => e = .returned (.tuple #[]) ∧ ∃ R : List Cr, Ris (fun c : Cr => c.pl) R ∧ Stb (fun c : Cr => c.pl) L R ∧ Sep w0 W' (rowV 26 14 (sl g n c) n (fl crv (R)) :: l) := by
  have HKB := Keep.mk hkb
  have HN := Keep.mk (And.intro hn (And.intro hn0 hn1))
  have HB0 : Keep (∃ (X R : List Cr) (q : Nat), X.length = 0 ∧ 0 = q * 20 ∧ Chk (fun c : Cr => c.pl) 20 X ∧ Stb (fun c : Cr => c.pl) L (X ++ R) ∧ Sep w0 W (rowV 26 14 (sl g n c) n (fl crv (X ++ R)) :: l)) := ⟨⟨[], L, 0, rfl, by omega, Chk.nil _, Stb.refl _, h⟩⟩
  clear h hn hn0 hkb
  go_enter Tryz.func72, Tryz.ntmps72
  go_wp2_with fail
  go_loopw [7, 8] (fun u7 u8 wr => ∃ a b : Nat, a ≤ n ∧ b = a + 20 ∧ u7 = iv a ∧ u8 = iv b ∧ Keep (∃ (X R : List Cr) (q : Nat), X.length = a ∧ a = q * 20 ∧ Chk (fun c : Cr => c.pl) 20 X ∧ Stb (fun c : Cr => c.pl) L (X ++ R) ∧ Sep w0 wr (rowV 26 14 (sl g n c) n (fl crv (X ++ R)) :: l))) (fun _ u8 _ => (n + 20 - intOf u8).toNat)
  case atStart => exact ⟨0, 20, by omega, rfl, rfl, rfl, HB0⟩
  case round =>
    clear HB0
    obtain ⟨a, b, ha, hb, rfl, rfl, HI⟩ := hrel
    have hnn := HN.out
    by_cases hlt : b ≤ n
    · have hlt1 : (b : Int) ≤ (n : Int) := by omega
      obtain ⟨X, R, q, e1, e2, e3, e4, S1⟩ := HI.out
      obtain ⟨b2, hb2⟩ : ∃ b2, b + 20 = b2 := ⟨_, rfl⟩
      have hbw : IntKind.i64.wrap ((b : Int) + 20) = ((b2 : Nat) : Int) := by rw [IntKind.wrap_i64]; omega
      have hlen := e4.len
      rw [List.length_append, hnn.1] at hlen
      obtain ⟨M, R2, hR, hM⟩ : ∃ M R2, R = M ++ R2 ∧ M.length = 20 := ⟨R.take 20, R.drop 20, (List.take_append_drop _ _).symm, by rw [List.length_take]; omega⟩
      subst hR
      have HC := Keep.mk (insC w0 wr l g n c kb a b X M R2 e1 (by omega) (by rw [List.append_assoc, e4.len]; exact hnn.1) hn1 HKB.out (by simpa only [List.append_assoc, List.nil_append, List.append_nil, List.cons_append] using S1))
      have HR : Keep (∀ w' M', Ris (fun c : Cr => c.pl) M' → Stb (fun c : Cr => c.pl) M M' → Sep w0 w' (rowV 26 14 (sl g n c) n (fl crv (X ++ M' ++ R2)) :: l) → ∃ (X R : List Cr) (q : Nat), X.length = b ∧ b = q * 20 ∧ Chk (fun c : Cr => c.pl) 20 X ∧ Stb (fun c : Cr => c.pl) L (X ++ R) ∧ Sep w0 w' (rowV 26 14 (sl g n c) n (fl crv (X ++ R)) :: l)) := ⟨fun w' M' r1 r2 S => ⟨X ++ M', R2, q + 1, by rw [List.length_append, r2.len, e1, hM, hb], by omega, e3.app (e1.trans e2) (by rw [r2.len, hM]; exact Nat.le_refl _) r1, e4.trans (by rw [List.append_assoc X M' R2]; exact Stb.app (Stb.refl X) (Stb.app r2 (Stb.refl R2))), S⟩⟩
      have HAB : Keep (b ≤ n ∧ b2 = b + 20) := ⟨by omega⟩
      clear HI e1 e2 e3 e4 S1 hlen hM hb2 hlt ha hb hnn
      go_wp2_with fail
      refine HC.out.mono ?_
      rintro e w1 ⟨rfl, M', r1, r2, S2⟩
      have HE := Keep.mk (HR.out w1 M' r1 r2 S2)
      clear S2 r1 r2 HC HR
      go_wp2_with fail
      go_roundw
      case rel => exact ⟨b, b2, HAB.out.1, HAB.out.2, rfl, rfl, HE⟩
      case measure => simp [intOf]; have := HAB.out; omega
    · have hlt1 : ¬ (b : Int) ≤ (n : Int) := by omega
      obtain ⟨X, R, q, e1, e2, e3, e4, S1⟩ := HI.out
      have hlen := e4.len
      rw [List.length_append, hnn.1] at hlen
      have HC := Keep.mk (insC w0 wr l g n c kb a n X R [] e1 (by omega) (by rw [List.append_nil, e4.len]; exact hnn.1) hn1 HKB.out (by simpa only [List.append_assoc, List.nil_append, List.append_nil, List.cons_append] using S1))
      have HR : Keep (∀ w' M', Ris (fun c : Cr => c.pl) M' → Stb (fun c : Cr => c.pl) R M' → Sep w0 w' (rowV 26 14 (sl g n c) n (fl crv (X ++ M' ++ [])) :: l) → ∃ D : List Cr, Chk (fun c : Cr => c.pl) 20 D ∧ Stb (fun c : Cr => c.pl) L D ∧ Sep w0 w' (rowV 26 14 (sl g n c) n (fl crv (D)) :: l)) := ⟨fun w' M' r1 r2 S => ⟨X ++ M', e3.app (e1.trans e2) (by rw [r2.len]; omega) r1, e4.trans (Stb.app (Stb.refl _) r2), by rw [List.append_nil] at S; exact S⟩⟩
      clear HI e1 e2 e3 e4 S1 hlen hlt ha hb hnn
      go_wp2_with fail
      refine HC.out.mono ?_
      rintro e w1 ⟨rfl, M', r1, r2, S2⟩
      have HB0 := Keep.mk (HR.out w1 M' r1 r2 S2)
      clear S2 r1 r2 HC HR
      go_wp2_with fail
      go_loopw [6] (fun u6 wr => ∃ bs : Nat, 20 ≤ bs ∧ bs ≤ 2 * n + 20 ∧ u6 = iv bs ∧ Keep (∃ D : List Cr, Chk (fun c : Cr => c.pl) bs D ∧ Stb (fun c : Cr => c.pl) L D ∧ Sep w0 wr (rowV 26 14 (sl g n c) n (fl crv (D)) :: l))) (fun u6 _ => (n - intOf u6).toNat)
      case atStart => exact ⟨20, Nat.le_refl _, by omega, rfl, HB0⟩
      case round =>
        clear HB0
        obtain ⟨bs, hb20, hbn, rfl, HI⟩ := hrel
        have hnn := HN.out
        by_cases hlt : bs < n
        · have hlt1 : (bs : Int) < (n : Int) := by omega
          obtain ⟨b2, hb2⟩ : ∃ b2, 2 * bs = b2 := ⟨_, rfl⟩
          have hbw : IntKind.i64.wrap (2 * (bs : Int)) = ((b2 : Nat) : Int) := by rw [IntKind.wrap_i64]; omega
          have hbw2 : IntKind.i64.wrap ((bs : Int) * 2) = ((b2 : Nat) : Int) := by rw [IntKind.wrap_i64]; omega
          have HB1 : Keep (∃ (X R : List Cr) (q : Nat), X.length = 0 ∧ 0 = q * (2 * bs) ∧ Chk (fun c : Cr => c.pl) (2 * bs) X ∧ Chk (fun c : Cr => c.pl) bs R ∧ Stb (fun c : Cr => c.pl) L (X ++ R) ∧ Sep w0 wr (rowV 26 14 (sl g n c) n (fl crv (X ++ R)) :: l)) := ⟨by
            obtain ⟨D, d1, d2, S⟩ := HI.out
            exact ⟨[], D, 0, rfl, by omega, Chk.nil _, d1, d2, S⟩⟩
          have HBS : Keep (20 ≤ bs ∧ bs < n ∧ 2 * bs = b2) := ⟨⟨hb20, hlt, hb2⟩⟩
          clear HI hb20 hbn hlt hb2 hnn
          go_wp2_with fail
          go_loopw [7, 8] (fun u7 u8 wr => ∃ a b : Nat, a ≤ n ∧ b = a + b2 ∧ u7 = iv a ∧ u8 = iv b ∧ Keep (∃ (X R : List Cr) (q : Nat), X.length = a ∧ a = q * (2 * bs) ∧ Chk (fun c : Cr => c.pl) (2 * bs) X ∧ Chk (fun c : Cr => c.pl) bs R ∧ Stb (fun c : Cr => c.pl) L (X ++ R) ∧ Sep w0 wr (rowV 26 14 (sl g n c) n (fl crv (X ++ R)) :: l))) (fun _ u8 _ => (n + b2 - intOf u8).toNat)
          case atStart => exact ⟨0, b2, by omega, by omega, rfl, rfl, HB1⟩
          case round =>
            clear HB1
            obtain ⟨a, b, ha, hb, rfl, rfl, HI⟩ := hrel
            have hnn := HN.out
            have hbs := HBS.out
            obtain ⟨m, hm⟩ : ∃ m, a + bs = m := ⟨_, rfl⟩
            have hmw : IntKind.i64.wrap ((a : Int) + (bs : Int)) = ((m : Nat) : Int) := by rw [IntKind.wrap_i64]; omega
            obtain ⟨X, R, q, e1, e2, e3, e4, e5, S1⟩ := HI.out
            have hlen := e5.len
            rw [List.length_append, hnn.1] at hlen
            by_cases hlt : b ≤ n
            · have hlt2 : (b : Int) ≤ (n : Int) := by omega
              obtain ⟨b3, hb3⟩ : ∃ b3, b + b2 = b3 := ⟨_, rfl⟩
              have hb3w : IntKind.i64.wrap ((b : Int) + (b2 : Int)) = ((b3 : Nat) : Int) := by rw [IntKind.wrap_i64]; omega
              obtain ⟨A, B, R2, hR, hA, hB, rA, rB, cR⟩ : ∃ A B R2, R = A ++ B ++ R2 ∧ A.length = bs ∧ B.length = bs ∧ Ris (fun c : Cr => c.pl) A ∧ Ris (fun c : Cr => c.pl) B ∧ Chk (fun c : Cr => c.pl) bs R2 := by
                refine ⟨R.take bs, (R.drop bs).take bs, R.drop (2 * bs), ?_, by rw [List.length_take]; omega, by rw [List.length_take, List.length_drop]; omega, e4.zero, e4.one, e4.drop 2⟩
                rw [List.append_assoc, show R.drop (2 * bs) = (R.drop bs).drop bs by rw [List.drop_drop]; congr 1; omega, List.take_append_drop, List.take_append_drop]
              subst hR
              have HC := Keep.mk (symC (A.length + B.length) w0 wr l g n c kb a m b X A B R2 (Nat.le_refl _) e1 (by omega) (by omega) (by omega) (by omega) rA rB (by have q := e5.len; rw [hnn.1] at q; rw [← q]; simp only [List.append_assoc]) hn1 HKB.out (by simpa only [List.append_assoc, List.nil_append, List.append_nil, List.cons_append] using S1))
              have HR : Keep (∀ w' M', Ris (fun c : Cr => c.pl) M' → Stb (fun c : Cr => c.pl) (A ++ B) M' → Sep w0 w' (rowV 26 14 (sl g n c) n (fl crv (X ++ M' ++ R2)) :: l) → ∃ (X R : List Cr) (q : Nat), X.length = b ∧ b = q * (2 * bs) ∧ Chk (fun c : Cr => c.pl) (2 * bs) X ∧ Chk (fun c : Cr => c.pl) bs R ∧ Stb (fun c : Cr => c.pl) L (X ++ R) ∧ Sep w0 w' (rowV 26 14 (sl g n c) n (fl crv (X ++ R)) :: l)) := ⟨fun w' M' r1 r2 S => ⟨X ++ M', R2, q + 1, by rw [List.length_append, r2.len, List.length_append]; omega, by rw [Nat.succ_mul]; omega, e3.app (e1.trans e2) (by rw [r2.len, List.length_append]; omega) r1, cR, e5.trans (by rw [List.append_assoc X M' R2]; exact Stb.app (Stb.refl X) (Stb.app r2 (Stb.refl R2))), S⟩⟩
              have HAB : Keep (b ≤ n ∧ b3 = b + b2 ∧ 0 < b2) := ⟨by omega⟩
              clear HI e1 e2 e3 e4 e5 S1 hlen hA hB rA rB cR hb3 hlt ha hb hnn hbs hm
              go_wp2_with fail
              refine HC.out.mono ?_
              rintro e w1 ⟨rfl, M', r1, r2, S2⟩
              have HE := Keep.mk (HR.out w1 M' r1 r2 S2)
              clear S2 r1 r2 HC HR
              go_wp2_with fail
              go_roundw
              case rel => exact ⟨b, b3, HAB.out.1, HAB.out.2.1, rfl, rfl, HE⟩
              case measure => simp [intOf]; have := HAB.out; omega
            · have hlt2 : ¬ (b : Int) ≤ (n : Int) := by omega
              have HAB : Keep (20 ≤ b2 ∧ b2 ≤ 2 * n + 20 ∧ bs < b2 ∧ bs < n) := ⟨by omega⟩
              by_cases hmn : m < n
              · have hmn1 : (m : Int) < (n : Int) := by omega
                obtain ⟨A, B, hR, hA, hB, rA, rB⟩ : ∃ A B, R = A ++ B ∧ A.length = bs ∧ m + B.length = n ∧ Ris (fun c : Cr => c.pl) A ∧ Ris (fun c : Cr => c.pl) B := by
                  refine ⟨R.take bs, R.drop bs, (List.take_append_drop _ _).symm, by rw [List.length_take]; omega, by rw [List.length_drop]; omega, e4.zero, ?_⟩
                  have q := e4.one
                  rwa [List.take_of_length_le (by rw [List.length_drop]; omega)] at q
                subst hR
                have HC := Keep.mk (symC (A.length + B.length) w0 wr l g n c kb a m n X A B [] (Nat.le_refl _) e1 (by omega) hB (by omega) (by omega) rA rB (by have q := e5.len; rw [hnn.1] at q; rw [← q]; simp only [List.append_assoc, List.append_nil]) hn1 HKB.out (by simpa only [List.append_assoc, List.nil_append, List.append_nil, List.cons_append] using S1))
                have HR : Keep (∀ w' M', Ris (fun c : Cr => c.pl) M' → Stb (fun c : Cr => c.pl) (A ++ B) M' → Sep w0 w' (rowV 26 14 (sl g n c) n (fl crv (X ++ M' ++ [])) :: l) → ∃ D : List Cr, Chk (fun c : Cr => c.pl) b2 D ∧ Stb (fun c : Cr => c.pl) L D ∧ Sep w0 w' (rowV 26 14 (sl g n c) n (fl crv (D)) :: l)) := ⟨fun w' M' r1 r2 S => ⟨X ++ M', by rw [← hbs.2.2]; exact e3.app (e1.trans e2) (by rw [r2.len, List.length_append]; omega) r1, e5.trans (Stb.app (Stb.refl _) r2), by rw [List.append_nil] at S; exact S⟩⟩
                clear HI e1 e2 e3 e4 e5 S1 hlen hA hB rA rB hlt ha hb hnn hbs hm hmn
                go_wp2_with fail
                refine HC.out.mono ?_
                rintro e w1 ⟨rfl, M', r1, r2, S2⟩
                have HE := Keep.mk (HR.out w1 M' r1 r2 S2)
                clear S2 r1 r2 HC HR
                go_wp2_with fail
                go_roundw
                case rel => exact ⟨b2, HAB.out.1, HAB.out.2.1, rfl, HE⟩
                case measure => simp [intOf]; have := HAB.out; omega
              · have hmn1 : ¬ (m : Int) < (n : Int) := by omega
                have HE : Keep (∃ D : List Cr, Chk (fun c : Cr => c.pl) b2 D ∧ Stb (fun c : Cr => c.pl) L D ∧ Sep w0 wr (rowV 26 14 (sl g n c) n (fl crv (D)) :: l)) := ⟨⟨X ++ R, by rw [← hbs.2.2]; exact e3.app (e1.trans e2) (by omega) (e4.all (by omega)), e5, S1⟩⟩
                clear HI e1 e2 e3 e4 e5 S1 hlen hlt ha hb hnn hbs hm hmn
                go_wp2_with fail
                go_roundw
                case rel => exact ⟨b2, HAB.out.1, HAB.out.2.1, rfl, HE⟩
                case measure => simp [intOf]; have := HAB.out; omega
        · have hlt1 : ¬ (bs : Int) < (n : Int) := by omega
          have HE : Keep (∃ R : List Cr, Ris (fun c : Cr => c.pl) R ∧ Stb (fun c : Cr => c.pl) L R ∧ Sep w0 wr (rowV 26 14 (sl g n c) n (fl crv (R)) :: l)) := ⟨by
            obtain ⟨D, d1, d2, S⟩ := HI.out
            exact ⟨D, d1.all (by rw [d2.len]; omega), d2, S⟩⟩
          clear HI hb20 hbn hlt hnn
          go_wp2_with fail
          go_end0
          exact ⟨rfl, HE.out⟩
set_option maxRecDepth 100000 in
set_option maxHeartbeats 16000000 in
theorem ins0C (W : World) (p : Option Addr) (c : Nat) (fv : Value) : Calls Tryz.prog 83 #[.slice p 0 c, iv 0, iv 0, fv] W fun e W' => e = .returned (.tuple #[]) ∧ W' = W := by
  go_enter Tryz.func83, Tryz.ntmps83
  go_wp2_with fail
  go_loopw [8] (fun u8 wr => u8 = iv 1 ∧ wr = W) (fun _ _ => 0)
  case atStart => exact ⟨rfl, rfl⟩
  case round =>
    obtain ⟨rfl, rfl⟩ := hrel
    go_wp2_with fail
    go_end0
    exact ⟨rfl, rfl⟩
set_option maxRecDepth 100000 in
set_option maxHeartbeats 16000000 in
theorem stb0C (W : World) (p : Option Addr) (c : Nat) (fv : Value) : Calls Tryz.prog 72 #[.slice p 0 c, iv 0, fv] W fun e W' => e = .returned (.tuple #[]) ∧ W' = W := by
  have HC := Keep.mk (fun w => ins0C w p c fv)
  go_enter Tryz.func72, Tryz.ntmps72
  go_wp2_with fail
  go_loopw [7, 8] (fun u7 u8 wr => u7 = iv 0 ∧ u8 = iv 20 ∧ wr = W) (fun _ _ _ => 0)
  case atStart => exact ⟨rfl, rfl, rfl⟩
  case round =>
    obtain ⟨rfl, rfl, rfl⟩ := hrel
    go_wp2_with fail
    refine (HC.out _).mono ?_
    rintro e w1 ⟨rfl, hw⟩
    rw [hw]
    clear hw w1
    go_wp2_with fail
    go_loopw [6] (fun u6 wx => u6 = iv 20 ∧ wx = wr) (fun _ _ => 0)
    case atStart => exact ⟨rfl, rfl⟩
    case round =>
      obtain ⟨rfl, rfl⟩ := hrel
      go_wp2_with fail
      go_end0
      exact ⟨rfl, rfl⟩
/-- slices.SortStableFunc -/
theorem sstC (w0 W : World) (l : List As) (v : Value) (kb : Nat) (L : List Cr) (hn1 : L.length ≤ 281474976710656) (hkb : boxA kb [nvC] 86 ∈ l) (h : Sep w0 W (rowV 26 14 v L.length (fl crv L) :: l)) :
    Calls Tryz.prog 54 #[v, cvC kb] W fun e W' => e = .returned (.tuple #[]) ∧ ∃ R : List Cr, Ris (fun c : Cr => c.pl) R ∧ Stb (fun c : Cr => c.pl) L R ∧ Sep w0 W' (rowV 26 14 v R.length (fl crv R) :: l) := by
  by_cases h0 : L.length = 0
  · obtain rfl := List.length_eq_zero_iff.1 h0
    obtain ⟨a, c, rfl⟩ := own_zero (h.rowGet k0m)
    have HC := Keep.mk (fun w => stb0C w a c (cvC kb))
    have HH := Keep.mk h
    clear h h0
    go_enter Tryz.func54, Tryz.ntmps54
    go_wp2_with fail
    refine (HC.out _).mono ?_
    rintro e w1 ⟨rfl, hw⟩
    rw [hw]
    clear hw w1
    go_wp2_with fail
    go_end0
    exact ⟨rfl, [], List.Pairwise.nil, Stb.refl _, HH.out⟩
  · obtain ⟨g, c, rfl, _⟩ := own_any (h.rowGet k0m) (by omega)
    obtain ⟨n, hn⟩ : ∃ n, L.length = n := ⟨_, rfl⟩
    rw [hn] at h hn1 h0 ⊢
    have HC := Keep.mk (stbC w0 W l g n c kb L hn (by omega) hn1 hkb h)
    have HN := Keep.mk hn
    clear h h0 hkb hn
    go_enter Tryz.func54, Tryz.ntmps54
    go_wp2_with fail
    refine HC.out.mono ?_
    rintro e w1 ⟨rfl, R, r1, r2, S⟩
    have HE : Keep (∃ R : List Cr, Ris (fun c : Cr => c.pl) R ∧ Stb (fun c : Cr => c.pl) L R ∧ Sep w0 w1 (rowV 26 14 (sl g n c) R.length (fl crv R) :: l)) := ⟨⟨R, r1, r2, by rw [r2.len, HN.out]; exact S⟩⟩
    clear S r1 r2 HC
    go_wp2_with fail
    go_end0
    exact ⟨rfl, HE.out⟩
set_option maxRecDepth 100000 in
set_option maxHeartbeats 16000000 in
theorem stbS (w0 W : World) (l : List As) (g n c kb : Nat) (L : List Sh) (hn : L.length = n) (hn0 : 0 < n) (hn1 : n ≤ 281474976710656) (hkb : boxA kb [nvS] 91 ∈ l)
    (h : Sep w0 W (rowV 46 7 (sl g n c) n (fl shv (L)) :: l)) :
    Calls Tryz.prog 77 #[sl g n c, iv n, cvS kb] W fun e W' => e = .returned (.tuple #[]) ∧ ∃ R : List Sh, Ris (fun c : Sh => c.id) R ∧ Stb (fun c : Sh => c.id) L R ∧ Sep w0 W' (rowV 46 7 (sl g n c) n (fl shv (R)) :: l) := by
  have HKB := Keep.mk hkb
  have HN := Keep.mk (And.intro hn (And.intro hn0 hn1))
  have HB0 : Keep (∃ (X R : List Sh) (q : Nat), X.length = 0 ∧ 0 = q * 20 ∧ Chk (fun c : Sh => c.id) 20 X ∧ Stb (fun c : Sh => c.id) L (X ++ R) ∧ Sep w0 W (rowV 46 7 (sl g n c) n (fl shv (X ++ R)) :: l)) := ⟨⟨[], L, 0, rfl, by omega, Chk.nil _, Stb.refl _, h⟩⟩
  clear h hn hn0 hkb
  go_enter Tryz.func77, Tryz.ntmps77
  go_wp2_with fail
  go_loopw [7, 8] (fun u7 u8 wr => ∃ a b : Nat, a ≤ n ∧ b = a + 20 ∧ u7 = iv a ∧ u8 = iv b ∧ Keep (∃ (X R : List Sh) (q : Nat), X.length = a ∧ a = q * 20 ∧ Chk (fun c : Sh => c.id) 20 X ∧ Stb (fun c : Sh => c.id) L (X ++ R) ∧ Sep w0 wr (rowV 46 7 (sl g n c) n (fl shv (X ++ R)) :: l))) (fun _ u8 _ => (n + 20 - intOf u8).toNat)
  case atStart => exact ⟨0, 20, by omega, rfl, rfl, rfl, HB0⟩
  case round =>
    clear HB0
    obtain ⟨a, b, ha, hb, rfl, rfl, HI⟩ := hrel
    have hnn := HN.out
    by_cases hlt : b ≤ n
    · have hlt1 : (b : Int) ≤ (n : Int) := by omega
      obtain ⟨X, R, q, e1, e2, e3, e4, S1⟩ := HI.out
      obtain ⟨b2, hb2⟩ : ∃ b2, b + 20 = b2 := ⟨_, rfl⟩
      have hbw : IntKind.i64.wrap ((b : Int) + 20) = ((b2 : Nat) : Int) := by rw [IntKind.wrap_i64]; omega
      have hlen := e4.len
      rw [List.length_append, hnn.1] at hlen
      obtain ⟨M, R2, hR, hM⟩ : ∃ M R2, R = M ++ R2 ∧ M.length = 20 := ⟨R.take 20, R.drop 20, (List.take_append_drop _ _).symm, by rw [List.length_take]; omega⟩
      subst hR
      have HC := Keep.mk (insS w0 wr l g n c kb a b X M R2 e1 (by omega) (by rw [List.append_assoc, e4.len]; exact hnn.1) hn1 HKB.out (by simpa only [List.append_assoc, List.nil_append, List.append_nil, List.cons_append] using S1))
      have HR : Keep (∀ w' M', Ris (fun c : Sh => c.id) M' → Stb (fun c : Sh => c.id) M M' → Sep w0 w' (rowV 46 7 (sl g n c) n (fl shv (X ++ M' ++ R2)) :: l) → ∃ (X R : List Sh) (q : Nat), X.length = b ∧ b = q * 20 ∧ Chk (fun c : Sh => c.id) 20 X ∧ Stb (fun c : Sh => c.id) L (X ++ R) ∧ Sep w0 w' (rowV 46 7 (sl g n c) n (fl shv (X ++ R)) :: l)) := ⟨fun w' M' r1 r2 S => ⟨X ++ M', R2, q + 1, by rw [List.length_append, r2.len, e1, hM, hb], by omega, e3.app (e1.trans e2) (by rw [r2.len, hM]; exact Nat.le_refl _) r1, e4.trans (by rw [List.append_assoc X M' R2]; exact Stb.app (Stb.refl X) (Stb.app r2 (Stb.refl R2))), S⟩⟩
      have HAB : Keep (b ≤ n ∧ b2 = b + 20) := ⟨by omega⟩
      clear HI e1 e2 e3 e4 S1 hlen hM hb2 hlt ha hb hnn
      go_wp2_with fail
      refine HC.out.mono ?_
      rintro e w1 ⟨rfl, M', r1, r2, S2⟩
      have HE := Keep.mk (HR.out w1 M' r1 r2 S2)
      clear S2 r1 r2 HC HR
      go_wp2_with fail
      go_roundw
      case rel => exact ⟨b, b2, HAB.out.1, HAB.out.2, rfl, rfl, HE⟩
      case measure => simp [intOf]; have := HAB.out; omega
    · have hlt1 : ¬ (b : Int) ≤ (n : Int) := by omega
      obtain ⟨X, R, q, e1, e2, e3, e4, S1⟩ := HI.out
      have hlen := e4.len
      rw [List.length_append, hnn.1] at hlen
      have HC := Keep.mk (insS w0 wr l g n c kb a n X R [] e1 (by omega) (by rw [List.append_nil, e4.len]; exact hnn.1) hn1 HKB.out (by simpa only [List.append_assoc, List.nil_append, List.append_nil, List.cons_append] using S1))
      have HR : Keep (∀ w' M', Ris (fun c : Sh => c.id) M' → Stb (fun c : Sh => c.id) R M' → Sep w0 w' (rowV 46 7 (sl g n c) n (fl shv (X ++ M' ++ [])) :: l) → ∃ D : List Sh, Chk (fun c : Sh => c.id) 20 D ∧ Stb (fun c : Sh => c.id) L D ∧ Sep w0 w' (rowV 46 7 (sl g n c) n (fl shv (D)) :: l)) := ⟨fun w' M' r1 r2 S => ⟨X ++ M', e3.app (e1.trans e2) (by rw [r2.len]; omega) r1, e4.trans (Stb.app (Stb.refl _) r2), by rw [List.append_nil] at S; exact S⟩⟩
      clear HI e1 e2 e3 e4 S1 hlen hlt ha hb hnn
      go_wp2_with fail
      refine HC.out.mono ?_
      rintro e w1 ⟨rfl, M', r1, r2, S2⟩
      have HB0 := Keep.mk (HR.out w1 M' r1 r2 S2)
      clear S2 r1 r2 HC HR
      go_wp2_with fail
      go_loopw [6] (fun u6 wr => ∃ bs : Nat, 20 ≤ bs ∧ bs ≤ 2 * n + 20 ∧ u6 = iv bs ∧ Keep (∃ D : List Sh, Chk (fun c : Sh => c.id) bs D ∧ Stb (fun c : Sh => c.id) L D ∧ Sep w0 wr (rowV 46 7 (sl g n c) n (fl shv (D)) :: l))) (fun u6 _ => (n - intOf u6).toNat)
      case atStart => exact ⟨20, Nat.le_refl _, by omega, rfl, HB0⟩
      case round =>
        clear HB0
        obtain ⟨bs, hb20, hbn, rfl, HI⟩ := hrel
        have hnn := HN.out
        by_cases hlt : bs < n
        · have hlt1 : (bs : Int) < (n : Int) := by omega
          obtain ⟨b2, hb2⟩ : ∃ b2, 2 * bs = b2 := ⟨_, rfl⟩
          have hbw : IntKind.i64.wrap (2 * (bs : Int)) = ((b2 : Nat) : Int) := by rw [IntKind.wrap_i64]; omega
          have hbw2 : IntKind.i64.wrap ((bs : Int) * 2) = ((b2 : Nat) : Int) := by rw [IntKind.wrap_i64]; omega
          have HB1 : Keep (∃ (X R : List Sh) (q : Nat), X.length = 0 ∧ 0 = q * (2 * bs) ∧ Chk (fun c : Sh => c.id) (2 * bs) X ∧ Chk (fun c : Sh => c.id) bs R ∧ Stb (fun c : Sh => c.id) L (X ++ R) ∧ Sep w0 wr (rowV 46 7 (sl g n c) n (fl shv (X ++ R)) :: l)) := ⟨by
            obtain ⟨D, d1, d2, S⟩ := HI.out
            exact ⟨[], D, 0, rfl, by omega, Chk.nil _, d1, d2, S⟩⟩
          have HBS : Keep (20 ≤ bs ∧ bs < n ∧ 2 * bs = b2) := ⟨⟨hb20, hlt, hb2⟩⟩
          clear HI hb20 hbn hlt hb2 hnn
          go_wp2_with fail
          go_loopw [7, 8] (fun u7 u8 wr => ∃ a b : Nat, a ≤ n ∧ b = a + b2 ∧ u7 = iv a ∧ u8 = iv b ∧ Keep (∃ (X R : List Sh) (q : Nat), X.length = a ∧ a = q * (2 * bs) ∧ Chk (fun c : Sh => c.id) (2 * bs) X ∧ Chk (fun c : Sh => c.id) bs R ∧ Stb (fun c : Sh => c.id) L (X ++ R) ∧ Sep w0 wr (rowV 46 7 (sl g n c) n (fl shv (X ++ R)) :: l))) (fun _ u8 _ => (n + b2 - intOf u8).toNat)
          case atStart => exact ⟨0, b2, by omega, by omega, rfl, rfl, HB1⟩
          case round =>
            clear HB1
            obtain ⟨a, b, ha, hb, rfl, rfl, HI⟩ := hrel
            have hnn := HN.out
            have hbs := HBS.out
            obtain ⟨m, hm⟩ : ∃ m, a + bs = m := ⟨_, rfl⟩
            have hmw : IntKind.i64.wrap ((a : Int) + (bs : Int)) = ((m : Nat) : Int) := by rw [IntKind.wrap_i64]; omega
            obtain ⟨X, R, q, e1, e2, e3, e4, e5, S1⟩ := HI.out
            have hlen := e5.len
            rw [List.length_append, hnn.1] at hlen
            by_cases hlt : b ≤ n
            · have hlt2 : (b : Int) ≤ (n : Int) := by omega
              obtain ⟨b3, hb3⟩ : ∃ b3, b + b2 = b3 := ⟨_, rfl⟩
              have hb3w : IntKind.i64.wrap ((b : Int) + (b2 : Int)) = ((b3 : Nat) : Int) := by rw [IntKind.wrap_i64]; omega
              obtain ⟨A, B, R2, hR, hA, hB, rA, rB, cR⟩ : ∃ A B R2, R = A ++ B ++ R2 ∧ A.length = bs ∧ B.length = bs ∧ Ris (fun c : Sh => c.id) A ∧ Ris (fun c : Sh => c.id) B ∧ Chk (fun c : Sh => c.id) bs R2 := by
                refine ⟨R.take bs, (R.drop bs).take bs, R.drop (2 * bs), ?_, by rw [List.length_take]; omega, by rw [List.length_take, List.length_drop]; omega, e4.zero, e4.one, e4.drop 2⟩
                rw [List.append_assoc, show R.drop (2 * bs) = (R.drop bs).drop bs by rw [List.drop_drop]; congr 1; omega, List.take_append_drop, List.take_append_drop]
              subst hR
              have HC := Keep.mk (symS (A.length + B.length) w0 wr l g n c kb a m b X A B R2 (Nat.le_refl _) e1 (by omega) (by omega) (by omega) (by omega) rA rB (by have q := e5.len; rw [hnn.1] at q; rw [← q]; simp only [List.append_assoc]) hn1 HKB.out (by simpa only [List.append_assoc, List.nil_append, List.append_nil, List.cons_append] using S1))
              have HR : Keep (∀ w' M', Ris (fun c : Sh => c.id) M' → Stb (fun c : Sh => c.id) (A ++ B) M' → Sep w0 w' (rowV 46 7 (sl g n c) n (fl shv (X ++ M' ++ R2)) :: l) → ∃ (X R : List Sh) (q : Nat), X.length = b ∧ b = q * (2 * bs) ∧ Chk (fun c : Sh => c.id) (2 * bs) X ∧ Chk (fun c : Sh => c.id) bs R ∧ Stb (fun c : Sh => c.id) L (X ++ R) ∧ Sep w0 w' (rowV 46 7 (sl g n c) n (fl shv (X ++ R)) :: l)) := ⟨fun w' M' r1 r2 S => ⟨X ++ M', R2, q + 1, by rw [List.length_append, r2.len, List.length_append]; omega, by rw [Nat.succ_mul]; omega, e3.app (e1.trans e2) (by rw [r2.len, List.length_append]; omega) r1, cR, e5.trans (by rw [List.append_assoc X M' R2]; exact Stb.app (Stb.refl X) (Stb.app r2 (Stb.refl R2))), S⟩⟩
              have HAB : Keep (b ≤ n ∧ b3 = b + b2 ∧ 0 < b2) := ⟨by omega⟩
              clear HI e1 e2 e3 e4 e5 S1 hlen hA hB rA rB cR hb3 hlt ha hb hnn hbs hm
              go_wp2_with fail
              refine HC.out.mono ?_
              rintro e w1 ⟨rfl, M', r1, r2, S2⟩
              have HE := Keep.mk (HR.out w1 M' r1 r2 S2)
              clear S2 r1 r2 HC HR
              go_wp2_with fail
              go_roundw
              case rel => exact ⟨b, b3, HAB.out.1, HAB.out.2.1, rfl, rfl, HE⟩
              case measure => simp [intOf]; have := HAB.out; omega
            · have hlt2 : ¬ (b : Int) ≤ (n : Int) := by omega
              have HAB : Keep (20 ≤ b2 ∧ b2 ≤ 2 * n + 20 ∧ bs < b2 ∧ bs < n) := ⟨by omega⟩
              by_cases hmn : m < n
              · have hmn1 : (m : Int) < (n : Int) := by omega
                obtain ⟨A, B, hR, hA, hB, rA, rB⟩ : ∃ A B, R = A ++ B ∧ A.length = bs ∧ m + B.length = n ∧ Ris (fun c : Sh => c.id) A ∧ Ris (fun c : Sh => c.id) B := by
                  refine ⟨R.take bs, R.drop bs, (List.take_append_drop _ _).symm, by rw [List.length_take]; omega, by rw [List.length_drop]; omega, e4.zero, ?_⟩
                  have q := e4.one
                  rwa [List.take_of_length_le (by rw [List.length_drop]; omega)] at q
                subst hR
                have HC := Keep.mk (symS (A.length + B.length) w0 wr l g n c kb a m n X A B [] (Nat.le_refl _) e1 (by omega) hB (by omega) (by omega) rA rB (by have q := e5.len; rw [hnn.1] at q; rw [← q]; simp only [List.append_assoc, List.append_nil]) hn1 HKB.out (by simpa only [List.append_assoc, List.nil_append, List.append_nil, List.cons_append] using S1))
                have HR : Keep (∀ w' M', Ris (fun c : Sh => c.id) M' → Stb (fun c : Sh => c.id) (A ++ B) M' → Sep w0 w' (rowV 46 7 (sl g n c) n (fl shv (X ++ M' ++ [])) :: l) → ∃ D : List Sh, Chk (fun c : Sh => c.id) b2 D ∧ Stb (fun c : Sh => c.id) L D ∧ Sep w0 w' (rowV 46 7 (sl g n c) n (fl shv (D)) :: l)) := ⟨fun w' M' r1 r2 S => ⟨X ++ M', by rw [← hbs.2.2]; exact e3.app (e1.trans e2) (by rw [r2.len, List.length_append]; omega) r1, e5.trans (Stb.app (Stb.refl _) r2), by rw [List.append_nil] at S; exact S⟩⟩
                clear HI e1 e2 e3 e4 e5 S1 hlen hA hB rA rB hlt ha hb hnn hbs hm hmn
                go_wp2_with fail
                refine HC.out.mono ?_
                rintro e w1 ⟨rfl, M', r1, r2, S2⟩
                have HE := Keep.mk (HR.out w1 M' r1 r2 S2)
                clear S2 r1 r2 HC HR
                go_wp2_with fail
                go_roundw
                case rel => exact ⟨b2, HAB.out.1, HAB.out.2.1, rfl, HE⟩
                case measure => simp [intOf]; have := HAB.out; omega
              · have hmn1 : ¬ (m : Int) < (n : Int) := by omega
                have HE : Keep (∃ D : List Sh, Chk (fun c : Sh => c.id) b2 D ∧ Stb (fun c : Sh => c.id) L D ∧ Sep w0 wr (rowV 46 7 (sl g n c) n (fl shv (D)) :: l)) := ⟨⟨X ++ R, by rw [← hbs.2.2]; exact e3.app (e1.trans e2) (by omega) (e4.all (by omega)), e5, S1⟩⟩
                clear HI e1 e2 e3 e4 e5 S1 hlen hlt ha hb hnn hbs hm hmn
                go_wp2_with fail
                go_roundw
                case rel => exact ⟨b2, HAB.out.1, HAB.out.2.1, rfl, HE⟩
                case measure => simp [intOf]; have := HAB.out; omega
        · have hlt1 : ¬ (bs : Int) < (n : Int) := by omega
          have HE : Keep (∃ R : List Sh, Ris (fun c : Sh => c.id) R ∧ Stb (fun c : Sh => c.id) L R ∧ Sep w0 wr (rowV 46 7 (sl g n c) n (fl shv (R)) :: l)) := ⟨by
            obtain ⟨D, d1, d2, S⟩ := HI.out
            exact ⟨D, d1.all (by rw [d2.len]; omega), d2, S⟩⟩
          clear HI hb20 hbn hlt hnn
          go_wp2_with fail
          go_end0
          exact ⟨rfl, HE.out⟩
set_option maxRecDepth 100000 in
set_option maxHeartbeats 16000000 in
theorem ins0S (W : World) (p : Option Addr) (c : Nat) (fv : Value) : Calls Tryz.prog 87 #[.slice p 0 c, iv 0, iv 0, fv] W fun e W' => e = .returned (.tuple #[]) ∧ W' = W := by
  go_enter Tryz.func87, Tryz.ntmps87
  go_wp2_with fail
  go_loopw [8] (fun u8 wr => u8 = iv 1 ∧ wr = W) (fun _ _ => 0)
  case atStart => exact ⟨rfl, rfl⟩
  case round =>
    obtain ⟨rfl, rfl⟩ := hrel
    go_wp2_with fail
    go_end0
    exact ⟨rfl, rfl⟩
set_option maxRecDepth 100000 in
set_option maxHeartbeats 16000000 in
theorem stb0S (W : World) (p : Option Addr) (c : Nat) (fv : Value) : Calls Tryz.prog 77 #[.slice p 0 c, iv 0, fv] W fun e W' => e = .returned (.tuple #[]) ∧ W' = W := by
  have HC := Keep.mk (fun w => ins0S w p c fv)
  go_enter Tryz.func77, Tryz.ntmps77
  go_wp2_with fail
  go_loopw [7, 8] (fun u7 u8 wr => u7 = iv 0 ∧ u8 = iv 20 ∧ wr = W) (fun _ _ _ => 0)
  case atStart => exact ⟨rfl, rfl, rfl⟩
  case round =>
    obtain ⟨rfl, rfl, rfl⟩ := hrel
    go_wp2_with fail
    refine (HC.out _).mono ?_
    rintro e w1 ⟨rfl, hw⟩
    rw [hw]
    clear hw w1
    go_wp2_with fail
    go_loopw [6] (fun u6 wx => u6 = iv 20 ∧ wx = wr) (fun _ _ => 0)
    case atStart => exact ⟨rfl, rfl⟩
    case round =>
      obtain ⟨rfl, rfl⟩ := hrel
      go_wp2_with fail
      go_end0
      exact ⟨rfl, rfl⟩
/-- slices.SortStableFunc -/
theorem sstS (w0 W : World) (l : List As) (v : Value) (kb : Nat) (L : List Sh) (hn1 : L.length ≤ 281474976710656) (hkb : boxA kb [nvS] 91 ∈ l) (h : Sep w0 W (rowV 46 7 v L.length (fl shv L) :: l)) :
    Calls Tryz.prog 61 #[v, cvS kb] W fun e W' => e = .returned (.tuple #[]) ∧ ∃ R : List Sh, Ris (fun c : Sh => c.id) R ∧ Stb (fun c : Sh => c.id) L R ∧ Sep w0 W' (rowV 46 7 v R.length (fl shv R) :: l) := by
  by_cases h0 : L.length = 0
  · obtain rfl := List.length_eq_zero_iff.1 h0
    obtain ⟨a, c, rfl⟩ := own_zero (h.rowGet k0m)
    have HC := Keep.mk (fun w => stb0S w a c (cvS kb))
    have HH := Keep.mk h
    clear h h0
    go_enter Tryz.func61, Tryz.ntmps61
    go_wp2_with fail
    refine (HC.out _).mono ?_
    rintro e w1 ⟨rfl, hw⟩
    rw [hw]
    clear hw w1
    go_wp2_with fail
    go_end0
    exact ⟨rfl, [], List.Pairwise.nil, Stb.refl _, HH.out⟩
  · obtain ⟨g, c, rfl, _⟩ := own_any (h.rowGet k0m) (by omega)
    obtain ⟨n, hn⟩ : ∃ n, L.length = n := ⟨_, rfl⟩
    rw [hn] at h hn1 h0 ⊢
    have HC := Keep.mk (stbS w0 W l g n c kb L hn (by omega) hn1 hkb h)
    have HN := Keep.mk hn
    clear h h0 hkb hn
    go_enter Tryz.func61, Tryz.ntmps61
    go_wp2_with fail
    refine HC.out.mono ?_
    rintro e w1 ⟨rfl, R, r1, r2, S⟩
    have HE : Keep (∃ R : List Sh, Ris (fun c : Sh => c.id) R ∧ Stb (fun c : Sh => c.id) L R ∧ Sep w0 w1 (rowV 46 7 (sl g n c) R.length (fl shv R) :: l)) := ⟨⟨R, r1, r2, by rw [r2.len, HN.out]; exact S⟩⟩
    clear S r1 r2 HC
    go_wp2_with fail
    go_end0
    exact ⟨rfl, HE.out⟩
end Go.Proofs.YtgedlabmndlooaaGreat
