import Derived.Test.YtldnpebnpbahjaaGreatDoorFA3
/- what each field's first function does -/
namespace Go.Proofs.YtldnpebnpbahjaaGreatDoor.Pk
open Go Go.RowKit

/-- where a datagram that is being taken stands -/
structure TkAt (w : World) (db ib rb B : Nat) (s : TS) : Prop where
  d : Has w db s.1.cells 34
  i : In w ib rb B s.2.1 s.2.2
  n : db ≠ ib ∧ db ≠ rb ∧ db ≠ B
  l : s.2.1.length ≤ 4611686018427387904
def TF (db ib rb i : Nat) : Prop := i = db ∨ i = ib ∨ i = rb
def TkRes (o : Option TS) (db ib rb B : Nat) (e : Ending) (w : World) : Prop :=
  match o with
  | none => e = .panicked give
  | some s => e = .returned (.tuple #[]) ∧ TkAt w db ib rb B s
def TakeC (w : World) (f : Fd) (n : Nat) (c : Array Value) : Prop :=
  Enters n ∧ ∀ (W : World) (db ib rb B : Nat) (s : TS), w.grownBy W none → w.heap.size ≤ db → w.heap.size ≤ ib → w.heap.size ≤ rb → TkAt W db ib rb B s →
    Calls Tryz.prog n (#[pv db, pv ib] ++ c) W fun e w' => TkRes (tk f s) db ib rb B e w' ∧ Fr (TF db ib rb) W w'
set_option maxRecDepth 100000 in
theorem TakeC.kept {w w' : World} {f : Fd} {n : Nat} {c : Array Value} (h : TakeC w f n c) (g : w.grownBy w' none) : TakeC w' f n c :=
  ⟨h.1, fun W db ib rb B s gW l1 l2 l3 t => h.2 W db ib rb B s (g.trans gW) (Nat.le_trans g.size l1) (Nat.le_trans g.size l2) (Nat.le_trans g.size l3) t⟩
set_option maxRecDepth 100000 in
theorem cells_len (d : Dg) : d.cells.length = 15 := rfl
set_option maxRecDepth 100000 in
theorem len_of {L : List UInt8} {n : Int} {p : List UInt8 × List UInt8} (h : need L n = some p) : p.2.length ≤ L.length := by
  obtain ⟨_, _, rfl⟩ := need_some h
  simp
set_option maxRecDepth 100000 in
theorem en118 : Enters 180 := fun _ _ => by kernel_rfl
set_option maxRecDepth 100000 in
theorem en123 : Enters 185 := fun _ _ => by kernel_rfl
set_option maxRecDepth 100000 in
theorem en128 : Enters 190 := fun _ _ => by kernel_rfl
set_option maxRecDepth 100000 in
theorem en97 : Enters 145 := fun _ _ => by kernel_rfl
set_option maxRecDepth 100000 in
theorem en106 : Enters 154 := fun _ _ => by kernel_rfl
set_option maxRecDepth 100000 in
theorem en91 : Enters 139 := fun _ _ => by kernel_rfl
set_option maxRecDepth 100000 in
theorem en108 : Enters 156 := fun _ _ => by kernel_rfl
set_option maxRecDepth 100000 in
theorem en84 : Enters 132 := fun _ _ => by kernel_rfl
set_option maxHeartbeats 4000000 in
set_option maxRecDepth 100000 in
theorem tk_nonce (w : World) (b1 b2 : Nat) (h1 : Has w b1 [.int .i64 (16 : Nat)] 3) (h2 : Has w b2 [fv 131] 186) : TakeC w .nonce 180 #[pv b1, pv b2] := by
  refine ⟨en118, fun W db ib rb B s g l1 l2 l3 t => ?_⟩
  obtain ⟨d, L, r⟩ := s
  obtain ⟨td, ti, tn, tl⟩ := t
  dsimp only at td ti tl
  show Calls Tryz.prog 180 #[pv db, pv ib, pv b1, pv b2] W _
  have k1 := h1.kept g (by simp)
  have k2 := h2.kept g (by simp)
  have hb : b1 ≠ rb ∧ b2 ≠ rb ∧ b1 ≠ db ∧ b2 ≠ db := by have := h1.lt; have := h2.lt; omega
  cases hp : need L 16 with
  | none =>
    have ht : tk .nonce (d, L, r) = none := by simp only [tk, hp]; rfl
    rw [ht]
    refine (fixed1_no 131 1 16 db ib rb B b1 b2 d.cells L r W p83 k1 k2 hb td (by rw [cells_len]; decide) tn ti hp).mono ?_
    rintro e w' ⟨rfl, g'⟩
    exact ⟨rfl, Fr.ofNone g'⟩
  | some p =>
    have ht : tk .nonce (d, L, r) = some ({ d with nonce := ba p.1 }, p.2, r) := by simp only [tk, hp]; rfl
    rw [ht]
    refine (fixed1_ok 131 1 16 db ib rb B b1 b2 d.cells L r W p83 k1 k2 hb td (by rw [cells_len]; decide) tn ti p hp).mono ?_
    rintro e w' ⟨rfl, hd', hi', hf'⟩
    exact ⟨⟨rfl, hd', hi', tn, Nat.le_trans (len_of hp) tl⟩, hf'.mono (fun i e => .inl (e.elim .inl (fun q => .inr (.inr q))))⟩
set_option maxHeartbeats 4000000 in
set_option maxRecDepth 100000 in
theorem tk_salt (w : World) (b1 b2 : Nat) (h1 : Has w b1 [.int .i64 (16 : Nat)] 3) (h2 : Has w b2 [fv 149] 186) : TakeC w .salt 180 #[pv b1, pv b2] := by
  refine ⟨en118, fun W db ib rb B s g l1 l2 l3 t => ?_⟩
  obtain ⟨d, L, r⟩ := s
  obtain ⟨td, ti, tn, tl⟩ := t
  dsimp only at td ti tl
  show Calls Tryz.prog 180 #[pv db, pv ib, pv b1, pv b2] W _
  have k1 := h1.kept g (by simp)
  have k2 := h2.kept g (by simp)
  have hb : b1 ≠ rb ∧ b2 ≠ rb ∧ b1 ≠ db ∧ b2 ≠ db := by have := h1.lt; have := h2.lt; omega
  cases hp : need L 16 with
  | none =>
    have ht : tk .salt (d, L, r) = none := by simp only [tk, hp]; rfl
    rw [ht]
    refine (fixed1_no 149 7 16 db ib rb B b1 b2 d.cells L r W p101 k1 k2 hb td (by rw [cells_len]; decide) tn ti hp).mono ?_
    rintro e w' ⟨rfl, g'⟩
    exact ⟨rfl, Fr.ofNone g'⟩
  | some p =>
    have ht : tk .salt (d, L, r) = some ({ d with salt := ba p.1 }, p.2, r) := by simp only [tk, hp]; rfl
    rw [ht]
    refine (fixed1_ok 149 7 16 db ib rb B b1 b2 d.cells L r W p101 k1 k2 hb td (by rw [cells_len]; decide) tn ti p hp).mono ?_
    rintro e w' ⟨rfl, hd', hi', hf'⟩
    exact ⟨⟨rfl, hd', hi', tn, Nat.le_trans (len_of hp) tl⟩, hf'.mono (fun i e => .inl (e.elim .inl (fun q => .inr (.inr q))))⟩
set_option maxHeartbeats 4000000 in
set_option maxRecDepth 100000 in
theorem tk_cookie (w : World) (b1 b2 : Nat) (h1 : Has w b1 [.int .i64 (32 : Nat)] 3) (h2 : Has w b2 [fv 138] 186) : TakeC w .cookie 180 #[pv b1, pv b2] := by
  refine ⟨en118, fun W db ib rb B s g l1 l2 l3 t => ?_⟩
  obtain ⟨d, L, r⟩ := s
  obtain ⟨td, ti, tn, tl⟩ := t
  dsimp only at td ti tl
  show Calls Tryz.prog 180 #[pv db, pv ib, pv b1, pv b2] W _
  have k1 := h1.kept g (by simp)
  have k2 := h2.kept g (by simp)
  have hb : b1 ≠ rb ∧ b2 ≠ rb ∧ b1 ≠ db ∧ b2 ≠ db := by have := h1.lt; have := h2.lt; omega
  cases hp : need L 32 with
  | none =>
    have ht : tk .cookie (d, L, r) = none := by simp only [tk, hp]; rfl
    rw [ht]
    refine (fixed1_no 138 3 32 db ib rb B b1 b2 d.cells L r W p90 k1 k2 hb td (by rw [cells_len]; decide) tn ti hp).mono ?_
    rintro e w' ⟨rfl, g'⟩
    exact ⟨rfl, Fr.ofNone g'⟩
  | some p =>
    have ht : tk .cookie (d, L, r) = some ({ d with cookie := ba p.1 }, p.2, r) := by simp only [tk, hp]; rfl
    rw [ht]
    refine (fixed1_ok 138 3 32 db ib rb B b1 b2 d.cells L r W p90 k1 k2 hb td (by rw [cells_len]; decide) tn ti p hp).mono ?_
    rintro e w' ⟨rfl, hd', hi', hf'⟩
    exact ⟨⟨rfl, hd', hi', tn, Nat.le_trans (len_of hp) tl⟩, hf'.mono (fun i e => .inl (e.elim .inl (fun q => .inr (.inr q))))⟩
set_option maxHeartbeats 4000000 in
set_option maxRecDepth 100000 in
theorem tk_tag (w : World) (b1 b2 : Nat) (h1 : Has w b1 [.int .i64 (32 : Nat)] 3) (h2 : Has w b2 [fv 143] 186) : TakeC w .tag 180 #[pv b1, pv b2] := by
  refine ⟨en118, fun W db ib rb B s g l1 l2 l3 t => ?_⟩
  obtain ⟨d, L, r⟩ := s
  obtain ⟨td, ti, tn, tl⟩ := t
  dsimp only at td ti tl
  show Calls Tryz.prog 180 #[pv db, pv ib, pv b1, pv b2] W _
  have k1 := h1.kept g (by simp)
  have k2 := h2.kept g (by simp)
  have hb : b1 ≠ rb ∧ b2 ≠ rb ∧ b1 ≠ db ∧ b2 ≠ db := by have := h1.lt; have := h2.lt; omega
  cases hp : need L 32 with
  | none =>
    have ht : tk .tag (d, L, r) = none := by simp only [tk, hp]; rfl
    rw [ht]
    refine (fixed1_no 143 14 32 db ib rb B b1 b2 d.cells L r W p95 k1 k2 hb td (by rw [cells_len]; decide) tn ti hp).mono ?_
    rintro e w' ⟨rfl, g'⟩
    exact ⟨rfl, Fr.ofNone g'⟩
  | some p =>
    have ht : tk .tag (d, L, r) = some ({ d with tag := ba p.1 }, p.2, r) := by simp only [tk, hp]; rfl
    rw [ht]
    refine (fixed1_ok 143 14 32 db ib rb B b1 b2 d.cells L r W p95 k1 k2 hb td (by rw [cells_len]; decide) tn ti p hp).mono ?_
    rintro e w' ⟨rfl, hd', hi', hf'⟩
    exact ⟨⟨rfl, hd', hi', tn, Nat.le_trans (len_of hp) tl⟩, hf'.mono (fun i e => .inl (e.elim .inl (fun q => .inr (.inr q))))⟩
set_option maxHeartbeats 4000000 in
set_option maxRecDepth 100000 in
theorem tk_epoch (w : World) (b1 : Nat) (h1 : Has w b1 [fv 137] 191) : TakeC w .epoch 185 #[pv b1] := by
  refine ⟨en123, fun W db ib rb B s g l1 l2 l3 t => ?_⟩
  obtain ⟨d, L, r⟩ := s
  obtain ⟨td, ti, tn, tl⟩ := t
  dsimp only at td ti tl
  show Calls Tryz.prog 185 #[pv db, pv ib, pv b1] W _
  have k1 := h1.kept g (by simp)
  cases hp : need L 8 with
  | none =>
    have ht : tk .epoch (d, L, r) = none := by simp only [tk, hp]; rfl
    rw [ht]
    refine (long1_no 137 2 db ib rb B b1 L r W p89 k1 ti hp).mono ?_
    rintro e w' ⟨rfl, g'⟩
    exact ⟨rfl, Fr.ofNone g'⟩
  | some p =>
    have ht : tk .epoch (d, L, r) = some ({ d with epoch := val p.1 }, p.2, r) := by simp only [tk, hp]; rfl
    rw [ht]
    refine (long1_ok 137 2 db ib rb B b1 d.cells L r W p89 k1 td (by rw [cells_len]; decide) tn ti p hp).mono ?_
    rintro e w' ⟨rfl, hd', hi', hf'⟩
    exact ⟨⟨rfl, hd', hi', tn, Nat.le_trans (len_of hp) tl⟩, hf'.mono (fun i e => .inl (e.elim .inl (fun q => .inr (.inr q))))⟩
set_option maxHeartbeats 4000000 in
set_option maxRecDepth 100000 in
theorem tk_session (w : World) (b1 : Nat) (h1 : Has w b1 [fv 144] 191) : TakeC w .session 185 #[pv b1] := by
  refine ⟨en123, fun W db ib rb B s g l1 l2 l3 t => ?_⟩
  obtain ⟨d, L, r⟩ := s
  obtain ⟨td, ti, tn, tl⟩ := t
  dsimp only at td ti tl
  show Calls Tryz.prog 185 #[pv db, pv ib, pv b1] W _
  have k1 := h1.kept g (by simp)
  cases hp : need L 8 with
  | none =>
    have ht : tk .session (d, L, r) = none := by simp only [tk, hp]; rfl
    rw [ht]
    refine (long1_no 144 5 db ib rb B b1 L r W p96 k1 ti hp).mono ?_
    rintro e w' ⟨rfl, g'⟩
    exact ⟨rfl, Fr.ofNone g'⟩
  | some p =>
    have ht : tk .session (d, L, r) = some ({ d with session := val p.1 }, p.2, r) := by simp only [tk, hp]; rfl
    rw [ht]
    refine (long1_ok 144 5 db ib rb B b1 d.cells L r W p96 k1 td (by rw [cells_len]; decide) tn ti p hp).mono ?_
    rintro e w' ⟨rfl, hd', hi', hf'⟩
    exact ⟨⟨rfl, hd', hi', tn, Nat.le_trans (len_of hp) tl⟩, hf'.mono (fun i e => .inl (e.elim .inl (fun q => .inr (.inr q))))⟩
set_option maxHeartbeats 4000000 in
set_option maxRecDepth 100000 in
theorem tk_seq (w : World) (b1 : Nat) (h1 : Has w b1 [fv 150] 191) : TakeC w .seq 185 #[pv b1] := by
  refine ⟨en123, fun W db ib rb B s g l1 l2 l3 t => ?_⟩
  obtain ⟨d, L, r⟩ := s
  obtain ⟨td, ti, tn, tl⟩ := t
  dsimp only at td ti tl
  show Calls Tryz.prog 185 #[pv db, pv ib, pv b1] W _
  have k1 := h1.kept g (by simp)
  cases hp : need L 8 with
  | none =>
    have ht : tk .seq (d, L, r) = none := by simp only [tk, hp]; rfl
    rw [ht]
    refine (long1_no 150 8 db ib rb B b1 L r W p102 k1 ti hp).mono ?_
    rintro e w' ⟨rfl, g'⟩
    exact ⟨rfl, Fr.ofNone g'⟩
  | some p =>
    have ht : tk .seq (d, L, r) = some ({ d with seq := val p.1 }, p.2, r) := by simp only [tk, hp]; rfl
    rw [ht]
    refine (long1_ok 150 8 db ib rb B b1 d.cells L r W p102 k1 td (by rw [cells_len]; decide) tn ti p hp).mono ?_
    rintro e w' ⟨rfl, hd', hi', hf'⟩
    exact ⟨⟨rfl, hd', hi', tn, Nat.le_trans (len_of hp) tl⟩, hf'.mono (fun i e => .inl (e.elim .inl (fun q => .inr (.inr q))))⟩
set_option maxHeartbeats 4000000 in
set_option maxRecDepth 100000 in
theorem tk_thr (w : World) (b1 : Nat) (h1 : Has w b1 [fv 152] 194) : TakeC w .thr 190 #[pv b1] := by
  refine ⟨en128, fun W db ib rb B s g l1 l2 l3 t => ?_⟩
  obtain ⟨d, L, r⟩ := s
  obtain ⟨td, ti, tn, tl⟩ := t
  dsimp only at td ti tl
  show Calls Tryz.prog 190 #[pv db, pv ib, pv b1] W _
  have k1 := h1.kept g (by simp)
  cases hp : need L 1 with
  | none =>
    have ht : tk .thr (d, L, r) = none := by simp only [tk, hp]; rfl
    rw [ht]
    refine (lever1_no 152 9 db ib rb B b1 L r W p104 k1 ti hp).mono ?_
    rintro e w' ⟨rfl, g'⟩
    exact ⟨rfl, Fr.ofNone g'⟩
  | some p =>
    have ht : tk .thr (d, L, r) = some ({ d with thr := sval p.1 }, p.2, r) := by simp only [tk, hp]; rfl
    rw [ht]
    refine (lever1_ok 152 9 db ib rb B b1 d.cells L r W p104 k1 td (by rw [cells_len]; decide) tn ti p hp).mono ?_
    rintro e w' ⟨rfl, hd', hi', hf'⟩
    exact ⟨⟨rfl, hd', hi', tn, Nat.le_trans (len_of hp) tl⟩, hf'.mono (fun i e => .inl (e.elim .inl (fun q => .inr (.inr q))))⟩
set_option maxHeartbeats 4000000 in
set_option maxRecDepth 100000 in
theorem tk_turn (w : World) (b1 : Nat) (h1 : Has w b1 [fv 153] 194) : TakeC w .turn 190 #[pv b1] := by
  refine ⟨en128, fun W db ib rb B s g l1 l2 l3 t => ?_⟩
  obtain ⟨d, L, r⟩ := s
  obtain ⟨td, ti, tn, tl⟩ := t
  dsimp only at td ti tl
  show Calls Tryz.prog 190 #[pv db, pv ib, pv b1] W _
  have k1 := h1.kept g (by simp)
  cases hp : need L 1 with
  | none =>
    have ht : tk .turn (d, L, r) = none := by simp only [tk, hp]; rfl
    rw [ht]
    refine (lever1_no 153 10 db ib rb B b1 L r W p105 k1 ti hp).mono ?_
    rintro e w' ⟨rfl, g'⟩
    exact ⟨rfl, Fr.ofNone g'⟩
  | some p =>
    have ht : tk .turn (d, L, r) = some ({ d with turn := sval p.1 }, p.2, r) := by simp only [tk, hp]; rfl
    rw [ht]
    refine (lever1_ok 153 10 db ib rb B b1 d.cells L r W p105 k1 td (by rw [cells_len]; decide) tn ti p hp).mono ?_
    rintro e w' ⟨rfl, hd', hi', hf'⟩
    exact ⟨⟨rfl, hd', hi', tn, Nat.le_trans (len_of hp) tl⟩, hf'.mono (fun i e => .inl (e.elim .inl (fun q => .inr (.inr q))))⟩
set_option maxHeartbeats 4000000 in
set_option maxRecDepth 100000 in
theorem tk_player (w : World) : TakeC w .player 145 #[] := by
  refine ⟨en97, fun W db ib rb B s g l1 l2 l3 t => ?_⟩
  obtain ⟨d, L, r⟩ := s
  obtain ⟨td, ti, tn, tl⟩ := t
  dsimp only at td ti tl
  show Calls Tryz.prog 145 #[pv db, pv ib] W _
  cases hp : need L 1 with
  | none =>
    have ht : tk .player (d, L, r) = none := by simp only [tk, hp]; rfl
    rw [ht]
    refine (player1_no db ib rb B L r W ti hp).mono ?_
    rintro e w' ⟨rfl, g'⟩
    exact ⟨rfl, Fr.ofNone g'⟩
  | some p =>
    have ht : tk .player (d, L, r) = some ({ d with player := (val p.1 : Nat) }, p.2, r) := by simp only [tk, hp]; rfl
    rw [ht]
    refine (player1_ok db ib rb B d.cells L r W td rfl tn ti p hp).mono ?_
    rintro e w' ⟨rfl, hd', hi', hf'⟩
    exact ⟨⟨rfl, hd', hi', tn, Nat.le_trans (len_of hp) tl⟩, hf'.mono (fun i e => .inl (e.elim .inl (fun q => .inr (.inr q))))⟩
set_option maxHeartbeats 4000000 in
set_option maxRecDepth 100000 in
theorem tk_view (w : World) : TakeC w .view 156 #[] := by
  refine ⟨en108, fun W db ib rb B s g l1 l2 l3 t => ?_⟩
  obtain ⟨d, L, r⟩ := s
  obtain ⟨td, ti, tn, tl⟩ := t
  dsimp only at td ti tl
  show Calls Tryz.prog 156 #[pv db, pv ib] W _
  cases hp : need L ((L.length : Int) - 32) with
  | none =>
    have ht : tk .view (d, L, r) = none := by simp only [tk, hp]; rfl
    rw [ht]
    refine (view1_no db ib rb B L r W ti tl hp).mono ?_
    rintro e w' ⟨rfl, g'⟩
    exact ⟨rfl, Fr.ofNone g'⟩
  | some p =>
    have ht : tk .view (d, L, r) = some ({ d with data := ba p.1 }, p.2, r) := by simp only [tk, hp]; rfl
    rw [ht]
    refine (view1_ok db ib rb B d.cells L r W td rfl tn ti tl p hp).mono ?_
    rintro e w' ⟨rfl, hd', hi', hf'⟩
    exact ⟨⟨rfl, hd', hi', tn, Nat.le_trans (len_of hp) tl⟩, hf'.mono (fun i e => .inl (e.elim .inl (fun q => .inr (.inr q))))⟩
set_option maxHeartbeats 4000000 in
set_option maxRecDepth 100000 in
theorem tk_flags (w : World) : TakeC w .flags 154 #[] := by
  refine ⟨en106, fun W db ib rb B s g l1 l2 l3 t => ?_⟩
  obtain ⟨d, L, r⟩ := s
  obtain ⟨td, ti, tn, tl⟩ := t
  dsimp only at td ti tl
  show Calls Tryz.prog 154 #[pv db, pv ib] W _
  cases hp : need L 1 with
  | none =>
    have ht : tk .flags (d, L, r) = none := by simp only [tk, hp]; rfl
    rw [ht]
    refine (flags1_no db ib rb B L r W ti hp).mono ?_
    rintro e w' ⟨rfl, g'⟩
    exact ⟨rfl, Fr.ofNone g'⟩
  | some p =>
    have ht : tk .flags (d, L, r) = some ({ d with fire := decide (val p.1 % 2 = 1), boost := decide (val p.1 / 2 % 2 = 1) }, p.2, r || !decide (val p.1 ≤ 3)) := by simp only [tk, hp]; rfl
    rw [ht]
    refine (flags1_ok db ib rb B d.cells L r W td rfl tn ti p hp).mono ?_
    rintro e w' ⟨rfl, hd', hi', hf'⟩
    exact ⟨⟨rfl, hd', hi', tn, Nat.le_trans (len_of hp) tl⟩, hf'.mono (fun i e => .inl e)⟩
set_option maxHeartbeats 4000000 in
set_option maxRecDepth 100000 in
theorem tk_zeros (w : World) (zb : Nat) (hz : Has w zb [.string (ba zero76)] 9) : TakeC w .zeros 132 #[pv zb] := by
  refine ⟨en84, fun W db ib rb B s g l1 l2 l3 t => ?_⟩
  obtain ⟨d, L, r⟩ := s
  obtain ⟨td, ti, tn, tl⟩ := t
  dsimp only at td ti tl
  show Calls Tryz.prog 132 #[pv db, pv ib, pv zb] W _
  have k1 := hz.kept g (by simp)
  have hb : zb ≠ rb ∧ zb ≠ ib := by have := hz.lt; omega
  have hzd : zb ≠ db := by have := hz.lt; omega
  cases hp : need L 76 with
  | none =>
    have ht : tk .zeros (d, L, r) = none := by simp only [tk, hp]; rfl
    rw [ht]
    refine (zeros1_no db ib rb B zb L r W k1 hb ti hp).mono ?_
    rintro e w' ⟨rfl, g'⟩
    exact ⟨rfl, Fr.ofNone g'⟩
  | some p =>
    have ht : tk .zeros (d, L, r) = some (d, p.2, r || !decide (p.1 = zero76)) := by simp only [tk, hp]; rfl
    rw [ht]
    refine (zeros1_ok db ib rb B zb L r W k1 hb ti p hp).mono ?_
    rintro e w' ⟨rfl, hi', hf'⟩
    have hd' := td.fr hf' (by simp; omega)
    exact ⟨⟨rfl, hd', hi', tn, Nat.le_trans (len_of hp) tl⟩, hf'.mono (fun i e => .inl (.inr e))⟩
set_option maxHeartbeats 4000000 in
set_option maxRecDepth 100000 in
theorem tk_name (w : World) : TakeC w .name 139 #[] := by
  refine ⟨en91, fun W db ib rb B s g l1 l2 l3 t => ?_⟩
  obtain ⟨d, L, r⟩ := s
  obtain ⟨td, ti, tn, tl⟩ := t
  dsimp only at td ti tl
  show Calls Tryz.prog 139 #[pv db, pv ib] W _
  cases hb : ((need L 1).bind fun p => need p.2 (val p.1 : Nat)) with
  | none =>
    have ht : tk .name (d, L, r) = none := by
      simp only [tk]
      cases hp : need L 1 with
      | none => rfl
      | some p =>
        rw [hp] at hb
        simp only [Option.bind_some] at hb ⊢
        rw [hb]; rfl
    rw [ht]
    refine (name1_no db ib rb B L r W ti hb).mono ?_
    rintro e w' ⟨rfl, g'⟩
    exact ⟨rfl, g'.mono (fun i e => .inl (.inr (.inr e)))⟩
  | some q =>
    obtain ⟨p, hp, hq⟩ := Option.bind_eq_some_iff.1 hb
    have ht : tk .name (d, L, r) = some ({ d with name := ba q.1 }, q.2, r) := by simp only [tk, hp, Option.bind_some, hq]; rfl
    rw [ht]
    refine (name1_ok db ib rb B d.cells L r W td rfl tn ti p q hp hq).mono ?_
    rintro e w' ⟨rfl, hd', hi', hf'⟩
    exact ⟨⟨rfl, hd', hi', tn, Nat.le_trans (len_of hq) (Nat.le_trans (len_of hp) tl)⟩, hf'.mono (fun i e => .inl (e.elim .inl (fun q => .inr (.inr q))))⟩
end Go.Proofs.YtldnpebnpbahjaaGreatDoor.Pk
