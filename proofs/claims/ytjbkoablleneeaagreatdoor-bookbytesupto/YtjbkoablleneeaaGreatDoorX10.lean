import Derived.Test.YtjbkoablleneeaaGreatDoorX5
/- ledgers as bytes, over lists. -/
namespace Go.Proofs.YtjbkoablleneeaaGreatDoor.Pk
/-- an entry of a ledger -/
structure En where
  kind : Int
  tick : Nat
  ses : Nat
  player : Int
  nm : List UInt8
  fr : List UInt8
  seq : Nat
  dat : List UInt8
deriving DecidableEq
structure En.Ok (e : En) : Prop where
  k1 : -9223372036854775808 ≤ e.kind
  k2 : e.kind < 9223372036854775808
  t : e.tick < 18446744073709551616
  s : e.ses < 18446744073709551616
  p1 : -9223372036854775808 ≤ e.player
  p2 : e.player < 9223372036854775808
  q : e.seq < 18446744073709551616
def En.fits (e : En) : Prop := 0 ≤ e.kind ∧ e.kind < 256 ∧ 0 ≤ e.player ∧ e.player < 256 ∧ e.nm.length < 256 ∧ e.fr.length < 65536 ∧ e.dat.length < 65536
instance (e : En) : Decidable e.fits := by unfold En.fits; infer_instance
def En.enc (e : En) : List UInt8 := be 1 e.kind.toNat ++ (be 8 e.tick ++ (be 8 e.ses ++ (be 1 e.player.toNat ++ (be 1 e.nm.length ++ (e.nm ++ (be 2 e.fr.length ++ (e.fr ++ (be 8 e.seq ++ (be 2 e.dat.length ++ e.dat)))))))))
def wEnt (st : WS) (e : En) : WS := wBytes (wNum (wNum (wBytes (wNum (wText (wNum (wNum (wNum (wNum st (u64 e.kind) 1) e.tick 8) e.ses 8) (u64 e.player) 1) e.nm) e.fr.length 2) e.fr) e.seq 8) e.dat.length 2) e.dat
theorem wNum_none (x : Nat) (size : Int) : wNum none x size = none := by unfold wNum; split <;> rfl
theorem wText_none (s : List UInt8) : wText none s = none := by unfold wText; split <;> rfl
theorem wBytes_none (s : List UInt8) : wBytes none s = none := rfl
theorem wNum_some (T : List UInt8) (x : Nat) (size k : Nat) (hk : size = k) (h1 : 1 ≤ k) (h8 : k ≤ 8) (h : x < 256 ^ k) : wNum (some T) x (size : Int) = some (T ++ be k x) := by
  subst hk
  unfold wNum
  rw [if_pos ⟨⟨by omega, by omega⟩, by simpa using h⟩]
  simp
theorem wNum_big (st : WS) (x : Nat) (size k : Nat) (hk : size = k) (h : ¬ x < 256 ^ k) : wNum st x (size : Int) = none := by
  subst hk
  unfold wNum
  rw [if_neg (fun q => h (by simpa using q.2))]
theorem wText_some (T s : List UInt8) (h : s.length < 256) : wText (some T) s = some (T ++ (be 1 s.length ++ s)) := by
  unfold wText
  rw [if_pos (by omega)]
  simp [be]
theorem wText_big (st : WS) (s : List UInt8) (h : ¬ s.length < 256) : wText st s = none := by
  unfold wText; rw [if_neg (by omega)]
theorem u64_neg (x : Int) (h1 : -9223372036854775808 ≤ x) (h2 : x < 9223372036854775808) (h : ¬ (0 ≤ x ∧ x < 256)) : ¬ u64 x < 256 ^ 1 := by
  unfold u64; omega
theorem u64_pos (x : Int) (h1 : 0 ≤ x) (h2 : x < 256) : u64 x = x.toNat := by unfold u64; omega
theorem wEnt_none (e : En) : wEnt none e = none := by
  unfold wEnt; simp [wNum_none, wText_none, wBytes_none]
theorem wEnt_eq (T : List UInt8) (e : En) (h : e.Ok) : wEnt (some T) e = if e.fits then some (T ++ e.enc) else none := by
  have o1 : wNum (some T) (u64 e.kind) 1 = if 0 ≤ e.kind ∧ e.kind < 256 then some (T ++ be 1 e.kind.toNat) else none := by
    split
    · rename_i hk; rw [u64_pos _ hk.1 hk.2]; exact wNum_some T _ 1 1 rfl (by omega) (by omega) (by omega)
    · rename_i hk; exact wNum_big _ _ 1 1 rfl (u64_neg _ h.k1 h.k2 hk)
  have o4 : ∀ T, wNum (some T) (u64 e.player) 1 = if 0 ≤ e.player ∧ e.player < 256 then some (T ++ be 1 e.player.toNat) else none := by
    intro T
    split
    · rename_i hk; rw [u64_pos _ hk.1 hk.2]; exact wNum_some T _ 1 1 rfl (by omega) (by omega) (by omega)
    · rename_i hk; exact wNum_big _ _ 1 1 rfl (u64_neg _ h.p1 h.p2 hk)
  have o8 : ∀ T x, x < 18446744073709551616 → wNum (some T) x 8 = some (T ++ be 8 x) := fun T x hx => wNum_some T x 8 8 rfl (by omega) (by omega) (by omega)
  have o2 : ∀ T x, wNum (some T) x 2 = if x < 65536 then some (T ++ be 2 x) else none := by
    intro T x
    split
    · exact wNum_some T x 2 2 rfl (by omega) (by omega) (by omega)
    · exact wNum_big _ x 2 2 rfl (by omega)
  unfold wEnt
  rw [o1]
  by_cases hk : 0 ≤ e.kind ∧ e.kind < 256
  rotate_left
  · rw [if_neg hk, if_neg (fun q => hk ⟨q.1, q.2.1⟩)]; simp [wNum_none, wText_none, wBytes_none]
  rw [if_pos hk, o8 _ _ h.t, o8 _ _ h.s, o4]
  by_cases hp : 0 ≤ e.player ∧ e.player < 256
  rotate_left
  · rw [if_neg hp, if_neg (fun q => hp ⟨q.2.2.1, q.2.2.2.1⟩)]; simp [wNum_none, wText_none, wBytes_none]
  rw [if_pos hp]
  by_cases hn : e.nm.length < 256
  rotate_left
  · rw [wText_big _ _ hn, if_neg (fun q => hn q.2.2.2.2.1)]; simp [wNum_none, wBytes_none]
  rw [wText_some _ _ hn, o2]
  by_cases hf : e.fr.length < 65536
  rotate_left
  · rw [if_neg hf, if_neg (fun q => hf q.2.2.2.2.2.1)]; simp [wNum_none, wBytes_none]
  rw [if_pos hf]
  show wBytes (wNum (wNum (some _) e.seq 8) e.dat.length 2) e.dat = _
  rw [o8 _ _ h.q, o2]
  by_cases hd : e.dat.length < 65536
  rotate_left
  · rw [if_neg hd, if_neg (fun q => hd q.2.2.2.2.2.2)]; rfl
  rw [if_pos hd, if_pos ⟨hk.1, hk.2, hp.1, hp.2, hn, hf, hd⟩]
  simp [wBytes, En.enc, List.append_assoc]
def encs (l : List En) : List UInt8 := (l.map En.enc).flatten
theorem wAll_none (l : List En) : l.foldl wEnt none = none := by
  induction l with
  | nil => rfl
  | cons e r ih => rw [List.foldl_cons, wEnt_none, ih]
theorem wAll_eq (l : List En) (h : ∀ e ∈ l, e.Ok) (T : List UInt8) : l.foldl wEnt (some T) = if ∀ e ∈ l, e.fits then some (T ++ encs l) else none := by
  induction l generalizing T with
  | nil => simp [encs]
  | cons e r ih =>
    rw [List.foldl_cons, wEnt_eq _ _ (h e (by simp))]
    by_cases he : e.fits
    · rw [if_pos he, ih (fun x hx => h x (by simp [hx]))]
      by_cases hr : ∀ x ∈ r, x.fits
      · rw [if_pos hr, if_pos (by intro x hx; cases List.mem_cons.1 hx with | inl q => exact q ▸ he | inr q => exact hr x q)]
        simp [encs]
      · rw [if_neg hr, if_neg (fun q => hr (fun x hx => q x (by simp [hx])))]
    · rw [if_neg he, wAll_none, if_neg (fun q => he (q e (by simp)))]
def magic : List UInt8 := [74, 66, 48, 49]
def wBody (l : List En) : WS := l.foldl wEnt (wNum (wBytes (some []) magic) l.length 4)
theorem wBody_eq (l : List En) (h : ∀ e ∈ l, e.Ok) (hl : l.length < 4294967296) : wBody l = if ∀ e ∈ l, e.fits then some (magic ++ (be 4 l.length ++ encs l)) else none := by
  unfold wBody
  have e : wNum (wBytes (some []) magic) l.length 4 = some (magic ++ be 4 l.length) := wNum_some _ _ 4 4 rfl (by omega) (by omega) (by omega)
  rw [e, wAll_eq _ h]
  simp only [List.append_assoc]
/-- an entry taken -/
def rEnt (st : RS) : En × RS :=
  let a := rNum st 1
  let b := rNum a.2 8
  let c := rNum b.2 8
  let d := rNum c.2 1
  let f := rText d.2
  let g := rNum f.2 2
  let h := rTake g.2 g.1
  let i := rNum h.2 8
  let j := rNum i.2 2
  let k := rTake j.2 j.1
  (⟨a.1, b.1, c.1, d.1, f.1, h.1, i.1, k.1⟩, k.2)
/-- a reader without an error, or one that ended -/
def Sh (st : RS) : Prop := st.2 = 0 ∨ st = ([], 50)
theorem rTake_sh {st : RS} (h : Sh st) (n : Nat) : Sh (rTake st n).2 := by
  unfold rTake
  rw [if_neg (by omega)]
  rcases h with h | rfl
  · split
    · right; simp [RS.fail, h]
    · left; exact h
  · split
    · right; rfl
    · right; simp
theorem rTake_in {st : RS} (h : Sh st) (n : Nat) (x : List UInt8) (R : List UInt8) (e : rTake st n = (x, (R, 0))) : st = (x ++ R, 0) ∧ x.length = n := by
  unfold rTake at e
  rw [if_neg (by omega)] at e
  split at e
  · exfalso
    simp only [Prod.mk.injEq, RS.fail] at e
    rcases h with h | rfl
    · rw [if_pos h] at e; omega
    · revert e; simp
  · simp only [Prod.mk.injEq] at e
    obtain ⟨e1, e2, e3⟩ := e
    refine ⟨Prod.ext ?_ e3, ?_⟩
    · rw [← e1, ← e2]; simp
    · rw [← e1]; simp; omega
theorem rTake_out (x R : List UInt8) (n : Nat) (h : x.length = n) : rTake (x ++ R, 0) n = (x, (R, 0)) := by
  unfold rTake
  rw [if_neg (by omega), if_neg (by simp; omega)]
  subst h
  simp
theorem rNum_eq (st : RS) (s : Int) (k : Nat) (hs : s = k) (h1 : 1 ≤ k) (h8 : k ≤ 8) : rNum st s = (val (rTake st k).1, (rTake st k).2) := by
  subst hs; unfold rNum rNumL; rw [if_pos ⟨by omega, by omega⟩]
theorem rNum_sh {st : RS} (h : Sh st) (s : Int) (k : Nat) (hs : s = k) (h1 : 1 ≤ k) (h8 : k ≤ 8) : Sh (rNum st s).2 := by
  rw [rNum_eq st s k hs h1 h8]; exact rTake_sh h k
theorem rNum_in {st : RS} (h : Sh st) (s : Int) (k : Nat) (hs : s = k) (h1 : 1 ≤ k) (h8 : k ≤ 8) (x : Nat) (R : List UInt8) (e : rNum st s = (x, (R, 0))) : st = (be k x ++ R, 0) ∧ x < 256 ^ k := by
  rw [rNum_eq st s k hs h1 h8] at e
  simp only [Prod.mk.injEq] at e
  obtain ⟨e1, e2⟩ := e
  obtain ⟨q1, q2⟩ := rTake_in h k (rTake st k).1 R (Prod.ext rfl e2)
  have q3 := be_val (rTake st k).1
  rw [q2, e1] at q3
  refine ⟨by rw [q3]; exact q1, ?_⟩
  have := val_lt (rTake st k).1
  rw [q2, e1] at this
  exact this
theorem rNum_out (R : List UInt8) (s : Int) (k x : Nat) (hs : s = k) (h1 : 1 ≤ k) (h8 : k ≤ 8) (hx : x < 256 ^ k) : rNum (be k x ++ R, 0) s = (x, (R, 0)) := by
  rw [rNum_eq _ s k hs h1 h8, rTake_out _ _ k (be_len k x), val_be, Nat.mod_eq_of_lt hx]
theorem rText_sh {st : RS} (h : Sh st) : Sh (rText st).2 := rTake_sh (rNum_sh h 1 1 rfl (by omega) (by omega)) _
theorem rText_in {st : RS} (h : Sh st) (x R : List UInt8) (e : rText st = (x, (R, 0))) : st = (be 1 x.length ++ (x ++ R), 0) ∧ x.length < 256 := by
  unfold rText at e
  have hs := rNum_sh h 1 1 rfl (by omega) (by omega)
  generalize hq : rNum st 1 = q at e hs
  obtain ⟨v, s1⟩ := q
  obtain ⟨q1, q2⟩ := rTake_in hs v x R e
  subst q1
  obtain ⟨q3, q4⟩ := rNum_in h 1 1 rfl (by omega) (by omega) _ (x ++ R) hq
  rw [q2]
  exact ⟨q3, q4⟩
theorem rText_out (x R : List UInt8) (h : x.length < 256) : rText (be 1 x.length ++ (x ++ R), 0) = (x, (R, 0)) := by
  unfold rText
  rw [rNum_out _ 1 1 _ rfl (by omega) (by omega) (by omega)]
  exact rTake_out x R _ rfl
theorem rEnt_mk {st s1 s2 s3 s4 s5 s6 s7 s8 s9 s10 : RS} {a b c d g q j : Nat} {n f k : List UInt8} (h1 : rNum st 1 = (a, s1)) (h2 : rNum s1 8 = (b, s2)) (h3 : rNum s2 8 = (c, s3)) (h4 : rNum s3 1 = (d, s4)) (h5 : rText s4 = (n, s5)) (h6 : rNum s5 2 = (g, s6)) (h7 : rTake s6 g = (f, s7)) (h8 : rNum s7 8 = (q, s8)) (h9 : rNum s8 2 = (j, s9)) (h10 : rTake s9 j = (k, s10)) : rEnt st = ((⟨a, b, c, d, n, f, q, k⟩ : En), s10) := by
  unfold rEnt
  simp only [h1, h2, h3, h4, h5, h6, h7, h8, h9, h10]
theorem rEnt_split (st : RS) : ∃ a s1 b s2 c s3 d s4 n s5 g s6 f s7 q s8 j s9 k s10, rNum st 1 = (a, s1) ∧ rNum s1 8 = (b, s2) ∧ rNum s2 8 = (c, s3) ∧ rNum s3 1 = (d, s4) ∧ rText s4 = (n, s5) ∧ rNum s5 2 = (g, s6) ∧ rTake s6 (g : Nat) = (f, s7) ∧ rNum s7 8 = (q, s8) ∧ rNum s8 2 = (j, s9) ∧ rTake s9 (j : Nat) = (k, s10) ∧ rEnt st = ((⟨(a : Nat), b, c, (d : Nat), n, f, q, k⟩ : En), s10) := by
  rcases h1 : rNum st 1 with ⟨a, s1⟩
  rcases h2 : rNum s1 8 with ⟨b, s2⟩
  rcases h3 : rNum s2 8 with ⟨c, s3⟩
  rcases h4 : rNum s3 1 with ⟨d, s4⟩
  rcases h5 : rText s4 with ⟨n, s5⟩
  rcases h6 : rNum s5 2 with ⟨g, s6⟩
  rcases h7 : rTake s6 (g : Nat) with ⟨f, s7⟩
  rcases h8 : rNum s7 8 with ⟨q, s8⟩
  rcases h9 : rNum s8 2 with ⟨j, s9⟩
  rcases h10 : rTake s9 (j : Nat) with ⟨k, s10⟩
  exact ⟨a, s1, b, s2, c, s3, d, s4, n, s5, g, s6, f, s7, q, s8, j, s9, k, s10, rfl, h2, h3, h4, h5, h6, h7, h8, h9, h10, rEnt_mk h1 h2 h3 h4 h5 h6 h7 h8 h9 h10⟩
theorem rEnt_sh {st : RS} (h : Sh st) : Sh (rEnt st).2 := by
  obtain ⟨a, s1, b, s2, c, s3, d, s4, n, s5, g, s6, f, s7, q, s8, j, s9, k, s10, h1, h2, h3, h4, h5, h6, h7, h8, h9, h10, h11⟩ := rEnt_split st
  have e1 := rNum_sh h 1 1 rfl (by omega) (by omega); rw [h1] at e1
  have e2 := rNum_sh e1 8 8 rfl (by omega) (by omega); rw [h2] at e2
  have e3 := rNum_sh e2 8 8 rfl (by omega) (by omega); rw [h3] at e3
  have e4 := rNum_sh e3 1 1 rfl (by omega) (by omega); rw [h4] at e4
  have e5 := rText_sh e4; rw [h5] at e5
  have e6 := rNum_sh e5 2 2 rfl (by omega) (by omega); rw [h6] at e6
  have e7 := rTake_sh e6 g; rw [h7] at e7
  have e8 := rNum_sh e7 8 8 rfl (by omega) (by omega); rw [h8] at e8
  have e9 := rNum_sh e8 2 2 rfl (by omega) (by omega); rw [h9] at e9
  have e10 := rTake_sh e9 j; rw [h10] at e10
  rw [h11]; exact e10
theorem rEnt_out (e : En) (R : List UInt8) (h : e.Ok) (hf : e.fits) : rEnt (e.enc ++ R, 0) = (e, (R, 0)) := by
  obtain ⟨f1, f2, f3, f4, f5, f6, f7⟩ := hf
  have n1 : ∀ R x, x < 256 → rNum (be 1 x ++ R, 0) 1 = (x, (R, 0)) := fun R x hx => rNum_out R 1 1 x rfl (by omega) (by omega) (by omega)
  have n2 : ∀ R x, x < 65536 → rNum (be 2 x ++ R, 0) 2 = (x, (R, 0)) := fun R x hx => rNum_out R 2 2 x rfl (by omega) (by omega) (by omega)
  have n8 : ∀ R x, x < 18446744073709551616 → rNum (be 8 x ++ R, 0) 8 = (x, (R, 0)) := fun R x hx => rNum_out R 8 8 x rfl (by omega) (by omega) (by omega)
  have e0 : e.enc ++ R = be 1 e.kind.toNat ++ (be 8 e.tick ++ (be 8 e.ses ++ (be 1 e.player.toNat ++ (be 1 e.nm.length ++ (e.nm ++ (be 2 e.fr.length ++ (e.fr ++ (be 8 e.seq ++ (be 2 e.dat.length ++ (e.dat ++ R)))))))))) := by
    simp only [En.enc, List.append_assoc]
  rw [e0, rEnt_mk (n1 _ _ (by omega)) (n8 _ _ h.t) (n8 _ _ h.s) (n1 _ _ (by omega)) (rText_out _ _ f5) (n2 _ _ f6) (rTake_out _ _ _ rfl) (n8 _ _ h.q) (n2 _ _ f7) (rTake_out _ _ _ rfl)]
  rw [Int.toNat_of_nonneg f1, Int.toNat_of_nonneg f3]
theorem rEnt_in {st : RS} (h : Sh st) (e : En) (R : List UInt8) (q : rEnt st = (e, (R, 0))) : st = (e.enc ++ R, 0) ∧ e.Ok ∧ e.fits := by
  obtain ⟨a, s1, b, s2, c, s3, d, s4, n, s5, g, s6, f, s7, u, s8, j, s9, k, s10, h1, h2, h3, h4, h5, h6, h7, h8, h9, h10, h11⟩ := rEnt_split st
  have e1 := rNum_sh h 1 1 rfl (by omega) (by omega); rw [h1] at e1
  have e2 := rNum_sh e1 8 8 rfl (by omega) (by omega); rw [h2] at e2
  have e3 := rNum_sh e2 8 8 rfl (by omega) (by omega); rw [h3] at e3
  have e4 := rNum_sh e3 1 1 rfl (by omega) (by omega); rw [h4] at e4
  have e5 := rText_sh e4; rw [h5] at e5
  have e6 := rNum_sh e5 2 2 rfl (by omega) (by omega); rw [h6] at e6
  have e7 := rTake_sh e6 g; rw [h7] at e7
  have e8 := rNum_sh e7 8 8 rfl (by omega) (by omega); rw [h8] at e8
  have e9 := rNum_sh e8 2 2 rfl (by omega) (by omega); rw [h9] at e9
  rw [q] at h11
  obtain ⟨hE, hs⟩ := Prod.mk.inj h11
  subst hE
  subst hs
  obtain ⟨rfl, l10⟩ := rTake_in e9 j k R h10
  obtain ⟨rfl, l9⟩ := rNum_in e8 2 2 rfl (by omega) (by omega) j _ h9
  obtain ⟨rfl, l8⟩ := rNum_in e7 8 8 rfl (by omega) (by omega) u _ h8
  obtain ⟨rfl, l7⟩ := rTake_in e6 g f _ h7
  obtain ⟨rfl, l6⟩ := rNum_in e5 2 2 rfl (by omega) (by omega) g _ h6
  obtain ⟨rfl, l5⟩ := rText_in e4 n _ h5
  obtain ⟨rfl, l4⟩ := rNum_in e3 1 1 rfl (by omega) (by omega) d _ h4
  obtain ⟨rfl, l3⟩ := rNum_in e2 8 8 rfl (by omega) (by omega) c _ h3
  obtain ⟨rfl, l2⟩ := rNum_in e1 8 8 rfl (by omega) (by omega) b _ h2
  obtain ⟨rfl, l1⟩ := rNum_in h 1 1 rfl (by omega) (by omega) a _ h1
  subst l10 l7
  refine ⟨?_, ⟨?_, ?_, ?_, ?_, ?_, ?_, ?_⟩, ?_, ?_, ?_, ?_, ?_, ?_, ?_⟩
  · simp only [En.enc, List.append_assoc, Int.toNat_natCast]
  all_goals (dsimp only; omega)
/-- all entries that are told, or none: the bytes ended -/
def rLoop : Nat → RS → List En → Option (List En × RS)
  | 0, st, l => some (l, st)
  | n + 1, st, l => if rDone (rEnt st).2 = 50 then none else rLoop n (rEnt st).2 (l ++ [(rEnt st).1])
def rFin : Option (List En × RS) → List En × Int
  | none => ([], 50)
  | some (l, st) => if rDone st = 0 then (l, 0) else ([], rDone st)
def rAll (b : List UInt8) : List En × Int := rFin (rLoop (rNum (b, 0) 4).1 (rNum (b, 0) 4).2 [])
theorem done_sh {st : RS} (h : Sh st) (hd : rDone st ≠ 50) : st.2 = 0 := by
  rcases h with h | rfl
  · exact h
  · exact absurd rfl hd
theorem done_zero {st : RS} (h : Sh st) (hd : rDone st = 0) : st = ([], 0) := by
  have h2 := done_sh h (by rw [hd]; decide)
  unfold rDone at hd
  split at hd
  · cases hd
  · refine Prod.ext ?_ h2
    exact List.length_eq_zero_iff.1 (by omega)
theorem rDone_zero (R : List UInt8) : rDone (R, 0) ≠ 50 := by
  unfold rDone; split
  · decide
  · show (0 : Int) ≠ 50; decide
theorem rLoop_out : ∀ (l : List En) (R : List UInt8) (a : List En), (∀ e ∈ l, e.Ok) → (∀ e ∈ l, e.fits) → rLoop l.length (encs l ++ R, 0) a = some (a ++ l, (R, 0))
  | [], R, a, _, _ => by simp [rLoop, encs]
  | e :: r, R, a, h, hf => by
    have e1 : encs (e :: r) ++ R = e.enc ++ (encs r ++ R) := by simp [encs]
    have e2 := rEnt_out e (encs r ++ R) (h e (by simp)) (hf e (by simp))
    rw [List.length_cons, rLoop, e1, e2, if_neg (rDone_zero _), rLoop_out r R _ (fun x hx => h x (by simp [hx])) (fun x hx => hf x (by simp [hx]))]
    simp
theorem rLoop_in (n : Nat) : ∀ (st : RS) (a l : List En) (s2 : RS), Sh st → rLoop n st a = some (l, s2) → s2.2 = 0 → ∃ m : List En, l = a ++ m ∧ m.length = n ∧ (∀ e ∈ m, e.Ok) ∧ (∀ e ∈ m, e.fits) ∧ st = (encs m ++ s2.1, 0) := by
  induction n with
  | zero =>
    intro st a l s2 h q h0
    simp only [rLoop, Option.some.injEq, Prod.mk.injEq] at q
    obtain ⟨rfl, rfl⟩ := q
    exact ⟨[], by simp, rfl, by simp, by simp, Prod.ext (by simp [encs]) h0⟩
  | succ n ih =>
    intro st a l s2 h q h0
    have hs := rEnt_sh h
    rw [rLoop] at q
    rcases h1 : rEnt st with ⟨e, s1⟩
    rw [h1] at q hs
    split at q
    · cases q
    · rename_i hd
      obtain ⟨m, e1, e2, e3, e4, e5⟩ := ih s1 _ l s2 hs q h0
      subst e5
      obtain ⟨q1, q2, q3⟩ := rEnt_in h e (encs m ++ s2.1) h1
      refine ⟨e :: m, by rw [e1]; simp, by simp [e2], ?_, ?_, ?_⟩
      · intro x hx; cases List.mem_cons.1 hx with | inl y => exact y ▸ q2 | inr y => exact e3 x y
      · intro x hx; cases List.mem_cons.1 hx with | inl y => exact y ▸ q3 | inr y => exact e4 x y
      · rw [q1]; simp [encs]
theorem rAll_out (l : List En) (h : ∀ e ∈ l, e.Ok) (hf : ∀ e ∈ l, e.fits) (hl : l.length < 4294967296) : rAll (be 4 l.length ++ encs l) = (l, 0) := by
  unfold rAll
  rw [rNum_out _ 4 4 _ rfl (by omega) (by omega) (by omega)]
  have := rLoop_out l [] [] h hf
  rw [List.append_nil] at this
  rw [this]
  simp [rFin, rDone]
theorem rAll_in (b : List UInt8) (l : List En) (q : rAll b = (l, 0)) : b = be 4 l.length ++ encs l ∧ (∀ e ∈ l, e.Ok) ∧ (∀ e ∈ l, e.fits) ∧ l.length < 4294967296 := by
  unfold rAll at q
  have h0 : Sh (b, 0) := .inl rfl
  have hs := rNum_sh h0 4 4 rfl (by omega) (by omega)
  rcases h1 : rNum (b, 0) 4 with ⟨n, s1⟩
  rw [h1] at q hs
  rcases h2 : rLoop n s1 [] with _ | ⟨l', s2⟩
  · rw [h2] at q; simp [rFin] at q
  · rw [h2] at q
    simp only [rFin] at q
    split at q
    · rename_i hd
      obtain rfl : l' = l := (Prod.mk.inj q).1
      have hz : s2.2 = 0 := by
        unfold rDone at hd
        split at hd
        · cases hd
        · exact hd
      have hnil : s2.1 = [] := by
        unfold rDone at hd
        split at hd
        · cases hd
        · exact List.length_eq_zero_iff.1 (by omega)
      obtain ⟨m, e1, e2, e3, e4, e5⟩ := rLoop_in n s1 [] l' s2 hs h2 hz
      rw [List.nil_append] at e1
      subst e1
      rw [hnil, List.append_nil] at e5
      subst e5
      obtain ⟨q1, q2⟩ := rNum_in h0 4 4 rfl (by omega) (by omega) n _ h1
      rw [e2]
      exact ⟨(Prod.mk.inj q1).1, e3, e4, q2⟩
    · rename_i hd
      exact absurd (Prod.mk.inj q).2 hd
/-- what Write answers, given the sum -/
def wrS (H : List UInt8 → List UInt8) (l : List En) : List UInt8 := match wBody l with
  | some b => b ++ H b
  | none => []
/-- what Read answers, given the sum -/
def rdS (H : List UInt8 → List UInt8) (s : List UInt8) : List En × Int :=
  if s.length < 40 then ([], 50)
  else if (s.take (s.length - 32)).take 4 = magic ∧ H (s.take (s.length - 32)) = s.drop (s.length - 32) then rAll ((s.take (s.length - 32)).drop 4)
  else ([], 190)
theorem rd_wr (H : List UInt8 → List UInt8) (hH : ∀ x, (H x).length = 32) (l : List En) (h : ∀ e ∈ l, e.Ok) (hl : l.length < 4294967296) (b : List UInt8) (hb : wBody l = some b) : rdS H (b ++ H b) = (l, 0) := by
  rw [wBody_eq l h hl] at hb
  split at hb
  · rename_i hf
    have hb := Option.some.inj hb
    have hm : magic.length = 4 := rfl
    have hlen : (b ++ H b).length - 32 = b.length := by rw [List.length_append, hH]; omega
    have h8 : 8 ≤ b.length := by rw [← hb]; simp only [List.length_append, hm, be_len]; omega
    unfold rdS
    rw [if_neg (by rw [List.length_append, hH]; omega), hlen, List.take_left, List.drop_left]
    rw [if_pos ⟨by rw [← hb]; rfl, rfl⟩, ← hb]
    exact rAll_out l h hf hl
  · cases hb
theorem wr_rd (H : List UInt8 → List UInt8) (s : List UInt8) (l : List En) (q : rdS H s = (l, 0)) : (∀ e ∈ l, e.Ok) ∧ l.length < 4294967296 ∧ wBody l = some (s.take (s.length - 32)) ∧ wrS H l = s := by
  unfold rdS at q
  split at q
  · cases q
  · split at q
    · rename_i h40 hm
      obtain ⟨q1, q2, q3, q4⟩ := rAll_in _ l q
      have hb : wBody l = some (s.take (s.length - 32)) := by
        rw [wBody_eq l q2 q4, if_pos q3, ← q1]
        congr 1
        conv => rhs; rw [← List.take_append_drop 4 (s.take (s.length - 32)), hm.1]
      refine ⟨q2, q4, hb, ?_⟩
      unfold wrS
      rw [hb]
      show s.take (s.length - 32) ++ H (s.take (s.length - 32)) = s
      rw [hm.2, List.take_append_drop]
    · cases q
end Go.Proofs.YtjbkoablleneeaaGreatDoor.Pk

