import Derived.Test.YtkdjcknikhgfkaaGreatDoorX43
/- rows of bytes; tags -/
namespace Go.Proofs.YtkdjcknikhgfkaaGreatDoor.Pk.Sn
open Go Go.RowKit

/-- a box with a view -/
structure Bx where
  b : Nat
  V : Vw
  a : Option Addr
  c : Nat
/-- where a law's walk stands -/
structure St (w0 w : World) (L : List Bx) : Prop where
  g : w0.grownBy w none
  b : ∀ x ∈ L, Has w x.b (x.V.cs x.a x.c) 29 ∧ SeenR w x.a x.V.S
theorem St.kept {w0 w w' : World} {L : List Bx} (h : St w0 w L) (g : w.grownBy w' none) : St w0 w' L := ⟨h.g.trans g, fun x hx => ⟨(h.b x hx).1.kept g (by simp), (h.b x hx).2.kept g⟩⟩
theorem St.add {w0 w w' : World} {L : List Bx} {V : Vw} {a : Option Addr} {c : Nat} (h : St w0 w L) (h6 : Has w' w.heap.size (V.cs a c) 29) (g : w.grownBy w' none) (hs : SeenR w a V.S) : St w0 w' (⟨w.heap.size, V, a, c⟩ :: L) :=
  ⟨h.g.trans g, fun x hx => by
    rcases List.mem_cons.1 hx with rfl | hx
    · exact ⟨h6, hs.kept g⟩
    · exact ⟨(h.b x hx).1.kept g (by simp), (h.b x hx).2.kept g⟩⟩
theorem St.has {w0 w : World} {L : List Bx} {b : Nat} {V : Vw} {a : Option Addr} {c : Nat} (h : St w0 w L) (hm : (⟨b, V, a, c⟩ : Bx) ∈ L) : Has w b (V.cs a c) 29 := (h.b _ hm).1
theorem St.seen {w0 w : World} {L : List Bx} {b : Nat} {V : Vw} {a : Option Addr} {c : Nat} (h : St w0 w L) (hm : (⟨b, V, a, c⟩ : Bx) ∈ L) : SeenR w a V.S := (h.b _ hm).2
theorem mm0 {α : Type} {a : α} {l : List α} : a ∈ a :: l := List.mem_cons_self ..
theorem mm1 {α : Type} {a b : α} {l : List α} : a ∈ b :: a :: l := List.mem_cons_of_mem _ mm0
theorem mm2 {α : Type} {a b c : α} {l : List α} : a ∈ b :: c :: a :: l := List.mem_cons_of_mem _ mm1
theorem mm3 {α : Type} {a b c d : α} {l : List α} : a ∈ b :: c :: d :: a :: l := List.mem_cons_of_mem _ mm2
theorem mm4 {α : Type} {a b c d e : α} {l : List α} : a ∈ b :: c :: d :: e :: a :: l := List.mem_cons_of_mem _ mm3
theorem mm5 {α : Type} {a b c d e f : α} {l : List α} : a ∈ b :: c :: d :: e :: f :: a :: l := List.mem_cons_of_mem _ mm4
theorem St.start {w w' : World} {V : Vw} {a : Option Addr} {c : Nat} (h6 : Has w' w.heap.size (V.cs a c) 29) (g : w.grownBy w' none) (hs : SeenR w a V.S) : St w w' [⟨w.heap.size, V, a, c⟩] :=
  (⟨World.grownBy.refl _ _, fun _ hx => absurd hx List.not_mem_nil⟩ : St w w []).add h6 g hs
theorem seen_nil (w : World) : SeenR w none ([] : List Sn) := fun q => absurd rfl q
/-- a row of bytes that may be written -/
structure Wb (w : World) (b : Nat) (L : List UInt8) : Prop where
  lt : b < w.heap.size
  at_ : ∀ (j : Nat) (x : UInt8), L[j]? = some x → w.cell? ⟨b, j, none⟩ = some (.int .u8 (x.toNat : Int))
  fz : ∀ j, j < L.length → w.frozen? ⟨b, j, none⟩ = false
theorem Wb.new (W : World) (s : ByteArray) : Wb (Lib.bytesWorld W 5 s) W.heap.size (sl s) := by
  refine ⟨by rw [Lib.bytesWorld_size]; omega, fun j x hx => bytes_cells W s j x hx, fun j hj => ?_⟩
  rw [sl_len] at hj
  simp only [World.frozen?, Lib.bytesWorld_at_new]
  have : s.size ≤ (Lib.bytesCells W 5 s).size := by
    simp [Lib.bytesCells]
    try omega
  simp
  omega
theorem Wb.set {w : World} {b : Nat} {L : List UInt8} (h : Wb w b L) (j : Nat) (y : UInt8) : Wb (w.setCell ⟨b, j, none⟩ (.int .u8 (y.toNat : Int))) b (L.set j y) := by
  refine ⟨by simp [World.setCell]; exact h.lt, fun i x hx => ?_, fun i hi => ?_⟩
  · by_cases e : j = i
    · subst e
      have hj : j < L.length := by
        have := (List.getElem?_eq_some_iff.1 hx).1
        simpa using this
      rw [List.getElem?_set_self (by simpa using hj)] at hx
      obtain rfl := Option.some.inj hx
      obtain ⟨z, hz⟩ : ∃ z, L[j]? = some z := ⟨_, List.getElem?_eq_getElem hj⟩
      exact World.cell?_setCell_same _ _ _ (h.at_ j z hz)
    · rw [List.getElem?_set_ne e] at hx
      rw [World.cell?_setCell_other _ _ _ _ (by first | (simp; done) | (simp; omega))]
      exact h.at_ i x hx
  · rw [World.frozen?_setCell]
    exact h.fz i (by simpa using hi)
theorem Wb.bytes {w : World} {b : Nat} {L : List UInt8} (h : Wb w b L) (n c : Nat) (hn : L.length = n) (hc : n ≤ c) : (convert 55 9 (.slice (some ⟨b, 0, none⟩) n c)).run Tryz.prog w = .ok (.string (ba L)) w :=
  cvt_back w (some ⟨b, 0, none⟩) n c L ⟨hn, hc, fun _ => ⟨b, 0, rfl, fun j x hx => by rw [Nat.zero_add]; exact h.at_ j x hx⟩⟩ (by simp)

/-- what is sealed has its tag at the end -/
theorem sealed_tag {s key : ByteArray} (h : sealed s key = true) : 36 ≤ s.size ∧ hmacB key (ba ((sl s).take (s.size - 32))) = ba ((sl s).drop (s.size - 32)) := by
  unfold sealed at h
  have h := of_decide_eq_true h
  have hb : bodyL (sl s) = (sl s).take (s.size - 32) ∧ 36 ≤ s.size := by
    by_cases hc : (sl s).length < 36 ∨ ¬ (3 ≤ kindL (sl s) ∧ kindL (sl s) ≤ 7)
    · exfalso
      apply h.1
      unfold bodyB bodyL
      rw [if_pos hc]; rfl
    · unfold bodyL
      rw [if_neg hc, sl_len]
      rw [sl_len] at hc
      exact ⟨rfl, by omega⟩
  refine ⟨hb.2, ?_⟩
  have h2 := h.2
  unfold bodyB at h2
  rw [hb.1] at h2
  rw [← h2]
  apply sl_inj
  have hs : (ba ((sl s).take (s.size - 32))).size = s.size - 32 := by rw [ba_size, List.length_take, sl_len]; omega
  rw [hs, show sl (ba ((sl s).drop (s.size - 32))) = (sl s).drop (s.size - 32) from sl_mk _]
  exact sl_extract _ _
theorem op_sealed {s key : ByteArray} (h : (opS s key).2.2.2 = 0) : sealed s key = true := by
  by_cases h1 : (unS s key).2 = 0
  · cases hk : sealed s key with
    | true => rfl
    | false =>
      exfalso
      by_cases hd : (dec (sl s)).2 = 0
      · by_cases h6 : (dec (sl s)).1.kind = 6
        · rw [un_3 hd h6 hk] at h1; cases h1
        · rw [un_2 hd h6] at h1; cases h1
      · rw [un_1 hd] at h1; exact hd h1
  · rw [op_1 h1] at h; exact absurd h h1
theorem mk_facts {ses seq : Nat} {V : Vw} {key : ByteArray} (h1 : ses < 18446744073709551616) (h2 : seq < 18446744073709551616) (ho : V.ok) : ((mkS ses seq V key).2 ≠ 0 → (mkS ses seq V key).1 = nob ∧ ((wrV V).2 ≠ 0 ∧ (mkS ses seq V key).2 = (wrV V).2 ∨ (wrV V).2 = 0 ∧ (mkS ses seq V key).2 = 72 ∧ 1148 < (encV V).length)) ∧ ((mkS ses seq V key).2 = 0 → fitV V ∧ (encV V).length ≤ 1148 ∧ (mkS ses seq V key).1 = ba (snB ses seq (encV V) ++ Mac.hmac (sl key) (snB ses seq (encV V)))) := by
  unfold mkS
  by_cases hf : fitV V
  · rw [wrV_yes ho hf, if_pos rfl, seal_snap h1 h2, ba_size, show sl (ba (encV V, (0 : Int)).1) = encV V from sl_mk _]
    by_cases hb : 1148 < (encV V).length
    · rw [if_pos hb]
      exact ⟨fun _ => ⟨rfl, .inr ⟨rfl, rfl, hb⟩⟩, fun h => by cases h⟩
    · rw [if_neg hb]
      exact ⟨fun h => absurd rfl h, fun _ => ⟨hf, by omega, rfl⟩⟩
  · rw [wrV_no ho hf, if_neg (by decide)]
    exact ⟨fun _ => ⟨rfl, .inl ⟨by decide, rfl⟩⟩, fun h => by cases h⟩
set_option maxHeartbeats 8000000 in
set_option maxRecDepth 100000 in
theorem tag_c (s : ByteArray) (w : World) (hs : s.size ≤ 1000000) (h32 : 32 ≤ s.size) :
    Calls Tryz.prog 17 #[.string s] w fun e w' => e = .returned (.string (ba ((sl s).drop (s.size - 32)))) ∧ w' = w := by
  obtain ⟨n, hn⟩ : ∃ n, s.size = n := ⟨_, rfl⟩
  have h1 : ¬ (n : Int) < 32 := by omega
  have hsl : ∀ W, (Instr.slice 9 (.string s) (some (.int .i64 ((n : Int) - 32))) none none).run Tryz.prog W = .ok (.string (ba ((sl s).drop (n - 32)))) W := fun W => by
    rw [show (n : Int) - 32 = ((n - 32 : Nat) : Int) by omega]
    exact slice_from s (n - 32) (by omega) W
  rw [hn]
  have hb : (n : Int) ≤ 1000000 := by omega
  go_enter Tryz.func17, Tryz.ntmps17
  go_wp2_with fail
  go_ret
  exact ⟨rfl, rfl⟩
end Go.Proofs.YtkdjcknikhgfkaaGreatDoor.Pk.Sn
