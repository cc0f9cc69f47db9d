import Derived.Test.YtplcicbpkbamnabGreatDoorX6
import Derived.Lib.ConvBytes
import Derived.Deep.RegionHeld
import Derived.Deep.DeepCutAuto
/- EncodeRune of a small letter; Fold; Same. -/
namespace Go.Proofs.YtplcicbpkbamnabGreatDoor.Lo.Na
open Go Go.RowKit

abbrev bv (x : UInt8) : Value := .int .u8 x.toNat
set_option maxRecDepth 100000 in
set_option maxHeartbeats 2000000 in
theorem enc1_c (b off len cap : Nat) (r : Int) (hr0 : 0 ≤ r) (hr1 : r ≤ 127) (w : World) (hl : 1 ≤ len) (c0 : Value) (h0 : w.cell? ⟨b, off, none⟩ = some c0) (f0 : w.frozen? ⟨b, off, none⟩ = false) :
    Calls Tryz.prog 130 #[.slice (some ⟨b, off, none⟩) len cap, rv r] w fun e w' => e = .returned (iv 1) ∧ w' = w.setCell ⟨b, off, none⟩ (.int .u8 r) := by
  go_enter Tryz.func130, Tryz.ntmps130
  go_wp2
  go_ret
  exact ⟨rfl, rfl⟩
set_option maxRecDepth 100000 in
set_option maxHeartbeats 2000000 in
theorem enc2n_c (b off len cap : Nat) (r : Int) (hr0 : 224 ≤ r) (hr1 : r ≤ 254) (w : World) (hl : 2 ≤ len) (c0 c1 : Value) (h0 : w.cell? ⟨b, off, none⟩ = some c0) (f0 : w.frozen? ⟨b, off, none⟩ = false)
    (h1 : w.cell? ⟨b, off + 1, none⟩ = some c1) (f1 : w.frozen? ⟨b, off + 1, none⟩ = false) (u : UInt8) (hc : c1 = bv u) :
    Calls Tryz.prog 141 #[.slice (some ⟨b, off, none⟩) len cap, rv r] w fun e w' => e = .returned (iv 2) ∧ w' = (w.setCell ⟨b, off, none⟩ (.int .u8 195)).setCell ⟨b, off + 1, none⟩ (.int .u8 (r - 64)) := by
  subst hc
  go_enter Tryz.func141, Tryz.ntmps141
  go_wp2_with fail
  go_ret
  rw [show 192 + r / 64 = 195 by omega, show 128 + r % 64 = r - 64 by omega]
  exact ⟨rfl, rfl⟩
set_option maxRecDepth 100000 in
set_option maxHeartbeats 2000000 in
theorem enc2_c (b off len cap : Nat) (r : Int) (hr0 : 224 ≤ r) (hr1 : r ≤ 254) (w : World) (hl : 2 ≤ len) (c0 c1 : Value) (h0 : w.cell? ⟨b, off, none⟩ = some c0) (f0 : w.frozen? ⟨b, off, none⟩ = false)
    (h1 : w.cell? ⟨b, off + 1, none⟩ = some c1) (f1 : w.frozen? ⟨b, off + 1, none⟩ = false) (u : UInt8) (hc : c1 = bv u) :
    Calls Tryz.prog 130 #[.slice (some ⟨b, off, none⟩) len cap, rv r] w fun e w' => e = .returned (iv 2) ∧ w' = (w.setCell ⟨b, off, none⟩ (.int .u8 195)).setCell ⟨b, off + 1, none⟩ (.int .u8 (r - 64)) := by
  have HN := Keep.mk (enc2n_c b off len cap r hr0 hr1 w hl c0 c1 h0 f0 h1 f1 u hc)
  clear h0 f0 h1 f1
  go_enter Tryz.func130, Tryz.ntmps130
  go_wp2_with fail
  refine HN.out.mono ?_
  rintro e w1 ⟨rfl, rfl⟩
  go_wp2_with fail
  go_ret
  exact ⟨rfl, rfl⟩

/-- a row of bytes that may be written -/
structure Bs (w : World) (fb : Nat) (l : List UInt8) : Prop where
  lt : fb < w.heap.size
  cell : ∀ (j : Nat) x, l[j]? = some x → w.cell? ⟨fb, j, none⟩ = some (bv x)
  froz : ∀ j, j < l.length → w.frozen? ⟨fb, j, none⟩ = false
set_option maxRecDepth 100000 in
theorem Bs.kept {w w' : World} {fb : Nat} {l : List UInt8} {row : Option Nat} (h : Bs w fb l) (hg : w.grownBy w' row) (hne : some fb ≠ row) : Bs w' fb l := by
  have hb := hg.block fb h.lt hne
  refine ⟨Nat.lt_of_lt_of_le h.lt hg.size, fun j x hx => ?_, fun j hj => ?_⟩
  · rw [← h.cell j x hx]; simp [World.cell?, hb]
  · rw [← h.froz j hj]; simp [World.frozen?, hb]
set_option maxRecDepth 100000 in
theorem Bs.set {w : World} {fb : Nat} {l : List UInt8} (h : Bs w fb l) (i : Nat) (x : UInt8) : Bs (w.setCell ⟨fb, i, none⟩ (bv x)) fb (l.set i x) := by
  refine ⟨by simpa using h.lt, fun j y hy => ?_, fun j hj => ?_⟩
  · rw [List.getElem?_set] at hy
    split at hy
    · rename_i e
      subst e
      split at hy
      · obtain rfl := Option.some.inj hy
        rename_i hl
        exact World.cell?_setCell_same _ _ _ (h.cell i _ (List.getElem?_eq_getElem hl))
      · cases hy
    · rename_i e
      rw [World.cell?_setCell_other _ _ _ _ (by intro e2; apply e; cases e2; rfl)]
      exact h.cell j y hy
  · rw [World.frozen?_setCell]; exact h.froz j (by simpa using hj)
set_option maxRecDepth 100000 in
theorem underBy : Tryz.prog.underlying 120 = some (.slice 5) := by kernel_rfl
set_option maxRecDepth 100000 in
theorem under5 : Tryz.prog.underlying 5 = some (.int .u8) := by kernel_rfl
set_option maxRecDepth 100000 in
theorem under9 : Tryz.prog.underlying 9 = some .string := by kernel_rfl
set_option maxRecDepth 100000 in
theorem cvt (s : ByteArray) (W : World) : (convert 9 120 (.string s)).run Tryz.prog W = .ok (.slice (some ⟨W.heap.size, 0, none⟩) s.size (grownCap W s.size 0 5)) (Lib.bytesWorld W 5 s) :=
  Lib.run_convert_string_bytes (P := Tryz.prog) W 9 120 5 s (u := .string) under9 underBy under5
set_option maxRecDepth 100000 in
theorem gr_bytes (W : World) (s : ByteArray) : W.grownBy (Lib.bytesWorld W 5 s) none :=
  ⟨rfl, rfl, rfl, by rw [Lib.bytesWorld_size]; omega, fun k hk _ => Lib.bytesWorld_at_old _ _ _ _ hk⟩
set_option maxRecDepth 100000 in
theorem bytes_of (W : World) (s : ByteArray) : Bs (Lib.bytesWorld W 5 s) W.heap.size (sl s) := by
  refine ⟨by rw [Lib.bytesWorld_size]; omega, fun j x hx => ?_, fun j hj => ?_⟩
  · have hj : j < s.size := by rw [← sl_len]; exact (List.getElem?_eq_some_iff.1 hx).1
    rw [Lib.bytesWorld_cell _ _ _ j hj]
    unfold sl at hx
    simp [List.getD, hx]
  · have hj2 : j < s.size := hj
    have hz : s.size ≤ (Lib.bytesCells W 5 s).size := by
      simp [Lib.bytesCells]
    simp only [World.frozen?, Lib.bytesWorld_at_new]
    simp
    omega
set_option maxRecDepth 100000 in
theorem cvt_back {w : World} {fb n c : Nat} {l : List UInt8} (h : Bs w fb l) (hn : l.length = n) : (convert 120 9 (.slice (some ⟨fb, 0, none⟩) n c)).run Tryz.prog w = .ok (.string (mk l)) w := by
  have := run_convert_bytes_back (P := Tryz.prog) w 120 9 5 ⟨fb, 0, none⟩ c l underBy under5 under9 (fun j hj => by
    rw [Addr.add_mid, Nat.zero_add]; exact h.cell j _ (List.getElem?_eq_getElem hj))
  rw [hn] at this
  exact this
set_option maxRecDepth 100000 in
theorem slcBy (fb n c p : Nat) (hp : p < n) (hc : n ≤ c) (W : World) : (Instr.slice 120 (.slice (some ⟨fb, 0, none⟩) n c) (some (.int .i64 (p : Int))) none none).run Tryz.prog W = .ok (.slice (some ⟨fb, p, none⟩) (n - p) (c - p)) W := by
  have z : (sizeOf (Tryz.prog.elem 120)).run Tryz.prog W = .ok 1 W := by kernel_rfl
  rw [run_slice_l W 120 _ n c (by kernel_rfl) .i64 p (by omega) (by omega), z]
  simp only [Result.andThen, sliced, Int.toNat_natCast]
  rw [if_neg (by omega)]
  simp [Addr.add_mid]

/-- the bytes behind k runes -/
def cur (s : ByteArray) (k : Nat) : List UInt8 := flat (((pieces (sl s)).take k).map small) ++ (sl s).drop (posn s k)
set_option maxRecDepth 100000 in
theorem cur_zero (s : ByteArray) : cur s 0 = sl s := by simp [cur, posn_zero, flat_nil]
set_option maxRecDepth 100000 in
theorem cur_len (s : ByteArray) (k : Nat) : (cur s k).length = s.size := by
  have h1 := good_len (good_pieces (sl s)) k
  have h2 : posn s k ≤ s.size := by
    have := (flat_prefix (pieces (sl s)) k).length_le
    rw [flat_pieces, sl_len] at this
    exact this
  unfold cur
  rw [List.length_append, List.length_drop, h1, sl_len]
  unfold posn at h2 ⊢
  omega
set_option maxRecDepth 100000 in
theorem cur_end (s : ByteArray) : cur s (rn s) = foldL (sl s) := by
  unfold cur
  rw [posn_end, ← sl_len, List.drop_length, List.append_nil, rn, List.take_length]; rfl
set_option maxRecDepth 100000 in
theorem cur_split {s : ByteArray} {k : Nat} {p : Nat × List UInt8} (hp : (pieces (sl s))[k]? = some p) :
    ∃ A D, A.length = posn s k ∧ cur s k = A ++ p.2 ++ D ∧ cur s (k + 1) = A ++ (small p).2 ++ D := by
  obtain ⟨h1, h2, h3, h4, h5, h6, h7⟩ := piece_len hp
  refine ⟨flat (((pieces (sl s)).take k).map small), (sl s).drop (posn s (k + 1)), good_len (good_pieces (sl s)) k, ?_, ?_⟩
  · unfold cur
    rw [List.append_assoc]
    congr 1
    rw [show posn s (k + 1) = posn s k + p.2.length from h5, ← List.drop_drop]
    conv => lhs; rw [← List.take_append_drop p.2.length ((sl s).drop (posn s k))]
    rw [show (List.drop (posn s k) (sl s)).take p.2.length = p.2 from h7]
  · unfold cur
    rw [List.take_add_one, hp, List.map_append, flat_app]
    congr 2
    simp [flat]
set_option maxRecDepth 100000 in
theorem cur_same {s : ByteArray} {k : Nat} {p : Nat × List UInt8} (hp : (pieces (sl s))[k]? = some p) (h : ¬ large p.1) : cur s (k + 1) = cur s k := by
  obtain ⟨A, D, _, e1, e2⟩ := cur_split hp
  rw [e1, e2, small, if_neg h]
set_option maxRecDepth 100000 in
theorem cur_one {s : ByteArray} {k : Nat} {p : Nat × List UInt8} (hp : (pieces (sl s))[k]? = some p) (h : large p.1) (h1 : p.1 < 128) : (cur s k).set (posn s k) (UInt8.ofNat (p.1 + 32)) = cur s (k + 1) := by
  obtain ⟨A, D, hA, e1, e2⟩ := cur_split hp
  have hw : Whole p := (mem_kind (good_pieces (sl s)) (List.mem_of_getElem? hp)).resolve_right fun ⟨b, hb, _⟩ => by rw [hb] at h1; simp at h1
  have e3 : (small p).2 = [UInt8.ofNat (p.1 + 32)] := by
    rw [small, if_pos h]; simp only [encL]; rw [if_pos (by unfold large at h; omega)]
  rw [e1, e2, e3, whole_one hw h1, ← hA]
  simp
set_option maxRecDepth 100000 in
theorem cur_two {s : ByteArray} {k : Nat} {p : Nat × List UInt8} (hp : (pieces (sl s))[k]? = some p) (h : large p.1) (h1 : ¬ p.1 < 128) : ((cur s k).set (posn s k) 195).set (posn s k + 1) (UInt8.ofNat (p.1 + 32 - 64)) = cur s (k + 1) ∧ p.2.length = 2 := by
  obtain ⟨A, D, hA, e1, e2⟩ := cur_split hp
  have hw : Whole p := (mem_kind (good_pieces (sl s)) (List.mem_of_getElem? hp)).resolve_right fun ⟨b, hb, _⟩ => by rw [hb] at h; unfold large at h; simp at h
  have e3 : (small p).2 = [195, UInt8.ofNat (p.1 + 32 - 64)] := by
    rw [small, if_pos h]; simp only [encL]; rw [if_neg (by unfold large at h; omega)]
  have e4 := whole_two hw (by omega) (by unfold large at h; omega)
  refine ⟨?_, by rw [e4]; rfl⟩
  rw [e1, e2, e3, e4, ← hA]
  simp

/-- where Fold stands -/
structure FS (w w' : World) (s : ByteArray) (k : Nat) : Prop where
  it : It w' (w.heap.size + 1) s k
  bs : Bs w' w.heap.size (cur s k)
  gr : w.grownBy w' none
set_option maxRecDepth 100000 in
theorem FS.kept {w a b : World} {s : ByteArray} {k : Nat} (h : FS w a s k) (hg : a.grownBy b none) : FS w b s k :=
  ⟨h.it.kept hg, h.bs.kept hg (by simp), h.gr.trans hg⟩

set_option maxRecDepth 100000 in
theorem gr_setOwn {w a : World} (h : w.grownBy a none) (i : Nat) (v : Value) : w.grownBy (a.setCell ⟨w.heap.size, i, none⟩ v) none := gr_new h (gr_set _ _ _ _) (Nat.le_refl _)
set_option maxRecDepth 100000 in
theorem fs_one {w a : World} {s : ByteArray} {k : Nat} {p : Nat × List UInt8} (hB : Bs a w.heap.size (cur s k)) (hg : w.grownBy a none) (hI : It a (w.heap.size + 1) s (k + 1)) (hp : (pieces (sl s))[k]? = some p) (hl : large p.1) (h1 : p.1 < 128) :
    FS w (a.setCell ⟨w.heap.size, posn s k, none⟩ (.int .u8 ((p.1 : Int) + 32))) s (k + 1) := by
  have e : (Value.int .u8 ((p.1 : Int) + 32)) = bv (UInt8.ofNat (p.1 + 32)) := by
    have : (UInt8.ofNat (p.1 + 32)).toNat = p.1 + 32 := by rw [UInt8.toNat_ofNat']; omega
    rw [bv, this]; rfl
  rw [e]
  refine ⟨⟨?_, hI.le⟩, ?_, gr_setOwn hg _ _⟩
  · rw [(gr_set a w.heap.size (posn s k) _).block _ hI.lt (by simp)]; exact hI.at_
  · rw [← cur_one hp hl h1]; exact hB.set _ _
set_option maxRecDepth 100000 in
theorem fs_two {w a : World} {s : ByteArray} {k : Nat} {p : Nat × List UInt8} (hB : Bs a w.heap.size (cur s k)) (hg : w.grownBy a none) (hI : It a (w.heap.size + 1) s (k + 1)) (hp : (pieces (sl s))[k]? = some p) (hl : large p.1) (h1 : ¬ p.1 < 128) :
    FS w ((a.setCell ⟨w.heap.size, posn s k, none⟩ (.int .u8 195)).setCell ⟨w.heap.size, posn s k + 1, none⟩ (.int .u8 ((p.1 : Int) + 32 - 64))) s (k + 1) := by
  have e0 : (Value.int .u8 195) = bv 195 := rfl
  have e : (Value.int .u8 ((p.1 : Int) + 32 - 64)) = bv (UInt8.ofNat (p.1 + 32 - 64)) := by
    unfold large at hl
    have : (UInt8.ofNat (p.1 + 32 - 64)).toNat = p.1 + 32 - 64 := by rw [UInt8.toNat_ofNat']; omega
    rw [bv, this]; congr 1; omega
  rw [e, e0]
  refine ⟨⟨?_, hI.le⟩, ?_, gr_setOwn (gr_setOwn hg _ _) _ _⟩
  · have hI2 : (a.setCell ⟨w.heap.size, posn s k, none⟩ (bv 195)).heap[w.heap.size + 1]? = some (.stringIter s (posn s (k + 1))) := by
      rw [(gr_set a w.heap.size (posn s k) _).block _ hI.lt (by simp)]; exact hI.at_
    rw [(gr_set _ w.heap.size (posn s k + 1) _).block _ ((Array.getElem?_eq_some_iff.1 hI2).1) (by simp)]; exact hI2
  · rw [← (cur_two hp hl h1).1]; exact (hB.set _ _).set _ _

set_option maxRecDepth 100000 in
set_option maxHeartbeats 8000000 in
theorem fold_c (s : ByteArray) (w : World) (hk : Kc w) :
    Calls Tryz.prog 111 #[.string s] w fun e w' => e = .returned (.string (mk (foldL (sl s)))) ∧ w.grownBy w' none := by
  have HK := Keep.mk hk
  clear hk
  go_enter Tryz.func111, Tryz.ntmps111
  have hcv := cvt s w
  obtain ⟨c, hc⟩ : ∃ c, grownCap w s.size 0 5 = c := ⟨_, rfl⟩
  have hcg : s.size ≤ c := by rw [← hc]; exact grownCap_ge w s.size 0 5
  rw [hc] at hcv
  clear hc
  obtain ⟨wb, hwb⟩ : ∃ q, Lib.bytesWorld w 5 s = q := ⟨_, rfl⟩
  rw [hwb] at hcv
  have HS0 : Keep (FS w (wb.iter s 0) s 0) := ⟨by
    subst hwb
    have hz := Lib.bytesWorld_size w 5 s
    refine ⟨hz ▸ It.new (Lib.bytesWorld w 5 s) s, ?_, (gr_bytes w s).trans (gr_iter _ s 0)⟩
    rw [cur_zero]
    exact (bytes_of w s).kept (gr_iter _ s 0) (by simp)⟩
  have hz : wb.heap.size = w.heap.size + 1 := by rw [← hwb]; exact Lib.bytesWorld_size w 5 s
  clear hwb
  go_wp2_with fail
  clear hcv
  go_loopw [] (fun w' => ∃ k : Nat, Keep (FS w w' s k)) (fun w' => s.size - w'.iterPos (w.heap.size + 1))
  case atStart => exact ⟨0, HS0⟩
  case round =>
    clear HS0 hz
    obtain ⟨k, HS⟩ := hrel
    by_cases hk : k = rn s
    · have hnx := HS.out.it.stop hk
      have hcb := cvt_back (c := c) HS.out.bs (cur_len s k)
      rw [hk, cur_end] at hcb
      clear hk
      go_wp2_with fail
      go_ret
      exact ⟨rfl, HS.out.gr⟩
    · obtain ⟨p, w2, hp, hnx, hN, hG2, hm⟩ := HS.out.it.move hk
      have HB2 : Keep (Bs w2 w.heap.size (cur s k) ∧ w.grownBy w2 none) := ⟨HS.out.bs.kept hG2 (by simp), gr_new HS.out.gr hG2 (by omega)⟩
      have HN := Keep.mk hN
      clear hG2 hN HS
      have hP : posn s k < s.size := by have := posn_step hp.out; omega
      go_wp2_with fail
      refine (find_c p.1 w2 (HK.out.kept HB2.out.2)).mono ?_
      rintro e w3 ⟨rfl, hG3⟩
      have HB3 : Keep (Bs w3 w.heap.size (cur s k) ∧ w.grownBy w3 none ∧ It w3 (w.heap.size + 1) s (k + 1)) := ⟨HB2.out.1.kept hG3 (by simp), HB2.out.2.trans hG3, HN.out.kept hG3⟩
      have hm3 : Keep (s.size - posn s (k + 1) < s.size - wr.iterPos (w.heap.size + 1)) := ⟨by rw [← HN.out.pos]; exact hm.out⟩
      clear hG3 HB2 HN hnx hm
      rcases fnd_cases p.1 with ⟨hl, A, B, hf⟩ | ⟨hl, ⟨A, B, hf⟩ | hf⟩
      · rw [hf]
        simp only [fndV]
        obtain ⟨w4, hw4⟩ : ∃ q, w3.alloc (.cells #[rv A, rv B, rv 32] 158) = q := ⟨_, rfl⟩
        obtain ⟨tb, htb⟩ : ∃ q, w3.heap.size = q := ⟨_, rfl⟩
        have HB4 : Keep (Bs w4 w.heap.size (cur s k) ∧ w.grownBy w4 none ∧ It w4 (w.heap.size + 1) s (k + 1) ∧ Has w4 tb [rv A, rv B, rv 32] 158) := ⟨by
          subst hw4
          have hg := World.grownBy_alloc w3 (.cells #[rv A, rv B, rv 32] 158) none
          exact ⟨HB3.out.1.kept hg (by simp), HB3.out.2.1.trans hg, HB3.out.2.2.kept hg, htb ▸ Has.newA _ _ _⟩⟩
        have c2 : w4.cell? ⟨tb, 2, none⟩ = some (rv 32) := HB4.out.2.2.2.cellv 2 _ rfl
        have HT : Keep (w.heap.size < tb) := ⟨by rw [← htb]; exact HB3.out.1.lt⟩
        clear hf HB3
        go_wp2_with fail
        have HC : Keep (∀ W : World, Has W tb [rv A, rv B, rv 32] 158 → W.cell? ⟨tb, 2, none⟩ = some (rv 32)) := ⟨fun W h => h.cellv 2 _ rfl⟩
        have HB5 : Keep (Bs w4.drew w.heap.size (cur s k) ∧ w.grownBy w4.drew none ∧ It w4.drew (w.heap.size + 1) s (k + 1) ∧ Has w4.drew tb [rv A, rv B, rv 32] 158) := ⟨HB4.out.1.kept (gr_drew _ none) (by simp), HB4.out.2.1.trans (gr_drew _ none), HB4.out.2.2.1.kept (gr_drew _ none), HB4.out.2.2.2.drewN 1⟩
        clear HB4 hw4 htb c2
        have hsl := slcBy w.heap.size s.size c (posn s k) hP hcg
        have hwr : IntKind.i32.wrap ((p.1 : Int) + 32) = (p.1 : Int) + 32 := by
          have : p.1 ≤ 222 := by unfold large at hl; omega
          simp [IntKind.wrap, show IntKind.i32.bits = 32 from rfl]; omega
        have HX : Keep ((∀ j x, (cur s k)[j]? = some x → w4.drew.cell? ⟨w.heap.size, j, none⟩ = some (bv x)) ∧ ∀ j, j < (cur s k).length → w4.drew.frozen? ⟨w.heap.size, j, none⟩ = false) := ⟨HB5.out.1.cell, HB5.out.1.froz⟩
        by_cases h1 : p.1 < 128
        · have HE : Keep (∃ x, (cur s k)[posn s k]? = some x) := ⟨⟨_, List.getElem?_eq_getElem (by rw [cur_len]; exact hP)⟩⟩
          obtain ⟨x0, hx0⟩ := HE.out
          have hc0 := HX.out.1 _ _ hx0
          have hf0 := HX.out.2 (posn s k) (by rw [cur_len]; exact hP)
          have HZ := Keep.mk (And.intro hc0 hf0)
          clear hc0 hf0 hx0 HE HX
          refine wp_region_held_drew (S := fun w' => Has w' tb [rv A, rv B, rv 32] 158) (by kernel_rfl) HB5.out.2.2.2 (fun hHeld => ?_)
          refine wpAnyH_take (i := 0) (oi := _) (v := ?_) rfl (by kernel_rfl) (by kernel_rfl) (by kernel_rfl) (fun _ _ _ h => h) (Or.inl ⟨by rfl, ?_⟩) (by assumption) ?_
          rotate_left
          · (intro w hSw; go_simp; first | done | (with_reducible rfl))
          simp only [Act.put, List.getElem_toArray, List.getElem_cons_zero, List.setIfInBounds_toArray, List.set_cons_zero, List.set_cons_succ]
          refine wpAnyH_take (i := 1) (oi := _) (v := ?_) rfl (by kernel_rfl) (by kernel_rfl) (by kernel_rfl) (fun _ _ _ h => h) (Or.inl ⟨by rfl, ?_⟩) (by assumption) ?_
          rotate_left
          · (intro w hSw; go_simp; first | done | (with_reducible rfl))
          simp only [Act.put, List.getElem_toArray, List.getElem_cons_succ, List.getElem_cons_zero, List.setIfInBounds_toArray, List.set_cons_zero, List.set_cons_succ]
          refine wpAnyH_take (i := 2) (oi := _) (v := ?_) rfl (by kernel_rfl) (by kernel_rfl) (by kernel_rfl) (fun _ _ _ h => h) (Or.inl ⟨by rfl, ?_⟩) (by assumption) ?_
          rotate_left
          · (intro w hSw; go_simp; first | done | (with_reducible rfl))
          simp only [Act.put, List.getElem_toArray, List.getElem_cons_succ, List.getElem_cons_zero, List.setIfInBounds_toArray, List.set_cons_zero, List.set_cons_succ]
          refine wpAnyH_take (i := 3) (oi := _) (v := ?_) rfl (by kernel_rfl) (by kernel_rfl) (by kernel_rfl) (fun _ _ _ h => h) (Or.inl ⟨by rfl, ?_⟩) (by assumption) ?_
          rotate_left
          · (intro w hSw; go_simp; first | done | (with_reducible rfl))
          simp only [Act.put, List.getElem_toArray, List.getElem_cons_succ, List.getElem_cons_zero, List.setIfInBounds_toArray, List.set_cons_zero, List.set_cons_succ]
          refine wpAnyH_take (i := 4) (oi := _) (v := ?_) rfl (by kernel_rfl) (by kernel_rfl) (by kernel_rfl) (fun _ _ _ h => h) (Or.inl ⟨by rfl, ?_⟩) (by assumption) ?_
          rotate_left
          · (intro w hSw; go_simp; first | done | (with_reducible rfl))
          simp only [Act.put, List.getElem_toArray, List.getElem_cons_succ, List.getElem_cons_zero, List.setIfInBounds_toArray, List.set_cons_zero, List.set_cons_succ]
          refine wpAnyH_take (i := 5) (oi := _) (v := ?_) rfl (by kernel_rfl) (by kernel_rfl) (by kernel_rfl) (fun _ _ _ h => h) (Or.inl ⟨by rfl, ?_⟩) (by assumption) ?_
          rotate_left
          · (intro w hSw; have x2 := HC.out w hSw; go_simp; first | done | (with_reducible rfl))
          simp only [Act.put, List.getElem_toArray, List.getElem_cons_succ, List.getElem_cons_zero, List.setIfInBounds_toArray, List.set_cons_zero, List.set_cons_succ]
          refine wpAnyH_take (i := 6) (oi := _) (v := ?_) rfl (by kernel_rfl) (by kernel_rfl) (by kernel_rfl) (fun _ _ _ h => h) (Or.inl ⟨by rfl, ?_⟩) (by assumption) ?_
          rotate_left
          · (intro w hSw; go_simp; first | done | (with_reducible rfl))
          simp only [Act.put, List.getElem_toArray, List.getElem_cons_succ, List.getElem_cons_zero, List.setIfInBounds_toArray, List.set_cons_zero, List.set_cons_succ]
          refine wpAnyH_ready (rs := [7]) (by kernel_rfl) (by simp) ?_
          refine AllReadyH.cons rfl (fun K hK => ?_) AllReadyH.nil
          go_simp
          go_wp2_with (go_at_call 130; refine (enc1_c w.heap.size (posn s k) (s.size - posn s k) (c - posn s k) ((p.1 : Int) + 32) (by omega) (by unfold large at hl; omega) _ (by omega) _ HZ.out.1 HZ.out.2).mono ?_; rintro e wa ⟨rfl, hwa⟩; have HW : Keep (FS w wa s (k + 1) ∧ Has wa tb [rv A, rv B, rv 32] 158) := ⟨by subst hwa; exact ⟨fs_one HB5.out.1 HB5.out.2.1 HB5.out.2.2.1 hp.out hl h1, HB5.out.2.2.2.other _ _ (by have := HT.out; simp; omega)⟩⟩; clear hwa)
          refine hK.out _ _ HW.out.2 (fun hHeld => ?_)
          clear hK K
          refine wpAnyH_done (by kernel_rfl) ?_ _
          clear hHeld HC
          go_wp2_with fail
          go_roundw
          case rel => exact ⟨k + 1, ⟨HW.out.1⟩⟩
          case measure => rw [show _ = posn s (k + 1) from HW.out.1.it.pos]; exact hm3.out
        · have h22 := cur_two hp.out hl h1
          have hP2 : posn s k + 1 < s.size := by have := posn_step hp.out; omega
          clear h22
          have hc0 := HX.out.1 _ _ (List.getElem?_eq_getElem (l := cur s k) (i := posn s k) (by rw [cur_len]; exact hP))
          have hc1 := HX.out.1 _ _ (List.getElem?_eq_getElem (l := cur s k) (i := posn s k + 1) (by rw [cur_len]; exact hP2))
          have hf0 := HX.out.2 (posn s k) (by rw [cur_len]; exact hP)
          have hf1 := HX.out.2 (posn s k + 1) (by rw [cur_len]; exact hP2)
          have HZ := Keep.mk (And.intro (And.intro hc0 hf0) (And.intro hc1 hf1))
          clear hc0 hf0 hc1 hf1 HX
          refine wp_region_held_drew (S := fun w' => Has w' tb [rv A, rv B, rv 32] 158) (by kernel_rfl) HB5.out.2.2.2 (fun hHeld => ?_)
          refine wpAnyH_take (i := 0) (oi := _) (v := ?_) rfl (by kernel_rfl) (by kernel_rfl) (by kernel_rfl) (fun _ _ _ h => h) (Or.inl ⟨by rfl, ?_⟩) (by assumption) ?_
          rotate_left
          · (intro w hSw; go_simp; first | done | (with_reducible rfl))
          simp only [Act.put, List.getElem_toArray, List.getElem_cons_zero, List.setIfInBounds_toArray, List.set_cons_zero, List.set_cons_succ]
          refine wpAnyH_take (i := 1) (oi := _) (v := ?_) rfl (by kernel_rfl) (by kernel_rfl) (by kernel_rfl) (fun _ _ _ h => h) (Or.inl ⟨by rfl, ?_⟩) (by assumption) ?_
          rotate_left
          · (intro w hSw; go_simp; first | done | (with_reducible rfl))
          simp only [Act.put, List.getElem_toArray, List.getElem_cons_succ, List.getElem_cons_zero, List.setIfInBounds_toArray, List.set_cons_zero, List.set_cons_succ]
          refine wpAnyH_take (i := 2) (oi := _) (v := ?_) rfl (by kernel_rfl) (by kernel_rfl) (by kernel_rfl) (fun _ _ _ h => h) (Or.inl ⟨by rfl, ?_⟩) (by assumption) ?_
          rotate_left
          · (intro w hSw; go_simp; first | done | (with_reducible rfl))
          simp only [Act.put, List.getElem_toArray, List.getElem_cons_succ, List.getElem_cons_zero, List.setIfInBounds_toArray, List.set_cons_zero, List.set_cons_succ]
          refine wpAnyH_take (i := 3) (oi := _) (v := ?_) rfl (by kernel_rfl) (by kernel_rfl) (by kernel_rfl) (fun _ _ _ h => h) (Or.inl ⟨by rfl, ?_⟩) (by assumption) ?_
          rotate_left
          · (intro w hSw; go_simp; first | done | (with_reducible rfl))
          simp only [Act.put, List.getElem_toArray, List.getElem_cons_succ, List.getElem_cons_zero, List.setIfInBounds_toArray, List.set_cons_zero, List.set_cons_succ]
          refine wpAnyH_take (i := 4) (oi := _) (v := ?_) rfl (by kernel_rfl) (by kernel_rfl) (by kernel_rfl) (fun _ _ _ h => h) (Or.inl ⟨by rfl, ?_⟩) (by assumption) ?_
          rotate_left
          · (intro w hSw; go_simp; first | done | (with_reducible rfl))
          simp only [Act.put, List.getElem_toArray, List.getElem_cons_succ, List.getElem_cons_zero, List.setIfInBounds_toArray, List.set_cons_zero, List.set_cons_succ]
          refine wpAnyH_take (i := 5) (oi := _) (v := ?_) rfl (by kernel_rfl) (by kernel_rfl) (by kernel_rfl) (fun _ _ _ h => h) (Or.inl ⟨by rfl, ?_⟩) (by assumption) ?_
          rotate_left
          · (intro w hSw; have x2 := HC.out w hSw; go_simp; first | done | (with_reducible rfl))
          simp only [Act.put, List.getElem_toArray, List.getElem_cons_succ, List.getElem_cons_zero, List.setIfInBounds_toArray, List.set_cons_zero, List.set_cons_succ]
          refine wpAnyH_take (i := 6) (oi := _) (v := ?_) rfl (by kernel_rfl) (by kernel_rfl) (by kernel_rfl) (fun _ _ _ h => h) (Or.inl ⟨by rfl, ?_⟩) (by assumption) ?_
          rotate_left
          · (intro w hSw; go_simp; first | done | (with_reducible rfl))
          simp only [Act.put, List.getElem_toArray, List.getElem_cons_succ, List.getElem_cons_zero, List.setIfInBounds_toArray, List.set_cons_zero, List.set_cons_succ]
          refine wpAnyH_ready (rs := [7]) (by kernel_rfl) (by simp) ?_
          refine AllReadyH.cons rfl (fun K hK => ?_) AllReadyH.nil
          go_simp
          go_wp2_with (go_at_call 130; refine (enc2_c w.heap.size (posn s k) (s.size - posn s k) (c - posn s k) ((p.1 : Int) + 32) (by unfold large at hl; omega) (by unfold large at hl; omega) _ (by omega) _ _ HZ.out.1.1 HZ.out.1.2 HZ.out.2.1 HZ.out.2.2 _ rfl).mono ?_; rintro e wa ⟨rfl, hwa⟩; have HW : Keep (FS w wa s (k + 1) ∧ Has wa tb [rv A, rv B, rv 32] 158) := ⟨by subst hwa; exact ⟨fs_two HB5.out.1 HB5.out.2.1 HB5.out.2.2.1 hp.out hl h1, (HB5.out.2.2.2.other _ _ (by have := HT.out; simp; omega)).other _ _ (by have := HT.out; simp; omega)⟩⟩; clear hwa)
          refine hK.out _ _ HW.out.2 (fun hHeld => ?_)
          clear hK K
          refine wpAnyH_done (by kernel_rfl) ?_ _
          clear hHeld HC
          go_wp2_with fail
          go_roundw
          case rel => exact ⟨k + 1, ⟨HW.out.1⟩⟩
          case measure => rw [show _ = posn s (k + 1) from HW.out.1.it.pos]; exact hm3.out
      · rw [hf]
        simp only [fndV]
        have HS4 : Keep (FS w (w3.alloc (.cells #[rv A, rv B, rv 0] 158)) s (k + 1)) := ⟨(FS.mk HB3.out.2.2 (by rw [cur_same hp.out hl]; exact HB3.out.1) HB3.out.2.1).kept (World.grownBy_alloc _ _ _)⟩
        clear hf HB3
        go_wp2_with fail
        go_roundw
        case rel => exact ⟨k + 1, HS4⟩
        case measure => rw [show _ = posn s (k + 1) from HS4.out.it.pos]; exact hm3.out
      · rw [hf]
        simp only [fndV]
        have HS4 : Keep (FS w (w3.alloc (.cells #[rv 0, rv 0, rv 0] 158)) s (k + 1)) := ⟨(FS.mk HB3.out.2.2 (by rw [cur_same hp.out hl]; exact HB3.out.1) HB3.out.2.1).kept (World.grownBy_alloc _ _ _)⟩
        clear hf HB3
        go_wp2_with fail
        go_roundw
        case rel => exact ⟨k + 1, HS4⟩
        case measure => rw [show _ = posn s (k + 1) from HS4.out.it.pos]; exact hm3.out

set_option maxRecDepth 100000 in
set_option maxHeartbeats 2000000 in
theorem same_c (a b : ByteArray) (w : World) (hk : Kc w) :
    Calls Tryz.prog 88 #[.string a, .string b] w fun e w' => e = .returned (.bool (decide (foldL (sl a) = foldL (sl b)))) ∧ w.grownBy w' none := by
  have HK := Keep.mk hk
  clear hk
  go_enter Tryz.func88, Tryz.ntmps88
  go_wp2_with fail
  refine (fold_c a _ HK.out).mono ?_
  rintro e w1 ⟨rfl, hG⟩
  have HG := Keep.mk hG
  clear hG
  go_wp2_with fail
  refine (fold_c b _ (HK.out.kept HG.out)).mono ?_
  rintro e w2 ⟨rfl, hG⟩
  have HG2 : Keep (w.grownBy w2 none) := ⟨HG.out.trans hG⟩
  clear hG
  have he : ((mk (foldL (sl a))).toList == (mk (foldL (sl b))).toList) = decide (foldL (sl a) = foldL (sl b)) := by
    rw [ByteArray.toList_eq, ByteArray.toList_eq]
    simp only [mk]
    by_cases h : foldL (sl a) = foldL (sl b)
    · rw [decide_eq_true h, h]; simp
    · rw [decide_eq_false h]; simpa using h
  have HE := Keep.mk he
  clear he
  go_wp2_with fail
  rw [HE.out]
  go_ret
  exact ⟨rfl, HG2.out⟩
end Go.Proofs.YtplcicbpkbamnabGreatDoor.Lo.Na

/- the laws' alive, num, less. -/
namespace Go.Proofs.YtplcicbpkbamnabGreatDoor.Lo.Na
open Go Go.RowKit

/-- the pieces, reckoned -/
def piecesF : Nat → List UInt8 → List (Nat × List UInt8)
  | 0, _ => []
  | n + 1, l => match l with
    | [] => []
    | b :: t => ((dec (b :: t)).1, (b :: t).take (dec (b :: t)).2) :: piecesF n ((b :: t).drop (dec (b :: t)).2)
set_option maxRecDepth 100000 in
theorem pieces_fuel : ∀ (n : Nat) (l : List UInt8), l.length ≤ n → pieces l = piecesF n l
  | 0, l, h => by
    obtain rfl : l = [] := List.eq_nil_of_length_eq_zero (by omega)
    rw [pieces_nil]; rfl
  | n + 1, [], _ => by rw [pieces_nil]; rfl
  | n + 1, b :: t, h => by
    have hw := dec_w (l := b :: t) (by simp)
    rw [pieces_cons _ (by simp), pieces_fuel n _ (by rw [List.length_drop]; simp at h ⊢; omega)]
    rfl
set_option maxRecDepth 100000 in
theorem pieces_self (l : List UInt8) : pieces l = piecesF l.length l := pieces_fuel _ _ (Nat.le_refl _)
end Go.Proofs.YtplcicbpkbamnabGreatDoor.Lo.Na

/- spell. -/
namespace Go.Proofs.YtplcicbpkbamnabGreatDoor.Lo.Na
open Go Go.RowKit

/-- a number as UTF-8 -/
def utfL (n : Nat) : List UInt8 :=
  if n < 128 then [UInt8.ofNat n]
  else if n < 2048 then [UInt8.ofNat (192 + n / 64), UInt8.ofNat (128 + n % 64)]
  else if n < 65536 then [UInt8.ofNat (224 + n / 4096), UInt8.ofNat (128 + n / 64 % 64), UInt8.ofNat (128 + n % 64)]
  else [UInt8.ofNat (240 + n / 262144), UInt8.ofNat (128 + n / 4096 % 64), UInt8.ofNat (128 + n / 64 % 64), UInt8.ofNat (128 + n % 64)]
def rune (n : Int) : Prop := 0 ≤ n ∧ n ≤ 1114111 ∧ (n < 55296 ∨ 57343 < n)

set_option maxRecDepth 100000 in
theorem bvi {n : Int} (h0 : 0 ≤ n) (h1 : n < 256) : (Value.int .u8 n) = bv (UInt8.ofNat n.toNat) := by
  have : (UInt8.ofNat n.toNat).toNat = n.toNat := by rw [UInt8.toNat_ofNat']; omega
  rw [bv, this]; congr 1; omega
set_option maxRecDepth 100000 in
theorem cvtL (l : List UInt8) (w : World) : (convert 120 9 (.slice (some ⟨w.heap.size, 0, none⟩) l.length l.length)).run Tryz.prog (w.alloc (.cells (l.map fun x => bv x).toArray 5)) = .ok (.string (mk l)) (w.alloc (.cells (l.map fun x => bv x).toArray 5)) := by
  refine cvt_back ⟨by simp, fun j x hx => ?_, fun j hj => ?_⟩ rfl
  · exact (Has.new w (l.map fun x => bv x) 5).cellv j _ (by rw [List.getElem?_map, hx]; rfl)
  · exact (Has.new w (l.map fun x => bv x) 5).frozen j

set_option maxRecDepth 100000 in
theorem ofn {k : Nat} (h : k < 256) : (UInt8.ofNat k).toNat = k := by rw [UInt8.toNat_ofNat']; omega
set_option maxRecDepth 100000 in
theorem wholeU {n : Nat} (h : n ≤ 1114111) (h2 : n < 55296 ∨ 57343 < n) : Whole (n, utfL n) := by
  unfold utfL
  split
  · have := whole_ascii (b := UInt8.ofNat n) (by rw [ofn (by omega)]; omega)
    rw [ofn (by omega)] at this
    exact this
  split
  · have e0 := ofn (show 192 + n / 64 < 256 by omega)
    have e1 := ofn (show 128 + n % 64 < 256 by omega)
    refine ⟨by simp, by simp only [List.getD_cons_zero, cont, e0, beq_eq_false_iff_ne]; omega, fun t => ?_⟩
    show dec (_ :: _ :: t) = (n, 2)
    rw [dec_two (by rw [e0]; omega) (by rw [e1]; omega) (by rw [e0, e1]; omega), e0, e1]
    congr 1; omega
  split
  · have e0 := ofn (show 224 + n / 4096 < 256 by omega)
    have e1 := ofn (show 128 + n / 64 % 64 < 256 by omega)
    have e2 := ofn (show 128 + n % 64 < 256 by omega)
    refine ⟨by simp, by simp only [List.getD_cons_zero, cont, e0, beq_eq_false_iff_ne]; omega, fun t => ?_⟩
    show dec (_ :: _ :: _ :: t) = (n, 3)
    rw [dec_three (by rw [e0]; omega) (by rw [e1]; omega) (by rw [e2]; omega) (by rw [e0, e1, e2]; omega), e0, e1, e2]
    congr 1; omega
  · have e0 := ofn (show 240 + n / 262144 < 256 by omega)
    have e1 := ofn (show 128 + n / 4096 % 64 < 256 by omega)
    have e2 := ofn (show 128 + n / 64 % 64 < 256 by omega)
    have e3 := ofn (show 128 + n % 64 < 256 by omega)
    refine ⟨by simp, by simp only [List.getD_cons_zero, cont, e0, beq_eq_false_iff_ne]; omega, fun t => ?_⟩
    show dec (_ :: _ :: _ :: _ :: t) = (n, 4)
    rw [dec_four (by rw [e0]; omega) (by rw [e1]; omega) (by rw [e2]; omega) (by rw [e3]; omega) (by rw [e0, e1, e2, e3]; omega), e0, e1, e2, e3]
    congr 1; omega
set_option maxRecDepth 100000 in
theorem dec_cont {b : UInt8} (h0 : 128 ≤ b.toNat) (h1 : b.toNat < 192) (t : List UInt8) : dec (b :: t) = (65533, 1) := by
  rw [dec_cons, Lib.decodeN, if_neg (by omega), if_neg (by omega), if_neg (by omega), if_neg (by omega)]
def odds (l : List UInt8) : List (Nat × List UInt8) := l.map fun b => (65533, [b])
set_option maxRecDepth 100000 in
theorem flat_odds (l : List UInt8) : flat (odds l) = l := by
  induction l with
  | nil => rfl
  | cons b l ih => rw [odds, List.map_cons, flat_cons]; simp only [List.singleton_append]; congr 1
set_option maxRecDepth 100000 in
theorem oddU {n : Nat} (h : n ≤ 1114111) (h1 : 128 ≤ n) : pieces (utfL n).dropLast = odds (utfL n).dropLast := by
  have key : Good (odds (utfL n).dropLast) := by
    unfold utfL
    rw [if_neg (by omega)]
    split
    · have e0 := ofn (show 192 + n / 64 < 256 by omega)
      refine .odd (by rw [e0]; omega) ?_ .nil
      show dec [_] = _
      rw [dec_cons, Lib.decodeN, e0, if_neg (by omega), if_neg (by simp), if_neg (by simp), if_neg (by simp)]
    split
    · have e0 := ofn (show 224 + n / 4096 < 256 by omega)
      have e1 := ofn (show 128 + n / 64 % 64 < 256 by omega)
      refine .odd (by rw [e0]; omega) ?_ (.odd (by rw [e1]; omega) (dec_cont (by rw [e1]; omega) (by rw [e1]; omega) _) .nil)
      show dec [_, _] = _
      rw [dec_cons, Lib.decodeN, e0, if_neg (by omega), if_neg (by omega), if_neg (by simp), if_neg (by omega)]
    · have e0 := ofn (show 240 + n / 262144 < 256 by omega)
      have e1 := ofn (show 128 + n / 4096 % 64 < 256 by omega)
      have e2 := ofn (show 128 + n / 64 % 64 < 256 by omega)
      refine .odd (by rw [e0]; omega) ?_ (.odd (by rw [e1]; omega) (dec_cont (by rw [e1]; omega) (by rw [e1]; omega) _) (.odd (by rw [e2]; omega) (dec_cont (by rw [e2]; omega) (by rw [e2]; omega) _) .nil))
      show dec [_, _, _] = _
      rw [dec_cons, Lib.decodeN, e0, if_neg (by omega), if_neg (by omega), if_neg (by omega), if_neg (by simp)]
  have := pieces_of_good key
  rwa [flat_odds] at this
end Go.Proofs.YtplcicbpkbamnabGreatDoor.Lo.Na

/- alike, odd. -/
namespace Go.Proofs.YtplcicbpkbamnabGreatDoor.Lo.Na
open Go Go.RowKit

set_option maxRecDepth 100000 in
theorem whole_utf {p : Nat × List UInt8} (h : Whole p) (hx : p.2.length = 1 → p.1 < 128) : p.2 = utfL p.1 := by
  by_cases h1 : p.1 < 128
  · rw [whole_one h h1, utfL, if_pos h1]
  by_cases h2 : p.1 < 2048
  · rw [whole_two h (by omega) h2, utfL, if_neg h1, if_pos h2]
  obtain ⟨h3, h4, h5⟩ := h
  obtain ⟨n, bs⟩ := p
  simp only at *
  match bs, h3 with
  | b :: t, _ =>
    have e := h5 []
    rw [List.append_nil] at e
    have hb2 := b.toNat_lt
    cases form b t with
    | one hb t => rw [dec_ascii hb] at e; have e1 := congrArg Prod.fst e; simp only at e1; omega
    | @two c hb hc hv t => rw [dec_two hb hc hv] at e; have e1 := congrArg Prod.fst e; simp only at e1; omega
    | @three c d hb hc hd hv t =>
      rw [dec_three hb hc hd hv] at e
      have e1 := congrArg Prod.fst e
      have e2 := congrArg Prod.snd e
      simp only [List.length_cons] at e1 e2
      obtain rfl : t = [] := List.eq_nil_of_length_eq_zero (by omega)
      have hc2 := c.toNat_lt
      have hd2 := d.toNat_lt
      rw [utfL, if_neg h1, if_neg h2, if_pos (by omega), show 224 + n / 4096 = b.toNat by omega, show 128 + n / 64 % 64 = c.toNat by omega, show 128 + n % 64 = d.toNat by omega]
      simp
    | @four c d f hb hc hd hf hv t =>
      rw [dec_four hb hc hd hf hv] at e
      have e1 := congrArg Prod.fst e
      have e2 := congrArg Prod.snd e
      simp only [List.length_cons] at e1 e2
      obtain rfl : t = [] := List.eq_nil_of_length_eq_zero (by omega)
      have hc2 := c.toNat_lt
      have hd2 := d.toNat_lt
      have hf2 := f.toNat_lt
      rw [utfL, if_neg h1, if_neg h2, if_neg (by omega), show 240 + n / 262144 = b.toNat by omega, show 128 + n / 4096 % 64 = c.toNat by omega, show 128 + n / 64 % 64 = d.toNat by omega, show 128 + n % 64 = f.toNat by omega]
      simp
    | odd hb _ =>
      exfalso
      rw [hb] at e
      have e2 := congrArg Prod.snd e
      simp only [List.length_cons] at e2
      exact h1 (hx (by rw [List.length_cons]; omega))
set_option maxRecDepth 100000 in
theorem kind2 {p : Nat × List UInt8} (h : Whole p ∨ Odd p) : (Whole p ∧ (p.2.length = 1 → p.1 < 128)) ∨ Odd p := by
  rcases h with h | h
  · by_cases hx : p.2.length = 1 → p.1 < 128
    · exact .inl ⟨h, hx⟩
    · right
      have h1 : p.2.length = 1 := Classical.byContradiction fun h2 => hx fun h3 => absurd h3 h2
      have h2 : ¬ p.1 < 128 := fun h2 => hx fun _ => h2
      obtain ⟨n, bs⟩ := p
      match bs, h1 with
      | [b], _ =>
        have e := h.2.2 []
        simp only [List.append_nil] at e
        by_cases hb : b.toNat < 128
        · rw [dec_ascii hb] at e
          have e1 := congrArg Prod.fst e
          simp only at e1 h2
          omega
        · refine ⟨b, ?_, by omega⟩
          have : dec [b] = (65533, 1) := by
            rw [dec_cons]; simp [Lib.decodeN, hb]
          rw [this] at e
          have e1 := congrArg Prod.fst e
          simp only at e1
          rw [e1]
  · exact .inr h
/-- a byte that begins no rune, or U+FFFD -/
def oddL (l : List UInt8) : Bool := (decide (l.length = 1) && decide (128 ≤ (l.getD 0 0).toNat)) || decide (l = [239, 191, 189])
set_option maxRecDepth 100000 in
theorem odd_iff {p : Nat × List UInt8} (h : Whole p ∨ Odd p) : oddL p.2 = decide (p.1 = 65533) := by
  rcases kind2 h with ⟨hw, hx⟩ | ⟨b, rfl, hb⟩
  · by_cases h1 : p.1 = 65533
    · have := whole_utf hw hx
      rw [h1] at this
      rw [decide_eq_true h1, this]; decide
    · rw [decide_eq_false h1]
      unfold oddL
      rw [Bool.or_eq_false_iff, Bool.and_eq_false_iff]
      constructor
      · by_cases hl : p.2.length = 1
        · right
          have h2 := whole_one hw (hx hl)
          rw [h2]
          simp only [List.getD_cons_zero, decide_eq_false_iff_not]
          rw [ofn (by have := hx hl; omega)]
          have := hx hl
          omega
        · exact .inl (decide_eq_false hl)
      · apply decide_eq_false
        intro e
        apply h1
        have := hw.2.2 []
        rw [List.append_nil, e] at this
        have e2 := congrArg Prod.fst this
        rw [show (dec [239, 191, 189]).1 = 65533 by decide] at e2
        exact e2.symm
  · simp [oddL, hb]
/-- two runes are one just if their bytes are, or both are odd -/
theorem piece_eq {p q : Nat × List UInt8} (hp : Whole p ∨ Odd p) (hq : Whole q ∨ Odd q) : p.1 = q.1 ↔ (p.2 = q.2 ∨ (oddL p.2 = true ∧ oddL q.2 = true)) := by
  rw [odd_iff hp, odd_iff hq, decide_eq_true_eq, decide_eq_true_eq]
  constructor
  · intro h
    by_cases h1 : p.1 = 65533
    · exact .inr ⟨h1, by omega⟩
    · left
      rcases kind2 hp with ⟨pw, px⟩ | ⟨b, rfl, hb⟩
      · rcases kind2 hq with ⟨qw, qx⟩ | ⟨b, rfl, hb⟩
        · rw [whole_utf pw px, whole_utf qw qx, h]
        · exact absurd h h1
      · exact absurd rfl h1
  · rintro (h | ⟨h1, h2⟩)
    · by_cases h1 : p.1 = 65533
      · have e := odd_iff hp
        rw [h, odd_iff hq, decide_eq_decide] at e
        rw [h1, e.2 h1]
      · have h2 : q.1 ≠ 65533 := fun h2 => h1 (by
          have e := odd_iff hp
          rw [h, odd_iff hq, decide_eq_decide] at e
          exact e.1 h2)
        rcases kind2 hp with ⟨pw, px⟩ | ⟨b, rfl, hb⟩
        · rcases kind2 hq with ⟨qw, qx⟩ | ⟨b, rfl, hb⟩
          · have e1 := pw.2.2 []
            have e2 := qw.2.2 []
            rw [h, e2] at e1
            exact (congrArg Prod.fst e1).symm
          · exact absurd rfl h2
        · exact absurd rfl h1
    · omega
set_option maxRecDepth 100000 in
theorem good_kind {p : Nat × List UInt8} {ps : List (Nat × List UInt8)} (g : Good (p :: ps)) : (Whole p ∨ Odd p) ∧ Good ps ∧ p.2 ≠ [] := by
  cases g with
  | whole h g => exact ⟨.inl h, g, h.1⟩
  | odd hb h g => exact ⟨.inr ⟨_, rfl, hb⟩, g, by simp⟩

set_option maxRecDepth 100000 in
theorem strEq (x y : ByteArray) : (x.toList == y.toList) = decide (sl x = sl y) := by
  rw [ByteArray.toList_eq, ByteArray.toList_eq]
  by_cases h : sl x = sl y
  · rw [decide_eq_true h]; unfold sl at h; rw [h]; simp
  · rw [decide_eq_false h]; unfold sl at h; simpa using h
set_option maxRecDepth 100000 in
theorem sl_at' (s : ByteArray) (i : Nat) (h : i < s.size) : (sl s)[i]? = some s[i] := by
  unfold sl
  rw [Array.getElem?_toList]
  exact Array.getElem?_eq_getElem h
set_option maxRecDepth 100000 in
theorem idx9' (s : ByteArray) (i : Nat) (y : UInt8) (h : i < s.size) (hy : (sl s)[i]? = some y) (W : World) : (Instr.index 9 (.string s) (.int .i64 (i : Int))).run Tryz.prog W = .ok (.int .u8 y.toNat) W := by
  rw [run_index_string W 9 s .i64 i (by kernel_rfl), dif_pos ⟨by omega, by omega⟩]
  rw [sl_at' s i h] at hy
  simp only [Int.toNat_natCast, Option.some.inj hy]

end Go.Proofs.YtplcicbpkbamnabGreatDoor.Lo.Na

