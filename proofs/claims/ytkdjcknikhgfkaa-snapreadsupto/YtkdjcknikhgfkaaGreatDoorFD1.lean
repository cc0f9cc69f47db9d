import Derived.Test.YtkdjcknikhgfkaaGreatDoorFB4
/- frame.Encode -/
namespace Go.Proofs.YtkdjcknikhgfkaaGreatDoor.Pk
open Go Go.RowKit

/-- a datagram as a value: the cells of a struct lie flat -/
def dv (d : Dg) : Value := .agg #[.int .i64 d.kind, .string d.nonce, .int .u64 d.epoch, .string d.cookie, .string d.name, .int .u64 d.session, .int .i64 d.player, .string d.salt, .int .u64 d.seq, .int .i64 d.thr, .int .i64 d.turn, .bool d.fire, .bool d.boost, .string d.data, .string d.tag]
set_option maxRecDepth 100000 in
theorem ly_len (d : Dg) (f : Fd) (s : LS) (h : d.small) : ((ly d f s).1.getD []).length ≤ (s.1.getD []).length + 1099511627785 := by
  obtain ⟨st, r⟩ := s
  have hz : zero76.length = 76 := rfl
  cases f <;> dsimp only [ly]
  case nonce => have := wBytes_len st (sl d.nonce); have := h.n; rw [sl_len] at *; omega
  case salt => have := wBytes_len st (sl d.salt); have := h.s; rw [sl_len] at *; omega
  case cookie => have := wBytes_len st (sl d.cookie); have := h.c; rw [sl_len] at *; omega
  case tag => have := wBytes_len st (sl d.tag); have := h.t; rw [sl_len] at *; omega
  case view => have := wBytes_len st (sl d.data); have := h.dt; rw [sl_len] at *; omega
  case name => have := wText_len st (sl d.name); have := h.m; rw [sl_len] at *; omega
  case zeros => have := wBytes_len st zero76; omega
  case epoch => have := wNum_len st d.epoch 8; omega
  case session => have := wNum_len st d.session 8; omega
  case seq => have := wNum_len st d.seq 8; omega
  case player => have := wNum_len st (u64 d.player) 1; omega
  case flags => have := wNum_len st (flagsN d) 1; omega
  case thr => have := wSig_len st d.thr 1; omega
  case turn => have := wSig_len st d.turn 1; omega
set_option maxRecDepth 100000 in
theorem lays_len (d : Dg) (h : d.small) : ∀ (fs : List Fd) (s : LS), ((lays d fs s).1.getD []).length ≤ (s.1.getD []).length + 1099511627785 * fs.length
  | [], s => by simp [lays]
  | f :: fs, s => by
    have h1 := lays_len d h fs (ly d f s)
    have h2 := ly_len d f s h
    have e : lays d (f :: fs) s = lays d fs (ly d f s) := rfl
    rw [e, List.length_cons]
    omega
set_option maxRecDepth 100000 in
theorem lays_take (d : Dg) (fs : List Fd) (s : LS) (k : Nat) (f : Fd) (h : fs[k]? = some f) : lays d (fs.take (k + 1)) s = ly d f (lays d (fs.take k) s) := by
  have hk := (List.getElem?_eq_some_iff.1 h)
  obtain ⟨hk, rfl⟩ := hk
  rw [List.take_succ_eq_append_getElem hk, lays, lays, List.foldl_append]
  rfl
/-- where Encode's loop stands -/
structure EL (w1 wr : World) (db ob wb : Nat) (d : Dg) (fs : List Fd) (hd : List UInt8) (k : Nat) (v : Value) : Prop where
  g : w1.grownBy wr none
  l : Lay wr db ob wb v d.cells (lays d (fs.take k) (some hd, false)).1 (lays d (fs.take k) (some hd, false)).2
  o : w1.heap.size ≤ ob
  b : w1.heap.size ≤ wb
  v : ∀ k, v.ownBlock = some k → w1.heap.size ≤ k
set_option maxRecDepth 100000 in
theorem EL.next {w1 wr wz : World} {db ob wb : Nat} {d : Dg} {fs : List Fd} {hd : List UInt8} {k : Nat} {v v' : Value} {f : Fd} (h : EL w1 wr db ob wb d fs hd k v) (hf : fs[k]? = some f) (hs : d.small) (hh : hd.length ≤ 4) (h6 : fs.length ≤ 6) (hdb : db < w1.heap.size)
    (o : OD wr wz ob wb v (ly d f (lays d (fs.take k) (some hd, false))).1 (ly d f (lays d (fs.take k) (some hd, false))).2 v') : EL w1 wz db ob wb d fs hd (k + 1) v' := by
  have hv : ∀ k, v'.ownBlock = some k → w1.heap.size ≤ k := fun j e => by
    rcases o.n j e with q | q
    · exact h.v j q
    · exact Nat.le_trans h.g.size q
  refine ⟨fr_mine h.g o.f (fun i e => ?_), ⟨h.l.d.fr o.f h.l.n, ?_, not_of hdb h.o h.b hv, ?_⟩, h.o, h.b, hv⟩
  · rcases e with e | e | e
    · rw [e]; exact h.o
    · rw [e]; exact h.b
    · exact h.v i e
  · rw [lays_take d fs _ k f hf]; exact o.a
  · have h1 := lays_len d hs (fs.take (k + 1)) (some hd, false)
    have h2 : (fs.take (k + 1)).length ≤ 6 := by rw [List.length_take]; omega
    simp only [Option.getD_some] at h1
    omega
end Go.Proofs.YtkdjcknikhgfkaaGreatDoor.Pk
