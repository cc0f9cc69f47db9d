/- mac.Tag, mac.Derive, and the laws' first words -/
import Derived.Test.YtbmnlhmelbhjeaaDoorMaM4
namespace Go.Proofs.YtbmnlhmelbhjeaaDoor
open Go Go.RowKit

def hmacB (key text : ByteArray) : ByteArray := ⟨(Mac.hmac (sl key) (sl text)).toArray⟩
theorem hmacB_sl (key text : ByteArray) : sl (hmacB key text) = Mac.hmac (sl key) (sl text) := sl_mk _

/-- a new variable that holds a key's pad -/
theorem keyVar (w3 : World) (C : Array Value) (hC : C.size = 64) (S : List UInt8) (hS : S.length = 64) (w4 : World) (h : (w3.alloc (.cells C 61)).setCells w3.heap.size 0 (S.map bv) = w4) : Has w4 w3.heap.size (S.map bv) 61 ∧ w3.grownBy w4 none := by
  subst h
  refine ⟨(Has.newA w3 C 61).setAll _ (by simp [hC, hS]), gr_new (World.grownBy_alloc _ _ _) (gr_sets _ _ _ _) (Nat.le_refl _)⟩
theorem info47 (S : List UInt8) (hS : S.length = 64) : (Tryd.prog.info? 61).map (·.size) = some (S.map bv).length := by
  rw [List.length_map, hS]; exact size41
/-- where a tag stands: the pad in N, what was written to the inner sum in bo -/
structure TS (w w' : World) (N bo : Nat) (q T : List UInt8) : Prop where
  k : Has w' N (q.map bv) 61
  h : HashOf w' bo T
  g : w.grownBy w' none
  kc : Kc w'
  n2 : 0 ≠ bo
  hb : w.heap.size ≤ bo
  ne : N ≠ bo
theorem TS.wrote {w w' w2 : World} {N bo : Nat} {q T x : List UInt8} (h : TS w w' N bo q T) (h2 : HashOf w2 bo (T ++ x)) (g : w'.grownBy w2 (some bo)) : TS w w2 N bo q (T ++ x) :=
  ⟨h.k.kept g (by simpa using h.ne), h2, gr_new h.g g h.hb, h.kc.kept g (by simpa using h.n2), h.n2, h.hb, h.ne⟩
theorem TS.grow {w w' w2 : World} {N bo : Nat} {q T : List UInt8} (h : TS w w' N bo q T) (g : w'.grownBy w2 none) : TS w w2 N bo q T :=
  ⟨h.k.kept g (by simp), h.h.kept g (by simp), h.g.trans g, h.kc.kept g (by simp), h.n2, h.hb, h.ne⟩
theorem TS.start {w w2 w3 : World} {N bo : Nat} {q T : List UInt8} (hk : Has w2 N (q.map bv) 61) (g2 : w.grownBy w2 none) (kc : Kc w2) (h3 : HashOf w3 bo T) (g3 : w2.grownBy w3 none) (hbo : w2.heap.size ≤ bo) : TS w w3 N bo q T :=
  ⟨hk.kept g3 (by simp), h3, g2.trans g3, kc.kept g3 (by simp), by have := kc.lt; omega, by have := g2.size; omega, by have := hk.lt; omega⟩

def jefe : ByteArray := { data := #[74, 101, 102, 101] }
def what : ByteArray := { data := #[119, 104, 97, 116, 32, 100, 111, 32, 121, 97, 32, 119, 97, 110, 116, 32, 102, 111, 114, 32, 110, 111, 116, 104, 105, 110, 103, 63] }
def rfc2 : ByteArray := { data := #[91, 220, 193, 70, 191, 96, 117, 78, 106, 4, 36, 38, 8, 149, 117, 199, 90, 0, 63, 8, 157, 39, 57, 131, 157, 236, 88, 185, 100, 236, 56, 67] }
set_option maxRecDepth 100000 in
theorem rfc2_eq : hmacB jefe what = rfc2 := by kernel_rfl

end Go.Proofs.YtbmnlhmelbhjeaaDoor
