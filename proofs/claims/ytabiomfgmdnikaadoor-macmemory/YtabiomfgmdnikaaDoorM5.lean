/- mac.Tag, mac.Derive, and the laws' first words -/
import Derived.Test.YtabiomfgmdnikaaDoorM4
namespace Go.Proofs.YtabiomfgmdnikaaDoor
open Go Go.RowKit

def hmacB (key text : ByteArray) : ByteArray := ⟨(Mac.hmac (sl key) (sl text)).toArray⟩
theorem hmacB_sl (key text : ByteArray) : sl (hmacB key text) = Mac.hmac (sl key) (sl text) := sl_mk _

/-- a new variable that holds a key's pad -/
theorem keyVar (w3 : World) (C : Array Value) (hC : C.size = 64) (S : List UInt8) (hS : S.length = 64) (w4 : World) (h : (w3.alloc (.cells C 47)).setCells w3.heap.size 0 (S.map bv) = w4) : Has w4 w3.heap.size (S.map bv) 47 ∧ w3.grownBy w4 none := by
  subst h
  refine ⟨(Has.newA w3 C 47).setAll _ (by simp [hC, hS]), gr_new (World.grownBy_alloc _ _ _) (gr_sets _ _ _ _) (Nat.le_refl _)⟩
theorem info47 (S : List UInt8) (hS : S.length = 64) : (Tryd.prog.info? 47).map (·.size) = some (S.map bv).length := by
  rw [List.length_map, hS]; exact size41
/-- where a tag stands: the pad in N, what was written to the inner sum in bo -/
structure TS (w w' : World) (N bo : Nat) (q T : List UInt8) : Prop where
  k : Has w' N (q.map bv) 47
  h : HashOf w' bo T
  g : w.grownBy w' none
  kc : Kc w'
  n2 : 2 ≠ bo
  hb : w.heap.size ≤ bo
  ne : N ≠ bo
theorem TS.wrote {w w' w2 : World} {N bo : Nat} {q T x : List UInt8} (h : TS w w' N bo q T) (h2 : HashOf w2 bo (T ++ x)) (g : w'.grownBy w2 (some bo)) : TS w w2 N bo q (T ++ x) :=
  ⟨h.k.kept g (by simpa using h.ne), h2, gr_new h.g g h.hb, h.kc.kept g (by simpa using h.n2), h.n2, h.hb, h.ne⟩
theorem TS.grow {w w' w2 : World} {N bo : Nat} {q T : List UInt8} (h : TS w w' N bo q T) (g : w'.grownBy w2 none) : TS w w2 N bo q T :=
  ⟨h.k.kept g (by simp), h.h.kept g (by simp), h.g.trans g, h.kc.kept g (by simp), h.n2, h.hb, h.ne⟩
theorem TS.start {w w2 w3 : World} {N bo : Nat} {q T : List UInt8} (hk : Has w2 N (q.map bv) 47) (g2 : w.grownBy w2 none) (kc : Kc w2) (h3 : HashOf w3 bo T) (g3 : w2.grownBy w3 none) (hbo : w2.heap.size ≤ bo) : TS w w3 N bo q T :=
  ⟨hk.kept g3 (by simp), h3, g2.trans g3, kc.kept g3 (by simp), by have := kc.lt; omega, by have := g2.size; omega, by have := hk.lt; omega⟩

set_option maxRecDepth 100000 in
set_option maxHeartbeats 4000000 in
theorem tag_any (key text : ByteArray) (w : World) (hk : Kc w) (h1 : key.size ≤ 2305843009213693952) (h2 : text.size ≤ 2305843009213693952) :
    Calls Tryd.prog 11 #[.string key, .string text] w fun e w' => e = .returned (.string (hmacB key text)) ∧ w.grownBy w' none := by
  have HK : Keep (Kc w) := ⟨hk⟩
  have HL : Keep ((Mac.keyOf (sl key)).length = 64 ∧ (Mac.kx 54 (Mac.keyOf (sl key))).length = 64 ∧ (sl text).length ≤ 2305843009213693952) := ⟨Mac.keyOf_len _, by rw [Mac.kx_len, Mac.keyOf_len], by rw [sl_len]; exact h2⟩
  clear hk
  go_enter Tryd.func11, Tryd.ntmps11
  go_wp2_with (first
    | (go_at_call 29; refine (mpad_any key _ HK.out (by omega)).mono ?_; rintro e w1 ⟨rfl, g1⟩
       have H1 : Keep (w.grownBy w1 none ∧ Kc w1) := ⟨g1, HK.out.kept g1 (by simp)⟩
       generalize hq : Mac.keyOf (sl key) = q at HL ⊢
       have HQ : Keep (Mac.keyOf (sl key) = q) := ⟨hq⟩
       clear g1 hq)
    | (refine wpList_store_mid rfl 47 _ _ rfl _ _ _ rfl rfl ((Has.newA w1 _ 47).there 0 _ (by rw [List.size_toArray, List.length_map, HL.out.1]; decide)) (info47 q HL.out.1) (bytes_one _) ?_
       generalize hw2 : World.setCells _ _ _ _ = w2
       obtain ⟨h2, g2⟩ := keyVar w1 _ rfl q HL.out.1 w2 hw2
       have H2 : Keep (Has w2 w1.heap.size (q.map bv) 47 ∧ w.grownBy w2 none ∧ Kc w2) := ⟨h2, H1.out.1.trans g2, H1.out.2.kept g2 (by simp)⟩
       clear h2 g2 hw2)
    | (refine wpList_load_mid rfl 47 _ rfl _ _ rfl _ _ H2.out.1.range under41 rfl (info47 q HL.out.1) ?_))
  refine (begin_any q _ 54 w2 ⟨rfl⟩ HL.out.1 H2.out.2.2).mono ?_
  rintro e w3 ⟨bo, rfl, h3, g3, hbo⟩
  have H3 : Keep (TS w w3 w1.heap.size bo q (Mac.kx 54 q)) := ⟨TS.start H2.out.1 H2.out.2.1 H2.out.2.2 h3 g3 hbo⟩
  clear h3 g3 hbo
  go_wp2_with (first
    | (go_at_call 31; refine (mwrite_any bo _ text w3 H3.out.h H3.out.kc H3.out.n2 (by rw [HL.out.2.1]; omega)).mono ?_; rintro e w4 ⟨rfl, h4, g4⟩
       have H4 : Keep (TS w w4 w1.heap.size bo q (Mac.kx 54 q ++ sl text)) := ⟨H3.out.wrote h4 g4⟩
       clear h4 g4)
    | (refine wpList_load_mid rfl 47 _ rfl _ _ rfl _ _ H4.out.k.range under41 rfl (info47 q HL.out.1) ?_)
    | (go_at_call 32; refine (end_any q _ bo _ w4 ⟨rfl⟩ HL.out.1 H4.out.h H4.out.kc (by have := HL.out.2; rw [List.length_append]; omega)).mono ?_; rintro e w5 ⟨rfl, g5⟩
       have H5 : Keep (w.grownBy w5 none) := ⟨H4.out.g.trans g5⟩
       clear g5))
  go_ret
  exact ⟨by rw [hmacB, Mac.hmac, HQ.out]; rfl, H5.out⟩

def jefe : ByteArray := { data := #[74, 101, 102, 101] }
def what : ByteArray := { data := #[119, 104, 97, 116, 32, 100, 111, 32, 121, 97, 32, 119, 97, 110, 116, 32, 102, 111, 114, 32, 110, 111, 116, 104, 105, 110, 103, 63] }
def rfc2 : ByteArray := { data := #[91, 220, 193, 70, 191, 96, 117, 78, 106, 4, 36, 38, 8, 149, 117, 199, 90, 0, 63, 8, 157, 39, 57, 131, 157, 236, 88, 185, 100, 236, 56, 67] }
theorem rfc2_eq : hmacB jefe what = rfc2 := by kernel_rfl

set_option maxRecDepth 100000 in
set_option maxHeartbeats 4000000 in
theorem malive_any (w : World) (hk : Kc w) :
    Calls Tryd.prog 9 #[] w fun e w' => e = .returned (.bool true) ∧ w.grownBy w' none := by
  have HK : Keep (Kc w) := ⟨hk⟩
  clear hk
  have i0 : ∀ W, (Instr.index 9 (.string rfc2) (.int .i64 0)).run Tryd.prog W = .ok (.int .u8 91) W := idx9 rfc2 0 91 (by decide) rfl
  have i1 : ∀ W, (Instr.index 9 (.string rfc2) (.int .i64 1)).run Tryd.prog W = .ok (.int .u8 220) W := idx9 rfc2 1 220 (by decide) rfl
  have i2 : ∀ W, (Instr.index 9 (.string rfc2) (.int .i64 2)).run Tryd.prog W = .ok (.int .u8 193) W := idx9 rfc2 2 193 (by decide) rfl
  have i30 : ∀ W, (Instr.index 9 (.string rfc2) (.int .i64 30)).run Tryd.prog W = .ok (.int .u8 56) W := idx9 rfc2 30 56 (by decide) rfl
  have i31 : ∀ W, (Instr.index 9 (.string rfc2) (.int .i64 31)).run Tryd.prog W = .ok (.int .u8 67) W := idx9 rfc2 31 67 (by decide) rfl
  have hsz : rfc2.size = 32 := rfl
  go_enter Tryd.func9, Tryd.ntmps9
  go_wp2_with fail
  refine (tag_any jefe what _ HK.out (by decide) (by decide)).mono ?_
  rintro e w1 ⟨rfl, g1⟩
  have H1 : Keep (w.grownBy w1 none) := ⟨g1⟩
  rw [rfc2_eq]
  generalize rfc2 = X at i0 i1 i2 i30 i31 hsz ⊢
  clear g1
  go_wp2
  go_ret
  exact ⟨rfl, H1.out⟩

end Go.Proofs.YtabiomfgmdnikaaDoor
