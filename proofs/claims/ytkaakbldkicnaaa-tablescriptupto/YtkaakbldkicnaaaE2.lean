/- TableTurns' two functions. -/
import Derived.Test.YtkaakbldkicnaaaE1
import Derived.Test.YtkaakbldkicnaaaP4
namespace Go.Proofs.Ytkaakbldkicnaaa
open Go Go.RowKit Go.Maps

theorem Sep.boxNe {w0 W : World} {l : List As} {b c : Nat} {cs ds : List Value} {t u : TypeId} (h : Sep w0 W (boxA b cs t :: l)) (hm : boxA c ds u ∈ l) : b ≠ c := by
  obtain ⟨m, hm1, hp, hd⟩ := h.ex
  cases m with
  | nil => cases hm1
  | cons o m =>
    simp only [List.map_cons, List.cons.injEq] at hm1
    obtain ⟨e1, rfl⟩ := hm1
    obtain ⟨q, hq, e2⟩ := List.mem_map.1 hm
    have h1 := (hp o (List.mem_cons_self ..)).1
    have h2 := (hp q (List.mem_cons_of_mem _ hq)).1
    rw [e1] at h1
    rw [e2] at h2
    have h3 := (List.pairwise_cons.1 hd).1 q hq b
    rw [h1.2, h2.2] at h3
    exact fun e => h3 rfl e
theorem Sep.boxGet {w0 W : World} {l : List As} {b : Nat} {cs : List Value} {t : TypeId} (h : Sep w0 W l) (hm : boxA b cs t ∈ l) : Has W b cs t := by
  obtain ⟨F, q, _⟩ := h.get hm
  exact q
theorem Sep.boxSet {w0 W : World} {l : List As} {b : Nat} {v : Value} {t : TypeId} (h : Sep w0 W (boxA b [v] t :: l)) (x : Value) : Sep w0 (W.setCell ⟨b, 0, none⟩ x) (boxA b [x] t :: l) := by
  obtain ⟨F, ⟨h1, rfl⟩, _, hu⟩ := h.use
  exact hu _ [_] (fr_set _ _ _ _ _ rfl) (Loc.one (a := boxA _ _ _) _ ⟨h1.setCell 0 x, rfl⟩ (fun i hi => .inl hi))
theorem k0m {a : As} {l : List As} : a ∈ a :: l := List.mem_cons_self ..
theorem k1m {a b : As} {l : List As} : a ∈ b :: a :: l := List.mem_cons_of_mem _ k0m
theorem k2m {a b c : As} {l : List As} : a ∈ b :: c :: a :: l := List.mem_cons_of_mem _ k1m
theorem k3m {a b c d : As} {l : List As} : a ∈ b :: c :: d :: a :: l := List.mem_cons_of_mem _ k2m
theorem k4m {a b c d e : As} {l : List As} : a ∈ b :: c :: d :: e :: a :: l := List.mem_cons_of_mem _ k3m
set_option maxHeartbeats 2000000 in
theorem clos1_c (w0 W : World) (cb ab : Nat) (k : ByteArray) (x add : Int) (vc : Value) (xs : List ByteArray) (l : List As) (h : Sep w0 W (boxA cb [vc] 22 :: rowA vc xs :: boxA ab [iv add] 3 :: l)) (hn : xs.length ≤ 4096) :
    Calls Try.prog 22 #[.string k, iv x, pt cb, pt ab] W fun r W' => ∃ vc', r = .returned (iv (IntKind.i64.wrap (x + add))) ∧ Sep w0 W' (boxA cb [vc'] 22 :: rowA vc' (xs ++ [k]) :: boxA ab [iv add] 3 :: l) := by
  have hne := h.boxNe k1m
  have c0 : W.cell? ⟨cb, 0, none⟩ = some vc := (h.boxGet k0m).cellv 0 _ rfl
  obtain ⟨a', c', w2, ap, S2⟩ := app_s k h.swap (by omega)
  have c1 : w2.cell? ⟨cb, 0, none⟩ = some vc := (S2.boxGet k1m).cellv 0 _ rfl
  have f1 : w2.frozen? ⟨cb, 0, none⟩ = false := (S2.boxGet k1m).frozen 0
  have c2 : w2.cell? ⟨ab, 0, none⟩ = some (iv add) := (S2.boxGet k2m).cellv 0 _ rfl
  generalize hv' : Value.slice (some a') (xs.length + 1) c' = v' at *
  have H : Keep (Sep w0 (w2.setCell ⟨cb, 0, none⟩ v') (boxA cb [v'] 22 :: rowA v' (xs ++ [k]) :: boxA ab [iv add] 3 :: l)) := ⟨S2.swap.boxSet v'⟩
  obtain ⟨z, hz⟩ : ∃ z, IntKind.i64.wrap (x + add) = z := ⟨_, rfl⟩
  rw [hz]
  have AP : Keep _ := ⟨ap⟩
  clear ap S2 h
  subst hv'
  go_enter Try.func22, Try.ntmps22
  go_wp2_with ((first | (at_builtin; refine wpList_append_run _ rfl (.tmp 7) (.tmp 9) 22 rfl _ _ rfl rfl AP.out ?_)))
  go_ret
  exact ⟨_, rfl, H.out⟩
/-- what the second function does to the table -/
def clos2L (sz : Nat) (L : KV) (k D f : ByteArray) (n : Int) : KV := if n = 0 then Tb.putL sz (if k = D then Tb.rm L D else L) f 5 else (if k = D then Tb.rm L D else L)

abbrev box5 (nb db pb fb ab tb : Nat) (n : Int) (D f : ByteArray) (add : Int) (l : List As) : List As := boxA nb [iv n] 3 :: boxA db [.string D] 9 :: boxA pb [pt tb] 26 :: boxA fb [.string f] 9 :: boxA ab [iv add] 3 :: l
structure Bx (W : World) (nb db pb fb ab tb : Nat) (n : Int) (D f : ByteArray) (add : Int) : Prop where
  n : W.cell? ⟨nb, 0, none⟩ = some (iv n)
  d : W.cell? ⟨db, 0, none⟩ = some (.string D)
  p : W.cell? ⟨pb, 0, none⟩ = some (pt tb)
  f : W.cell? ⟨fb, 0, none⟩ = some (.string f)
  a : W.cell? ⟨ab, 0, none⟩ = some (iv add)
  z : W.frozen? ⟨nb, 0, none⟩ = false
theorem k5m {a b c d e f : As} {l : List As} : a ∈ b :: c :: d :: e :: f :: a :: l := List.mem_cons_of_mem _ k4m
theorem bx {w0 W : World} {a : As} {nb db pb fb ab tb : Nat} {n : Int} {D f : ByteArray} {add : Int} {l : List As} (h : Sep w0 W (a :: box5 nb db pb fb ab tb n D f add l)) : Bx W nb db pb fb ab tb n D f add :=
  ⟨(h.boxGet k1m).cellv 0 _ rfl, (h.boxGet k2m).cellv 0 _ rfl, (h.boxGet k3m).cellv 0 _ rfl, (h.boxGet k4m).cellv 0 _ rfl, (h.boxGet k5m).cellv 0 _ rfl, (h.boxGet k1m).frozen 0⟩
set_option maxHeartbeats 2000000 in
theorem clos2_ez (w0 W : World) (tb sz nb db pb fb ab : Nat) (L : KV) (k D f : ByteArray) (x n add : Int) (l : List As) (h : Sep w0 W (tabA tb sz L :: box5 nb db pb fb ab tb n D f add l)) (hf : f.size ≤ 281474976710656) (hD : D.size ≤ 4611686018427387904) (hk : k = D) (hn : n = 0) :
    Calls Try.prog 23 #[.string k, iv x, pt nb, pt db, pt pb, pt fb, pt ab] W fun r W' => r = .returned (iv (IntKind.i64.wrap (x - add))) ∧ Sep w0 W' (tabA tb sz (Tb.putL sz (Tb.rm L D) f 5) :: box5 nb db pb fb ab tb (n + 1) D f add l) := by
  subst hk
  subst hn
  have b0 := bx h
  obtain ⟨W1, hW1⟩ : ∃ W1, W.setCell ⟨nb, 0, none⟩ (iv 1) = W1 := ⟨_, rfl⟩
  have H1 : Keep (Sep w0 W1 (tabA tb sz L :: box5 nb db pb fb ab tb 1 k f add l)) := ⟨by rw [← hW1]; exact (h.swap.boxSet _).swap⟩
  have b1 := bx H1.out
  obtain ⟨n0, _, _, _, _, z0⟩ := b0
  obtain ⟨n1, d1, p1, f1, a1, _⟩ := b1
  obtain ⟨q, hq⟩ : ∃ q, IntKind.i64.wrap (x - add) = q := ⟨_, rfl⟩
  rw [hq]
  clear h
  go_enter Try.func23, Try.ntmps23
  go_wp2_with fail
  refine (del_s k H1.out hD).mono ?_
  rintro r w2 ⟨rfl, S2⟩
  have H2 := Keep.mk S2
  obtain ⟨n2, d2, p2, f2, a2, _⟩ := bx S2
  clear S2
  go_wp2_with fail
  refine (put_s f 5 H2.out hf).mono ?_
  rintro r w3 ⟨rfl, S3⟩
  have H3 := Keep.mk S3
  obtain ⟨n3, d3, p3, f3, a3, _⟩ := bx S3
  clear S3
  go_wp2_with fail
  go_ret
  exact ⟨rfl, H3.out⟩
set_option maxHeartbeats 2000000 in
theorem clos2_es (w0 W : World) (tb sz nb db pb fb ab : Nat) (L : KV) (k D f : ByteArray) (x n add : Int) (l : List As) (h : Sep w0 W (tabA tb sz L :: box5 nb db pb fb ab tb n D f add l)) (hD : D.size ≤ 4611686018427387904) (hk : k = D) (hn : 1 ≤ n) (hn2 : n ≤ 5000) :
    Calls Try.prog 23 #[.string k, iv x, pt nb, pt db, pt pb, pt fb, pt ab] W fun r W' => r = .returned (iv (IntKind.i64.wrap (x - add))) ∧ Sep w0 W' (tabA tb sz (Tb.rm L D) :: box5 nb db pb fb ab tb (n + 1) D f add l) := by
  subst hk
  have hw : IntKind.i64.wrap (n + 1) = n + 1 := wi _ (by omega) (by omega)
  have b0 := bx h
  obtain ⟨W1, hW1⟩ : ∃ W1, W.setCell ⟨nb, 0, none⟩ (iv (n + 1)) = W1 := ⟨_, rfl⟩
  have H1 : Keep (Sep w0 W1 (tabA tb sz L :: box5 nb db pb fb ab tb (n + 1) k f add l)) := ⟨by rw [← hW1]; exact (h.swap.boxSet _).swap⟩
  have b1 := bx H1.out
  obtain ⟨n0, _, _, _, _, z0⟩ := b0
  obtain ⟨n1, d1, p1, f1, a1, _⟩ := b1
  obtain ⟨q, hq⟩ : ∃ q, IntKind.i64.wrap (x - add) = q := ⟨_, rfl⟩
  rw [hq]
  clear h
  go_enter Try.func23, Try.ntmps23
  go_wp2_with fail
  refine (del_s k H1.out hD).mono ?_
  rintro r w2 ⟨rfl, S2⟩
  have H2 := Keep.mk S2
  obtain ⟨n2, d2, p2, f2, a2, _⟩ := bx S2
  clear S2
  go_wp2_with fail
  go_ret
  exact ⟨rfl, H2.out⟩
set_option maxHeartbeats 2000000 in
theorem clos2_nz (w0 W : World) (tb sz nb db pb fb ab : Nat) (L : KV) (k D f : ByteArray) (x n add : Int) (l : List As) (h : Sep w0 W (tabA tb sz L :: box5 nb db pb fb ab tb n D f add l)) (hf : f.size ≤ 281474976710656) (hk : ¬ k = D) (hn : n = 0) :
    Calls Try.prog 23 #[.string k, iv x, pt nb, pt db, pt pb, pt fb, pt ab] W fun r W' => r = .returned (iv (IntKind.i64.wrap (x - add))) ∧ Sep w0 W' (tabA tb sz (Tb.putL sz L f 5) :: box5 nb db pb fb ab tb (n + 1) D f add l) := by
  have hsn := str_ne hk
  subst hn
  have b0 := bx h
  obtain ⟨W1, hW1⟩ : ∃ W1, W.setCell ⟨nb, 0, none⟩ (iv 1) = W1 := ⟨_, rfl⟩
  have H1 : Keep (Sep w0 W1 (tabA tb sz L :: box5 nb db pb fb ab tb 1 D f add l)) := ⟨by rw [← hW1]; exact (h.swap.boxSet _).swap⟩
  have b1 := bx H1.out
  obtain ⟨n0, _, _, _, _, z0⟩ := b0
  obtain ⟨n1, d1, p1, f1, a1, _⟩ := b1
  obtain ⟨q, hq⟩ : ∃ q, IntKind.i64.wrap (x - add) = q := ⟨_, rfl⟩
  rw [hq]
  clear h
  go_enter Try.func23, Try.ntmps23
  go_wp2_with fail
  refine (put_s f 5 H1.out hf).mono ?_
  rintro r w3 ⟨rfl, S3⟩
  have H3 := Keep.mk S3
  obtain ⟨n3, d3, p3, f3, a3, _⟩ := bx S3
  clear S3
  go_wp2_with fail
  go_ret
  exact ⟨rfl, H3.out⟩
set_option maxHeartbeats 2000000 in
theorem clos2_ns (w0 W : World) (tb sz nb db pb fb ab : Nat) (L : KV) (k D f : ByteArray) (x n add : Int) (l : List As) (h : Sep w0 W (tabA tb sz L :: box5 nb db pb fb ab tb n D f add l)) (hk : ¬ k = D) (hn : 1 ≤ n) (hn2 : n ≤ 5000) :
    Calls Try.prog 23 #[.string k, iv x, pt nb, pt db, pt pb, pt fb, pt ab] W fun r W' => r = .returned (iv (IntKind.i64.wrap (x - add))) ∧ Sep w0 W' (tabA tb sz L :: box5 nb db pb fb ab tb (n + 1) D f add l) := by
  have hsn := str_ne hk
  have hw : IntKind.i64.wrap (n + 1) = n + 1 := wi _ (by omega) (by omega)
  have b0 := bx h
  obtain ⟨W1, hW1⟩ : ∃ W1, W.setCell ⟨nb, 0, none⟩ (iv (n + 1)) = W1 := ⟨_, rfl⟩
  have H1 : Keep (Sep w0 W1 (tabA tb sz L :: box5 nb db pb fb ab tb (n + 1) D f add l)) := ⟨by rw [← hW1]; exact (h.swap.boxSet _).swap⟩
  have b1 := bx H1.out
  obtain ⟨n0, _, _, _, _, z0⟩ := b0
  obtain ⟨n1, d1, p1, f1, a1, _⟩ := b1
  obtain ⟨q, hq⟩ : ∃ q, IntKind.i64.wrap (x - add) = q := ⟨_, rfl⟩
  rw [hq]
  clear h
  go_enter Try.func23, Try.ntmps23
  go_wp2_with fail
  go_ret
  exact ⟨rfl, H1.out⟩
end Go.Proofs.Ytkaakbldkicnaaa
