import Derived.Test.YtplcicbpkbamnabGreatDoorX28
/- the laws' number and secret -/
namespace Go.Proofs.YtplcicbpkbamnabGreatDoor.Lo
open Go Go.RowKit Go.Maps

set_option maxRecDepth 100000 in
theorem under81 : Tryz.prog.underlying 120 = some (.slice 5) := by kernel_rfl
set_option maxRecDepth 100000 in
theorem info5b : ∃ i, Tryz.prog.info? 5 = some i ∧ i.size = 1 ∧ i.bytes = 1 ∧ i.zero = some (.int .u8 0) := by
  have h : (Tryz.prog.info? 5).map (fun i => (i.size, i.bytes, i.zero)) = some (1, 1, some (.int .u8 0)) := by kernel_rfl
  cases hq : Tryz.prog.info? 5 with
  | none => simp [hq] at h
  | some i =>
    simp only [hq, Option.map_some, Option.some.injEq, Prod.mk.injEq] at h
    exact ⟨i, rfl, h.1, h.2.1, h.2.2⟩
/-- a row of bytes as bytes -/
theorem own_bytes {w : World} {base n : Nat} {v : Value} {q : List UInt8} (h : w.ownsRow base 5 1 v n (q.map b8)) : ∃ a c, v = .slice a n c ∧ BytesOf w a n c q ∧ (a = none → c = 0) := by
  obtain ⟨hl, hc⟩ := h
  have hn : q.length = n := by rw [List.length_map, Nat.mul_one] at hl; exact hl
  rcases hc with ⟨rfl, rfl⟩ | ⟨g, cap, cur, rfl, hb, hheap, h1, h2, h3, h4⟩
  · exact ⟨none, 0, rfl, ⟨hn, Nat.le_refl _, fun h => by omega⟩, fun _ => rfl⟩
  · refine ⟨_, cap, rfl, ⟨hn, h1, fun _ => ⟨g, 0, rfl, fun j x hx => ?_⟩⟩, fun h => by cases h⟩
    have hj : j < n := by rw [← hn]; exact (List.getElem?_eq_some_iff.1 hx).1
    have e : (q.map b8)[j]? = some (b8 x) := by rw [List.getElem?_map, hx]; rfl
    rw [← h4, List.getElem?_take, if_pos (by omega)] at e
    simp only [World.cell?, hheap, Nat.zero_add]
    simpa using e
set_option maxRecDepth 100000 in
theorem len8_step (n j : Nat) (hj : j < 8) : (Mac.len8 n).take j ++ [UInt8.ofNat (n / 2 ^ (56 - 8 * j))] = (Mac.len8 n).take (j + 1) := by
  have h := len8_get n j hj
  obtain ⟨h1, e1⟩ := List.getElem?_eq_some_iff.1 h
  rw [List.take_succ_eq_append_getElem h1, e1]
set_option maxRecDepth 100000 in
set_option maxHeartbeats 4000000 in
theorem number_c (x : Nat) (w : World) :
    Calls Tryz.prog 18 #[uv x] w fun e w' => e = .returned (.string (txt (Mac.len8 x))) ∧ w.grownBy w' none := by
  obtain ⟨i5, i1, i2, i3, i4⟩ := info5b
  go_enter Tryz.func18, Tryz.ntmps18
  go_wp2_with fail
  go_loopw [3, 4] (fun v t w' => ∃ j : Nat, j ≤ 8 ∧ t = .int .i64 (56 - 8 * (j : Int)) ∧ Keep (Sep w w' [rowV 5 1 v j (((Mac.len8 x).take j).map b8)])) (fun _ t _ => (intOf t + 8).toNat)
  case atStart => exact ⟨0, by omega, rfl, ⟨(Sep.nil w).nilV 5 1⟩⟩
  case round =>
    obtain ⟨j, hj, rfl, hrel⟩ := hrel
    by_cases hlj : j < 8
    · obtain ⟨kk, hkk⟩ : ∃ kk : Nat, kk + 8 * j = 56 := ⟨56 - 8 * j, by omega⟩
      have e56 : (56 : Int) - 8 * (j : Int) = (kk : Int) := by omega
      obtain ⟨v, hv⟩ : ∃ v, UInt8.ofNat (x / 2 ^ kk) = v := ⟨_, rfl⟩
      have hv2 : (x : Int) / 2 ^ kk % 256 = (v.toNat : Int) := by rw [← hv]; simp
      obtain ⟨g, c, w3, r1, r2⟩ := Sep.app under81 i1 i4 i2 i3 rfl (by decide) hrel.out [b8 v] rfl (fun u hu => by simp at hu; subst hu; rfl) (by omega) (by decide)
      have HR : Keep (Sep w w3 [rowV 5 1 (.slice (some ⟨g, 0, none⟩) (j + 1) c) (j + 1) (((Mac.len8 x).take (j + 1)).map b8)]) := ⟨by
        rw [← len8_step x j hlj, show 56 - 8 * j = kk by omega, hv, List.map_append]; exact r2⟩
      have HAP := Keep.mk r1
      rw [e56]
      clear hrel r1 r2 hv
      go_wp2_with (at_builtin; refine wpList_append_run _ rfl _ _ 120 rfl _ _ rfl rfl HAP.out ?_)
      refine ⟨⟨j + 1, by omega, by congr 1; omega, HR⟩, ?_⟩
      simp only [intOf]; omega
    · obtain rfl : j = 8 := by omega
      obtain ⟨a', c', e1, b1, n1⟩ := own_bytes (q := Mac.len8 x) (by have := hrel.out.rowGet k0m; rwa [List.take_of_length_le (by exact Nat.le_refl _)] at this)
      subst e1
      have hcv := cvt_back wr a' 8 c' (Mac.len8 x) b1 (fun e => by
        obtain ⟨B, o, e', _⟩ := b1.at_ (by decide)
        rw [e] at e'; cases e')
      have HG : Keep (w.grownBy wr none) := ⟨hrel.out.g⟩
      clear hrel b1 n1
      go_wp2_with fail
      go_ret
      exact ⟨rfl, HG.out⟩
/-- c, 32 times -/
def rep (c : UInt8) : List UInt8 := [c, c, c, c, c, c, c, c, c, c, c, c, c, c, c, c, c, c, c, c, c, c, c, c, c, c, c, c, c, c, c, c]
def repTo (c : UInt8) (i : Nat) : List UInt8 := (List.range 32).map fun j => if j < i then c else 0
set_option maxRecDepth 100000 in
theorem rep_step (c : UInt8) (i : Nat) : ((repTo c i).map b8).set i (b8 c) = (repTo c (i + 1)).map b8 := by
  refine List.ext_getElem (by simp [repTo]) fun k h1 h2 => ?_
  simp only [repTo, List.getElem_set, List.getElem_map, List.getElem_range]
  by_cases e : i = k
  · subst e; simp
  · rw [if_neg e]
    by_cases f : k < i
    · rw [if_pos f, if_pos (by omega)]
    · rw [if_neg f, if_neg (by omega)]
set_option maxRecDepth 100000 in
theorem rep_end (c : UInt8) : repTo c 32 = rep c := rfl
set_option maxRecDepth 100000 in
theorem rep_len (c : UInt8) (i : Nat) : (repTo c i).length = 32 := by simp [repTo]
set_option maxRecDepth 100000 in
theorem mk32_run (w : World) : (Instr.makeSlice 120 (.int .i64 32) (.int .i64 32)).run Tryz.prog w = .ok (.slice (some ⟨w.heap.size, 0, none⟩) 32 32) (w.alloc (.cells ((rep 0).map b8).toArray 5)) := by kernel_rfl
set_option maxRecDepth 100000 in
set_option maxHeartbeats 4000000 in
theorem sec_c (c : UInt8) (w : World) :
    Calls Tryz.prog 17 #[b8 c] w fun e w' => e = .returned (.string (txt (rep c))) ∧ w.grownBy w' none := by
  have S1 := (Sep.nil w).newBox ((rep 0).map b8).toArray 5
  have hmk := mk32_run w
  obtain ⟨b, hb⟩ : ∃ b, w.heap.size = b := ⟨_, rfl⟩
  obtain ⟨W1, hW1⟩ : ∃ W1, w.alloc (.cells ((rep 0).map b8).toArray 5) = W1 := ⟨_, rfl⟩
  rw [hb, hW1] at S1 hmk
  have HS1 : Keep (Sep w W1 [boxA b ((repTo c 0).map b8) 5]) := ⟨S1⟩
  clear S1 hW1 hb
  go_enter Tryz.func17, Tryz.ntmps17
  go_wp2_with fail
  go_loopw [4] (fun t w' => ∃ j : Nat, j ≤ 32 ∧ t = .int .i64 j ∧ Keep (Sep w w' [boxA b ((repTo c j).map b8) 5])) (fun t _ => (32 - intOf t).toNat)
  case atStart => exact ⟨0, by omega, rfl, HS1⟩
  case round =>
    clear HS1 hmk
    obtain ⟨j, hj, rfl, hrel⟩ := hrel
    by_cases hlj : j < 32
    · obtain ⟨y, hy⟩ : ∃ y, ((repTo c j).map b8)[j]? = some y := ⟨_, List.getElem?_eq_getElem (by rw [List.length_map, rep_len]; exact hlj)⟩
      have hc0 : wr.cell? ⟨b, j, none⟩ = some y := (hrel.out.boxGet k0m).cellv j _ hy
      have hfz : wr.frozen? ⟨b, j, none⟩ = false := (hrel.out.boxGet k0m).frozen j
      have S2 := hrel.out.boxPut j (b8 c)
      rw [rep_step] at S2
      have HS2 := Keep.mk S2
      have hi0 : (0 : Int) ≤ (j : Int) := by omega
      have hi1 : (j : Int) < 32 := by omega
      have hti : ((j : Nat) : Int).toNat = j := by omega
      have hwi : IntKind.i64.wrap ((j : Int) + 1) = ((j + 1 : Nat) : Int) := by rw [wi _ (by omega) (by omega)]; omega
      clear hrel S2 hy
      go_wp2_with fail
      exact ⟨⟨j + 1, by omega, by simp, HS2⟩, by simp only [intOf]; omega⟩
    · obtain rfl : j = 32 := by omega
      have hcv := cvt_has (n := 32) (c := 32) (hrel.out.boxGet k0m) (rep_len c 32)
      rw [rep_end] at hcv
      have HG := Keep.mk hrel.out.g
      clear hrel
      go_wp2_with fail
      go_ret
      exact ⟨rfl, HG.out⟩
end Go.Proofs.YtplcicbpkbamnabGreatDoor.Lo

/- the laws' plain configuration -/
namespace Go.Proofs.YtplcicbpkbamnabGreatDoor.Lo
open Go Go.RowKit Go.Maps

def cfz : List Value := [iv 0, iv 0, iv 0, iv 0, iv 0, iv 0, iv 0, iv 0, iv 0, iv 0, .string ⟨#[]⟩, .string ⟨#[]⟩, .slice none 0 0]
/-- the chapter's configuration -/
def pc : Cf := ⟨2, 0, 8, 2, 0, 0, 3, 0, 0, 0, ⟨#[]⟩, ⟨#[]⟩⟩
def pP : List Pr := [(⟨#[97, 110, 110]⟩, txt (rep 97)), (⟨#[98, 111, 98]⟩, txt (rep 98)), (⟨#[99, 121]⟩, txt (rep 99))]
set_option maxRecDepth 100000 in
theorem under24 : ∃ d, Tryz.prog.underlying 24 = some d ∧ d.isRow = true := ⟨_, Tryz.underlying24, rfl⟩
set_option maxRecDepth 100000 in
theorem info24 : (Tryz.prog.info? 24).map (·.size) = some 13 := by kernel_rfl
set_option maxRecDepth 100000 in
theorem inr3 {w : World} {b : Nat} {s1 s2 s3 : ByteArray} (h : Has w b [.string ⟨#[97, 110, 110]⟩, .string s1, .string ⟨#[98, 111, 98]⟩, .string s2, .string ⟨#[99, 121]⟩, .string s3] 73) (h1 : s1.size ≤ 281474976710656) (h2 : s2.size ≤ 281474976710656) (h3 : s3.size ≤ 281474976710656) : InR w (.slice (some ⟨b, 0, none⟩) 3 3) [(⟨#[97, 110, 110]⟩, s1), (⟨#[98, 111, 98]⟩, s2), (⟨#[99, 121]⟩, s3)] := by
  refine ⟨⟨_, 3, rfl, fun _ => ⟨b, 0, rfl, fun j x hx => ?_⟩⟩, fun x hx => ?_⟩
  · match j, hx with
    | 0, hx => obtain rfl : _ = x := by simpa using hx
               exact ⟨h.cellv 0 _ rfl, h.cellv 1 _ rfl⟩
    | 1, hx => obtain rfl : _ = x := by simpa using hx
               exact ⟨h.cellv 2 _ rfl, h.cellv 3 _ rfl⟩
    | 2, hx => obtain rfl : _ = x := by simpa using hx
               exact ⟨h.cellv 4 _ rfl, h.cellv 5 _ rfl⟩
    | j + 3, hx => simp at hx
  · simp only [List.mem_cons, List.not_mem_nil, or_false] at hx
    rcases hx with rfl | rfl | rfl
    · exact ⟨by show 3 ≤ _; omega, h1⟩
    · exact ⟨by show 3 ≤ _; omega, h2⟩
    · exact ⟨by show 2 ≤ _; omega, h3⟩
def pcv (v : Value) : List Value := [iv 2, iv 0, iv 8, iv 2, iv 0, iv 0, iv 3, iv 0, iv 0, iv 0, .string ⟨#[]⟩, .string ⟨#[]⟩, v]
set_option maxRecDepth 100000 in
theorem pcv_one (sb : Nat) : ∀ v ∈ pcv (.slice (some ⟨sb, 0, none⟩) 3 3), v.oneCell' = true := by
  intro v hv
  simp only [pcv, List.mem_cons, List.not_mem_nil, or_false] at hv
  rcases hv with rfl | rfl | rfl | rfl | rfl | rfl | rfl | rfl | rfl | rfl | rfl | rfl | rfl <;> rfl
/-- the three accounts, as they lie -/
def pcs : List Value := [.string ⟨#[97, 110, 110]⟩, .string (txt (rep 97)), .string ⟨#[98, 111, 98]⟩, .string (txt (rep 98)), .string ⟨#[99, 121]⟩, .string (txt (rep 99))]
set_option maxRecDepth 100000 in
theorem pcs_in {w : World} {b : Nat} (h : Has w b pcs 73) : InR w (.slice (some ⟨b, 0, none⟩) 3 3) pP := inr3 h (by show 32 ≤ _; omega) (by show 32 ≤ _; omega) (by show 32 ≤ _; omega)
set_option maxRecDepth 100000 in
set_option maxHeartbeats 8000000 in
theorem plain_s (w : World) : Calls Tryz.prog 13 #[] w fun e w' => ∃ sb, e = .returned (.agg (cfv pc (.slice (some ⟨sb, 0, none⟩) 3 3))) ∧ Sep w w' [boxA sb pcs 73] := by
  obtain ⟨du, hdu, hdr⟩ := under24
  have S1 := (Sep.nil w).newBox cfz.toArray 24
  obtain ⟨W1, hW1⟩ : ∃ W1, w.alloc (.cells cfz.toArray 24) = W1 := ⟨_, rfl⟩
  obtain ⟨rb, hrb⟩ : ∃ rb, w.heap.size = rb := ⟨_, rfl⟩
  rw [hW1, hrb] at S1
  change Sep w W1 [boxA rb cfz 24] at S1
  have HS1 := Keep.mk S1
  have h1 := fun W => sec_c 97 W
  have h2 := fun W => sec_c 98 W
  have h3 := fun W => sec_c 99 W
  change ∀ W, Calls Tryz.prog 17 #[.int .u8 97] W _ at h1
  change ∀ W, Calls Tryz.prog 17 #[.int .u8 98] W _ at h2
  change ∀ W, Calls Tryz.prog 17 #[.int .u8 99] W _ at h3
  have HZ : Keep ((txt (rep 97)).size = 32 ∧ (txt (rep 98)).size = 32 ∧ (txt (rep 99)).size = 32) := ⟨rfl, rfl, rfl⟩
  unfold pcs
  generalize txt (rep 97) = s1 at h1 HZ ⊢
  generalize txt (rep 98) = s2 at h2 HZ ⊢
  generalize txt (rep 99) = s3 at h3 HZ ⊢
  unfold cfz at hW1
  clear S1
  go_enter Tryz.func13, Tryz.ntmps13
  go_wp2_with fail
  refine (h1 _).mono ?_
  rintro e w2 ⟨rfl, g2⟩
  have HS2 := Keep.mk (HS1.out.grown g2)
  clear g2 HS1 hW1 hrb h1
  go_wp2_with fail
  refine (h2 _).mono ?_
  rintro e w3 ⟨rfl, g3⟩
  have HS3 := Keep.mk (HS2.out.grown g3)
  clear g3 HS2 h2
  go_wp2_with fail
  refine (h3 _).mono ?_
  rintro e w4 ⟨rfl, g4⟩
  have HS4 := Keep.mk (HS3.out.grown g4)
  clear g4 HS3 h3
  have S5 := HS4.out.newBox #[.string ⟨#[97, 110, 110]⟩, .string s1, .string ⟨#[98, 111, 98]⟩, .string s2, .string ⟨#[99, 121]⟩, .string s3] 73
  obtain ⟨w5, hw5⟩ : ∃ w5, w4.alloc (.cells #[.string ⟨#[97, 110, 110]⟩, .string s1, .string ⟨#[98, 111, 98]⟩, .string s2, .string ⟨#[99, 121]⟩, .string s3] 73) = w5 := ⟨_, rfl⟩
  obtain ⟨sb, hsb⟩ : ∃ sb, w4.heap.size = sb := ⟨_, rfl⟩
  rw [hw5, hsb] at S5
  have HS5 := Keep.mk S5.swap
  have HRB := Keep.mk (S5.boxGet k1m)
  clear S5 HS4
  go_wp2_with (first
    | (show wpList _ _ _ ({ dst := _, op := Op.store 24 _ _, type := _, pos := _, after := _, guard := _ } :: _) _ _
       refine store_box _ rb cfz (pcv (.slice (some ⟨sb, 0, none⟩) 3 3)) 24 rfl rfl rfl rfl HRB.out rfl (by exact info24) (pcv_one sb) ?_))
  intro w7 hS7 g7
  have HS7 := Keep.mk (hS7 _ _ HS5.out)
  clear hS7 g7 HRB HS5 hw5 hsb
  go_wp2_with fail
  refine ret_c rfl rfl (HS7.out.boxGet k0m) hdu hdr (by exact info24) rfl ⟨sb, rfl, HS7.out.tail⟩
set_option maxRecDepth 100000 in
theorem plain_c (w : World) : Calls Tryz.prog 13 #[] w fun e w' => ∃ v, e = .returned (.agg (cfv pc v)) ∧ InR w' v pP ∧ w.grownBy w' none :=
  (plain_s w).mono fun _ _ ⟨_, he, hS⟩ => ⟨_, he, pcs_in (hS.boxGet k0m), hS.g⟩
end Go.Proofs.YtplcicbpkbamnabGreatDoor.Lo

/- the chapter's first examples, reckoned -/
namespace Go.Proofs.YtplcicbpkbamnabGreatDoor.Lo
open Go Go.RowKit Go.Maps

set_option maxRecDepth 100000 in
theorem cpy_ok : ∀ (P : List Pr) (A B : List Ac), cpy A P = some B → (∀ a ∈ A, a.sc.length = 32) → (∀ a ∈ B, a.sc.length = 32) ∧ B.length = A.length + P.length
  | [], A, B, h, hA => by
    obtain rfl : A = B := by simpa [cpy] using h
    exact ⟨hA, rfl⟩
  | p :: r, A, B, h, hA => by
    unfold cpy at h
    unfold cpyS at h
    split at h
    · cases h
    · rename_i C hC
      split at hC
      · cases hC
      · rename_i hq
        obtain rfl : A ++ [⟨p.1, Na.sl p.2⟩] = C := by simpa using hC
        have h32 : p.2.size = 32 := Decidable.byContradiction fun e => hq (.inr (.inr e))
        obtain ⟨h1, h2⟩ := cpy_ok r _ B h (fun a ha => by
          rcases List.mem_append.1 ha with q | q
          · exact hA a q
          · rw [List.mem_singleton] at q; subst q; show p.2.data.toList.length = 32; rw [Array.length_toList]; exact h32)
        refine ⟨h1, ?_⟩
        rw [h2]; simp; omega
set_option maxRecDepth 100000 in
theorem new_ok {c : Cf} {P : List Pr} {X : Lb} (h : newL c P = some X) : LbOk X ∧ Up X ∧ X.S = [] ∧ X.next = 1 := by
  unfold newL at h
  split at h
  · rename_i hq
    obtain ⟨A, hA, rfl⟩ := Option.map_eq_some_iff.1 h
    unfold cpyL at hA
    split at hA
    · cases hA
    · rename_i hl
      obtain ⟨h1, h2⟩ := cpy_ok P [] A hA nofun
      obtain ⟨q1, ⟨q2, q3⟩, q4, q5⟩ := hq
      refine ⟨⟨by show 1 ≤ c.ses.toNat; omega, by show c.ses.toNat ≤ 32; omega, q1, h1, by rw [h2]; simp; omega, Nat.le_refl _, by show 1 ≤ 1000000; omega, List.nodup_nil, nofun, Nat.zero_le _⟩, List.Pairwise.nil, rfl, rfl⟩
  · cases h
/-- the chapter's accounts -/
def aA : List Ac := [⟨⟨#[97, 110, 110]⟩, rep 97⟩, ⟨⟨#[98, 111, 98]⟩, rep 98⟩, ⟨⟨#[99, 121]⟩, rep 99⟩]
def aX0 : Lb := ⟨2, 3, 8, 2, aA, 1, []⟩
abbrev sAnn : ByteArray := ⟨#[65, 110, 110]⟩
abbrev sann : ByteArray := ⟨#[97, 110, 110]⟩
abbrev sbob : ByteArray := ⟨#[98, 111, 98]⟩
abbrev scy : ByteArray := ⟨#[99, 121]⟩
abbrev sx : ByteArray := ⟨#[120]⟩
abbrev sy : ByteArray := ⟨#[121]⟩
abbrev sn : ByteArray := ⟨#[110]⟩
abbrev ss : ByteArray := ⟨#[115]⟩
def aE1 (k : List UInt8) : Se := ⟨1, 0, sAnn, sx, 7, 0, 0, 0, k, 0, 0, 32⟩
def aE2 (k : List UInt8) : Se := ⟨2, 1, sbob, sy, 7, 0, 0, 1, k, 0, 0, 32⟩
def aX1 (k : List UInt8) : Lb := ⟨2, 3, 8, 2, aA, 2, [aE1 k]⟩
def aX2 (k k2 : List UInt8) : Lb := ⟨2, 3, 8, 2, aA, 3, [aE1 k, aE2 k2]⟩
set_option maxRecDepth 100000 in
theorem a_new : newL pc pP = some aX0 := by kernel_rfl
set_option maxRecDepth 100000 in
theorem a_f1 : fdI aA sAnn = some 0 ∧ fdI aA sann = some 0 ∧ fdI aA sbob = some 1 ∧ fdI aA scy = some 2 := ⟨by kernel_rfl, by kernel_rfl, by kernel_rfl, by kernel_rfl⟩
set_option maxRecDepth 100000 in
theorem a_j1 : joiS aX0 sx sn ss sAnn 7 = some (aE1 (drv (rep 97) sn ss 1)) ∧ joiC aX0 sAnn = 0 := by
  have q := joi_yes (X := aX0) (nm := sAnn) a_f1.1 rfl (by decide) sx sn ss 7
  refine ⟨q.2.trans ?_, q.1⟩
  have hf : frS aX0 = 0 := by kernel_rfl
  unfold joiE
  rw [hf]
  rfl
set_option maxRecDepth 100000 in
theorem a_j2 (k : List UInt8) : joiS (aX1 k) sx sn ss sann 7 = none ∧ joiC (aX1 k) sann = 121 := by
  have q := joi_taken (X := aX1 k) (nm := sann) a_f1.2.1 rfl sx sn ss 7
  exact ⟨q.2, q.1⟩
set_option maxRecDepth 100000 in
theorem a_j3 (k : List UInt8) : joiS (aX1 k) sy sn ss sbob 7 = some (aE2 (drv (rep 98) sn ss 2)) ∧ joiC (aX1 k) sbob = 0 := by
  have q := joi_yes (X := aX1 k) (nm := sbob) a_f1.2.2.1 rfl (by show 1 < 2; omega) sy sn ss 7
  refine ⟨q.2.trans ?_, q.1⟩
  have hf : frS (aX1 k) = 1 := by kernel_rfl
  unfold joiE
  rw [hf]
  rfl
set_option maxRecDepth 100000 in
theorem a_j4 (k k2 : List UInt8) : joiS (aX2 k k2) sy sn ss scy 7 = none ∧ joiC (aX2 k k2) scy = 111 := by
  have q := joi_full (X := aX2 k k2) (nm := scy) a_f1.2.2.2 rfl (by show 2 ≤ 2; omega) sy sn ss 7
  exact ⟨q.2, q.1⟩
def aX3 (k k2 : List UInt8) : Lb := acpX (aX2 k k2) 1 1 true 8
def aX4 (k k2 : List UInt8) : Lb := acpX (aX3 k k2) 1 1 true 8
def aX5 (k k2 : List UInt8) : Lb := acpX (aX4 k k2) 1 5 true 8
def aX6 (k k2 : List UInt8) : Lb := acpX (aX5 k k2) 1 4 true 9
def aX7 (k k2 : List UInt8) : Lb := expX (aX6 k k2) 10
set_option maxRecDepth 100000 in
theorem a_acp (k k2 : List UInt8) : acpS (aX2 k k2) 1 1 true = 0 ∧ acpS (aX3 k k2) 1 1 true = 91 ∧ acpS (aX4 k k2) 1 5 true = 0 ∧ acpS (aX5 k k2) 1 4 true = 80 ∧ (aX6 k k2).S.length = 2 ∧ (expL (aX6 k k2) 10).length = 0 ∧ (expL (aX7 k k2) 11).length = 1 := by
  refine ⟨by kernel_rfl, by kernel_rfl, by kernel_rfl, by kernel_rfl, by kernel_rfl, by kernel_rfl, by kernel_rfl⟩
end Go.Proofs.YtplcicbpkbamnabGreatDoor.Lo

/- alive: the chapter's first examples -/
namespace Go.Proofs.YtplcicbpkbamnabGreatDoor.Lo
open Go Go.RowKit Go.Maps

set_option maxRecDepth 100000 in
theorem aok0 : LbOk aX0 ∧ Up aX0 := ⟨(new_ok a_new).1, (new_ok a_new).2.1⟩
set_option maxRecDepth 100000 in
theorem ax1 : joiX aX0 sx sn ss sAnn 7 = aX1 (drv (rep 97) sn ss 1) := by unfold joiX; rw [a_j1.1]; rfl
set_option maxRecDepth 100000 in
theorem ax1b (k : List UInt8) : joiX (aX1 k) sx sn ss sann 7 = aX1 k := by unfold joiX; rw [(a_j2 k).1]
set_option maxRecDepth 100000 in
theorem ax2 (k : List UInt8) : joiX (aX1 k) sy sn ss sbob 7 = aX2 k (drv (rep 98) sn ss 2) := by unfold joiX; rw [(a_j3 k).1]; rfl
set_option maxRecDepth 100000 in
theorem ax2b (k k2 : List UInt8) : joiX (aX2 k k2) sy sn ss scy 7 = aX2 k k2 := by unfold joiX; rw [(a_j4 k k2).1]
set_option maxRecDepth 100000 in
theorem aok1 : LbOk (aX1 (drv (rep 97) sn ss 1)) ∧ Up (aX1 (drv (rep 97) sn ss 1)) := by
  rw [← ax1]
  exact ⟨aok0.1.join (by decide) (by decide) (by decide) (by decide) (fun a h => fdI_lt h), aok0.2.join aok0.1 ..⟩
set_option maxRecDepth 100000 in
theorem aok2 : LbOk (aX2 (drv (rep 97) sn ss 1) (drv (rep 98) sn ss 2)) ∧ Up (aX2 (drv (rep 97) sn ss 1) (drv (rep 98) sn ss 2)) := by
  rw [← ax2]
  exact ⟨aok1.1.join (by show 2 < 1000000; omega) (by decide) (by decide) (by decide) (fun a h => fdI_lt h), aok1.2.join aok1.1 ..⟩
set_option maxRecDepth 100000 in
theorem eq_ann (W : World) : (Op.equalIn 10000 49 (.agg #[.int .u64 1, .int .i64 0, .string ⟨#[65, 110, 110]⟩, .string ⟨#[120]⟩, .int .u64 7, .int .u64 0, .int .u64 0]) (.agg #[.int .u64 1, .int .i64 0, .string ⟨#[65, 110, 110]⟩, .string ⟨#[120]⟩, .int .u64 7, .int .u64 0, .int .u64 0])).run Tryz.prog W = .ok true W := by kernel_rfl
set_option maxRecDepth 100000 in
theorem der_c (w : World) (hk : Kc w) (key a b c : ByteArray) (sb : Nat) (h : Has w sb [.string a, .string b, .string c] 9) (h1 : key.size ≤ 281474976710656) (ha : a.size ≤ 281474976710656) (hb : b.size ≤ 281474976710656) (hc : c.size ≤ 281474976710656) :
    Calls Tryz.prog 16 #[.string key, .string ⟨#[115, 101, 115, 115, 105, 111, 110]⟩, .slice (some ⟨sb, 0, none⟩) 3 3] w fun e w' => e = .returned (.string (deriveB key ⟨#[115, 101, 115, 115, 105, 111, 110]⟩ [a, b, c])) ∧ w.grownBy w' none :=
  derive_gen key ⟨#[115, 101, 115, 115, 105, 111, 110]⟩ (some ⟨sb, 0, none⟩) 3 3 [a, b, c] w hk (strs3 h) (by omega) (by decide) (by decide) (fun j p hp => by
    match j, hp with
    | 0, hp => obtain rfl : a = p := by simpa using hp
               omega
    | 1, hp => obtain rfl : b = p := by simpa using hp
               omega
    | 2, hp => obtain rfl : c = p := by simpa using hp
               omega
    | j + 3, hp => simp at hp)
set_option maxRecDepth 100000 in
theorem txt_sl (b : ByteArray) : txt (sl b) = b := rfl
set_option maxRecDepth 100000 in
set_option maxHeartbeats 16000000 in
theorem alive_c (w : World) (hn : Na.Kc w) (hk : Kc w) : Calls Tryz.prog 4 #[] w fun e w' => e = .returned (.bool true) ∧ w.grownBy w' none := by
  obtain ⟨du, hdu, hdr⟩ := under42
  have HN : Keep (∀ W l, Sep w W l → Na.Kc W) := ⟨fun W l h => hn.kept h.g⟩
  have HK := Keep.mk hk
  have hp := plain_c w
  clear hk
  go_enter Tryz.func4, Tryz.ntmps4
  go_wp2_with fail
  refine hp.mono ?_
  rintro e w1 ⟨v, rfl, hin, g1⟩
  have hnw := new_c w1 pc v pP hin (hn.kept g1)
  rw [a_new] at hnw
  have HG1 := Keep.mk g1
  clear hp hin g1 hn
  generalize cfv pc v = cf at hnw ⊢
  go_wp2_with fail
  refine hnw.mono ?_
  rintro e w2 ⟨lb, rfl, S2⟩
  have HS2 : Keep (Sep w w2 [lobA lb aX0]) := ⟨(Sep.start HG1.out).ovr S2⟩
  have hJ := join_c w w2 [] lb aX0 sx sn ss sAnn 7 HS2.out aok0.1 (HN.out _ _ HS2.out) HK.out (by decide) (by decide) (by decide) (by decide) (by decide)
  rw [a_j1.1, a_j1.2, ax1] at hJ
  have HD : Keep (deriveB (txt (rep 97)) ⟨#[115, 101, 115, 115, 105, 111, 110]⟩ [sn, ss, txt (Mac.len8 1)] = txt (drv (rep 97) sn ss 1)) := ⟨rfl⟩
  have HOK1 := Keep.mk aok1
  have HOK2 := Keep.mk aok2
  generalize drv (rep 97) sn ss 1 = k1 at hJ HD HOK1 HOK2
  change Calls Tryz.prog 14 _ _ (fun e W' => e = .returned (.tuple #[.agg (lvc (aE1 k1)).toArray, iv 0]) ∧ Sep w W' [lobA lb (aX1 k1)]) at hJ
  clear hnw S2 HG1 HS2
  go_wp2_with fail
  refine hJ.mono ?_
  rintro e w3 ⟨rfl, S3⟩
  clear hJ
  have HS3 := Keep.mk S3
  clear S3
  go_wp2_with (first
    | (show wpList _ _ _ ({ dst := _, op := Op.store 49 _ _, type := _, pos := _, after := _, guard := _ } :: _) _ _
       refine store_new _ (lvc (aE1 k1)) 49 rfl rfl rfl rfl rfl (by exact info42) (lvc_one _) ?_))
  intro w4 hS4 g4
  have HS4 := Keep.mk (hS4 w _ HS3.out).swap
  generalize w3.heap.size = b1 at HS4 ⊢
  have hKy := key_c w w4 _ lb (aX1 k1) 1 HS4.out HOK1.out.1 (by decide)
  change Calls Tryz.prog 15 _ _ (fun e W' => e = .returned (.tuple #[.string (txt k1), .bool true]) ∧ _) at hKy
  clear hS4 g4 HS3 HS4
  go_wp2_with fail
  refine hKy.mono ?_
  rintro e w5 ⟨rfl, S5⟩
  clear hKy
  have hJ := join_c w w5 _ lb (aX1 k1) sx sn ss sann 7 S5 HOK1.out.1 (HN.out _ _ S5) HK.out (by decide) (by decide) (by decide) (by decide) (by show 2 < 1000000; omega)
  rw [(a_j2 k1).1, (a_j2 k1).2, ax1b] at hJ
  change Calls Tryz.prog 14 _ _ (fun e W' => e = .returned (.tuple #[.agg z7.toArray, iv 121]) ∧ _) at hJ
  clear S5
  go_wp2_with fail
  refine hJ.mono ?_
  rintro e w6 ⟨rfl, S6⟩
  clear hJ
  have HS6 := Keep.mk S6
  clear S6
  go_wp2_with (first
    | (show wpList _ _ _ ({ dst := _, op := Op.store 49 _ _, type := _, pos := _, after := _, guard := _ } :: _) _ _
       refine store_new _ z7 49 rfl rfl rfl rfl rfl (by exact info42) z7_one ?_))
  intro w7 hS7 g7
  have S7 := (hS7 w _ HS6.out).tail
  generalize w6.heap.size = b2
  have hJ := join_c w w7 _ lb (aX1 k1) sy sn ss sbob 7 S7 HOK1.out.1 (HN.out _ _ S7) HK.out (by decide) (by decide) (by decide) (by decide) (by show 2 < 1000000; omega)
  rw [(a_j3 k1).1, (a_j3 k1).2, ax2] at hJ
  generalize drv (rep 98) sn ss 2 = k2 at hJ HOK2
  change Calls Tryz.prog 14 _ _ (fun e W' => e = .returned (.tuple #[.agg (lvc (aE2 k2)).toArray, iv 0]) ∧ _) at hJ
  clear S7 hS7 g7 HS6
  go_wp2_with fail
  refine hJ.mono ?_
  rintro e w8 ⟨rfl, S8⟩
  clear hJ
  have HS8 := Keep.mk S8
  clear S8
  go_wp2_with (first
    | (show wpList _ _ _ ({ dst := _, op := Op.store 49 _ _, type := _, pos := _, after := _, guard := _ } :: _) _ _
       refine store_new _ (lvc (aE2 k2)) 49 rfl rfl rfl rfl rfl (by exact info42) (lvc_one _) ?_))
  intro w9 hS9 g9
  have S9 := (hS9 w _ HS8.out).swap
  generalize w8.heap.size = b3 at S9 ⊢
  have hJ := join_c w w9 _ lb (aX2 k1 k2) sy sn ss scy 7 S9 HOK2.out.1 (HN.out _ _ S9) HK.out (by decide) (by decide) (by decide) (by decide) (by show 3 < 1000000; omega)
  rw [(a_j4 k1 k2).1, (a_j4 k1 k2).2, ax2b] at hJ
  change Calls Tryz.prog 14 _ _ (fun e W' => e = .returned (.tuple #[.agg z7.toArray, iv 111]) ∧ _) at hJ
  clear S9 hS9 g9 HS8
  go_wp2_with fail
  refine hJ.mono ?_
  rintro e wA ⟨rfl, SA⟩
  clear hJ
  have HSA := Keep.mk SA
  clear SA
  go_wp2_with (first
    | (show wpList _ _ _ ({ dst := _, op := Op.store 49 _ _, type := _, pos := _, after := _, guard := _ } :: _) _ _
       refine store_new _ z7 49 rfl rfl rfl rfl rfl (by exact info42) z7_one ?_))
  intro wB hSB gB
  have SB := (hSB w _ HSA.out).tail
  generalize wA.heap.size = b4
  have HSB := Keep.mk SB
  clear hSB gB SB HSA
  have RNG : Keep (wB.rangeAt b1 0 [.int .u64 1, .int .i64 0, .string ⟨#[65, 110, 110]⟩, .string ⟨#[120]⟩, .int .u64 7, .int .u64 0, .int .u64 0]) := ⟨(HSB.out.boxGet k2m).range⟩
  have heq := eq_ann wB
  have hSc := sec_c 97
  change ∀ w, Calls Tryz.prog 17 #[.int .u8 97] w _ at hSc
  have HSZ : Keep ((txt (rep 97)).size = 32 ∧ (txt (Mac.len8 1)).size = 8) := ⟨rfl, rfl⟩
  have hNm := number_c 1
  change ∀ w, Calls Tryz.prog 18 #[.int .u64 1] w _ at hNm
  generalize txt (rep 97) = s1 at hSc HSZ HD
  generalize txt (Mac.len8 1) = n1 at hNm HSZ HD
  have HKT := Keep.mk (a_acp k1 k2)
  generalize txt k1 = kt at HD ⊢
  go_wp2_with (first
    | (show wpList _ _ _ ({ dst := _, op := Op.load 49 _, type := _, pos := _, after := _, guard := _ } :: _) _ _
       refine wpList_load_mid rfl 49 _ rfl _ _ rfl _ _ RNG.out hdu hdr (by exact info42) ?_))
  refine (hSc _).mono ?_
  rintro e wC ⟨rfl, gC⟩
  have HSC := Keep.mk (HSB.out.grown gC)
  clear gC hSc RNG heq HSB
  go_wp2_with fail
  refine (hNm _).mono ?_
  rintro e wD ⟨rfl, gD⟩
  have SD := HSC.out.grown gD
  have SE := SD.newBox #[.string ⟨#[110]⟩, .string ⟨#[115]⟩, .string n1] 9
  obtain ⟨wE, hwE⟩ : ∃ wE, wD.alloc (.cells #[.string ⟨#[110]⟩, .string ⟨#[115]⟩, .string n1] 9) = wE := ⟨_, rfl⟩
  obtain ⟨sb, hsb⟩ : ∃ sb, wD.heap.size = sb := ⟨_, rfl⟩
  rw [hwE, hsb] at SE
  have hDv := der_c wE (HK.out.kept SE.g (by simp)) s1 ⟨#[110]⟩ ⟨#[115]⟩ n1 sb (SE.boxGet k0m) (by have := HSZ.out; omega) (by decide) (by decide) (by have := HSZ.out; omega)
  rw [HD.out] at hDv
  have HSE := Keep.mk SE
  clear gD hNm SD SE HSC HD
  go_wp2_with fail
  refine hDv.mono ?_
  rintro e wF ⟨rfl, gF⟩
  have SF := (HSE.out.grown gF).tail
  have c31 : wF.cell? ⟨b3, 1, none⟩ = some (.int .i64 1) := (SF.boxGet k1m).cellv 1 _ rfl
  have HSF := Keep.mk SF
  have hA := acp_c w wF _ lb (aX2 k1 k2) 1 1 8 true SF HOK2.out.1 (by decide) (by decide)
  rw [HKT.out.1] at hA
  clear gF SF hDv HSE hwE hsb
  go_wp2_with fail
  refine hA.mono ?_
  rintro e wG ⟨rfl, SG⟩
  change Sep w wG (lobA lb (aX3 k1 k2) :: _) at SG
  have HOK3 : Keep (LbOk (aX3 k1 k2) ∧ Up (aX3 k1 k2)) := ⟨HOK2.out.1.acp (by decide) (by decide), HOK2.out.2.acp⟩
  have hA2 := acp_c w wG _ lb (aX3 k1 k2) 1 1 8 true SG HOK3.out.1 (by decide) (by decide)
  rw [HKT.out.2.1] at hA2
  clear SG hA c31 HSF
  go_wp2_with fail
  refine hA2.mono ?_
  rintro e wH ⟨rfl, SH⟩
  change Sep w wH (lobA lb (aX4 k1 k2) :: _) at SH
  have HOK4 : Keep (LbOk (aX4 k1 k2) ∧ Up (aX4 k1 k2)) := ⟨HOK3.out.1.acp (by decide) (by decide), HOK3.out.2.acp⟩
  have hA3 := acp_c w wH _ lb (aX4 k1 k2) 1 5 8 true SH HOK4.out.1 (by decide) (by decide)
  rw [HKT.out.2.2.1] at hA3
  clear SH hA2
  go_wp2_with fail
  refine hA3.mono ?_
  rintro e wI ⟨rfl, SI⟩
  change Sep w wI (lobA lb (aX5 k1 k2) :: _) at SI
  have HOK5 : Keep (LbOk (aX5 k1 k2) ∧ Up (aX5 k1 k2)) := ⟨HOK4.out.1.acp (by decide) (by decide), HOK4.out.2.acp⟩
  have hA4 := acp_c w wI _ lb (aX5 k1 k2) 1 4 9 true SI HOK5.out.1 (by decide) (by decide)
  rw [HKT.out.2.2.2.1] at hA4
  clear SI hA3
  go_wp2_with fail
  refine hA4.mono ?_
  rintro e wJ ⟨rfl, SJ⟩
  change Sep w wJ (lobA lb (aX6 k1 k2) :: _) at SJ
  have HOK6 : Keep (LbOk (aX6 k1 k2) ∧ Up (aX6 k1 k2)) := ⟨HOK5.out.1.acp (by decide) (by decide), HOK5.out.2.acp⟩
  have hL := lives_c w wJ _ lb (aX6 k1 k2) SJ HOK6.out.1 HOK6.out.2
  clear SJ hA4
  go_wp2_with fail
  refine hL.mono ?_
  rintro e wK ⟨vL, rfl, SK⟩
  obtain ⟨aL, cL, hvL, _⟩ := lv_at (SK.rowGet k0m)
  rw [HKT.out.2.2.2.2.1] at hvL
  have SK2 := SK.tail
  have hE := expire_c w wK _ lb (aX6 k1 k2) 10 SK2 HOK6.out.1 HOK6.out.2 (by decide)
  subst hvL
  clear hL SK SK2
  go_wp2_with fail
  refine hE.mono ?_
  rintro e wL ⟨vE, rfl, SL⟩
  obtain ⟨aE, cE, hvE, _⟩ := lv_at (SL.rowGet k0m)
  rw [HKT.out.2.2.2.2.2.1] at hvE
  have SL2 := SL.tail
  change Sep w wL (lobA lb (aX7 k1 k2) :: _) at SL2
  have hE2 := expire_c w wL _ lb (aX7 k1 k2) 11 SL2 (HOK6.out.1.expire 10) (HOK6.out.2.expire 10) (by decide)
  subst hvE
  clear hE SL SL2
  go_wp2_with fail
  refine hE2.mono ?_
  rintro e wM ⟨vF, rfl, SM⟩
  obtain ⟨aF, cF, hvF, _⟩ := lv_at (SM.rowGet k0m)
  rw [HKT.out.2.2.2.2.2.2] at hvF
  have HG := Keep.mk SM.g
  subst hvF
  clear hE2 SM
  go_wp2_with fail
  go_ret
  exact ⟨rfl, HG.out⟩
end Go.Proofs.YtplcicbpkbamnabGreatDoor.Lo

/- the laws' acts: one call -/
namespace Go.Proofs.YtplcicbpkbamnabGreatDoor.Lo
open Go Go.RowKit Go.Maps

/-- a call, as a script says it -/
structure Opr where
  kd : Int
  wh : Int
  a : ByteArray
  b : ByteArray
  c : ByteArray
  nm : ByteArray
  ses : Nat
  seq : Nat
  tick : Nat
  yes : Bool
def opv (o : Opr) : List Value := [iv o.kd, iv o.wh, .string o.a, .string o.b, .string o.c, .string o.nm, uv o.ses, uv o.seq, uv o.tick, .bool o.yes]
structure OpOk (o : Opr) : Prop where
  a : o.a.size ≤ 281474976710656
  b : o.b.size ≤ 281474976710656
  c : o.c.size ≤ 281474976710656
  nm : o.nm.size ≤ 281474976710656
  ses : o.ses < 18446744073709551616
  seq : o.seq < 18446744073709551616
  tick : o.tick < 18446744073709551616
/-- the lobby behind it -/
def actX (X : Lb) (o : Opr) : Lb :=
  if o.kd = 1 then joiX X o.a o.b o.c o.nm o.tick else if o.kd = 2 then acpX X o.ses o.seq o.yes o.tick else if o.kd = 5 then levX X o.ses else if o.kd = 6 then expX X o.tick else if o.kd = 7 then refX X else if o.kd = 8 then sntX X o.ses else X
set_option maxRecDepth 100000 in
theorem LbOk.act {X : Lb} {o : Opr} (ok : LbOk X) (h : OpOk o) (hx : X.next < 1000000) : LbOk (actX X o) := by
  unfold actX
  split
  · exact ok.join hx h.tick h.nm h.a (fun a q => fdI_lt q)
  · split
    · exact ok.acp h.seq h.tick
    · split
      · exact ok.leave
      · split
        · exact ok.expire _
        · split
          · exact ok.refill
          · split
            · exact ok.sent
            · exact ok
set_option maxRecDepth 100000 in
theorem Up.act {X : Lb} {o : Opr} (up : Up X) (ok : LbOk X) : Up (actX X o) := by
  unfold actX
  split
  · exact up.join ok ..
  · split
    · exact up.acp
    · split
      · exact up.leave
      · split
        · exact up.expire _
        · split
          · exact up.refill
          · split
            · exact up.sent
            · exact up
set_option maxRecDepth 100000 in
theorem act_next {X : Lb} {o : Opr} : (actX X o).next ≤ X.next + 1 := by
  unfold actX
  split
  · unfold joiX; split
    · exact Nat.le_succ _
    · exact Nat.le_refl _
  · split
    · unfold acpX; cases fds X o.ses
      · exact Nat.le_succ _
      · exact Nat.le_succ _
    · split
      · unfold levX; cases fds X o.ses
        · exact Nat.le_succ _
        · exact Nat.le_succ _
      · split
        · exact Nat.le_succ _
        · split
          · exact Nat.le_succ _
          · split
            · unfold sntX; cases fds X o.ses
              · exact Nat.le_succ _
              · exact Nat.le_succ _
            · exact Nat.le_succ _
end Go.Proofs.YtplcicbpkbamnabGreatDoor.Lo

/- two that are told: are they the same? -/
namespace Go.Proofs.YtplcicbpkbamnabGreatDoor.Lo
open Go Go.RowKit Go.Maps

set_option maxRecDepth 100000 in
set_option maxHeartbeats 4000000 in
theorem eq42 (a0 b0 a1 b1 a4 b4 a5 b5 a6 b6 : Int) (a2 b2 a3 b3 : ByteArray) (w : World) : (Op.equalIn 10000 49 (.agg #[.int .u64 a0, .int .i64 a1, .string a2, .string a3, .int .u64 a4, .int .u64 a5, .int .u64 a6]) (.agg #[.int .u64 b0, .int .i64 b1, .string b2, .string b3, .int .u64 b4, .int .u64 b5, .int .u64 b6])).run Tryz.prog w = .ok (a0 == b0 && a1 == b1 && a2.toList == b2.toList && a3.toList == b3.toList && a4 == b4 && a5 == b5 && a6 == b6) w := by
  rw [show (10000 : Nat) = 9999 + 1 from rfl, run_equalIn_agg w 9999 49 _ _ (by kernel_rfl) (by kernel_rfl)]
  have u3 := Tryz.underlying3
  have g3 := Tryz.isAgg3
  have z3 := Tryz.sizeOf3
  have u9 := Tryz.underlying9
  have a9 := Tryz.isAgg9
  have z9 := Tryz.sizeOf9
  have u40 := Tryz.underlying38
  have a40 := Tryz.isAgg38
  have z40 := Tryz.sizeOf38
  simp only [Program.fieldsOf, Tryz.underlying49]
  go_simp
  by_cases h0 : a0 = b0
  case neg => simp [h0]
  by_cases h1 : a1 = b1
  case neg => simp [h1]
  by_cases h2 : a2.toList = b2.toList
  case neg => simp [h2]
  by_cases h3 : a3.toList = b3.toList
  case neg => simp [h3]
  by_cases h4 : a4 = b4
  case neg => simp [h4]
  by_cases h5 : a5 = b5
  case neg => simp [h5]
  by_cases h6 : a6 = b6
  case neg => simp [h6]
  simp [h0, h1, h2, h3, h4, h5, h6]
/-- the same is told of both -/
def sme (x y : Se) : Bool := decide (x.num = y.num) && decide (x.pl = y.pl) && decide (x.nm = y.nm) && decide (x.fr = y.fr) && decide (x.heard = y.heard) && decide (x.high = y.high) && decide (x.sent = y.sent)
set_option maxRecDepth 100000 in
theorem eq_lv (x y : Se) (w : World) : (Op.equalIn 10000 49 (.agg (lvc x).toArray) (.agg (lvc y).toArray)).run Tryz.prog w = .ok (sme x y) w := by
  refine (eq42 _ _ _ _ _ _ _ _ _ _ _ _ _ _ w).trans ?_
  have hs : ∀ a b : ByteArray, (a.toList == b.toList) = decide (a = b) := fun a b => by
    by_cases e : a = b
    · subst e; simp
    · rw [str_nq e]; simp [e]
  have hi : ∀ a b : Nat, (((a : Nat) : Int) == ((b : Nat) : Int)) = decide (a = b) := fun a b => by
    by_cases e : a = b
    · subst e; simp
    · simp [e]; omega
  rw [hs, hs, hi, hi, hi, hi, hi]
  rfl
set_option maxRecDepth 100000 in
theorem sme_refl (x : Se) : sme x x = true := by simp [sme]
set_option maxRecDepth 100000 in
theorem sme_lvc {x y : Se} (h : sme x y = true) : lvc x = lvc y := by
  simp only [sme, Bool.and_eq_true, decide_eq_true_eq] at h
  obtain ⟨⟨⟨⟨⟨⟨h1, h2⟩, h3⟩, h4⟩, h5⟩, h6⟩, h7⟩ := h
  simp only [lvc, h1, h2, h3, h4, h5, h6, h7]
set_option maxRecDepth 100000 in
theorem sme_of {x y : Se} (h : lvc x = lvc y) : sme x y = true := by
  simp only [lvc, List.cons.injEq, Value.int.injEq, Value.string.injEq, and_true, true_and] at h
  obtain ⟨h1, h2, h3, h4, h5, h6, h7⟩ := h
  simp only [sme, Bool.and_eq_true, decide_eq_true_eq]
  exact ⟨⟨⟨⟨⟨⟨by omega, by omega⟩, h3⟩, h4⟩, by omega⟩, by omega⟩, by omega⟩
end Go.Proofs.YtplcicbpkbamnabGreatDoor.Lo

/- LobbyKeys: what stays so of the first session -/
namespace Go.Proofs.YtplcicbpkbamnabGreatDoor.Lo
open Go Go.RowKit Go.Maps

/-- the first session, while it lives, has this key and this source -/
def One (X : Lb) (k : List UInt8) (fr : ByteArray) : Prop := 2 ≤ X.next ∧ ∀ s ∈ X.S, s.num = 1 → s.key = k ∧ s.fr = fr
set_option maxRecDepth 100000 in
theorem One.sub {X : Lb} {k : List UInt8} {fr : ByteArray} (h : One X k fr) (q : Se → Bool) : One { X with S := X.S.filter q } k fr :=
  ⟨h.1, fun s hs => h.2 s (List.mem_filter.1 hs).1⟩
set_option maxRecDepth 100000 in
theorem One.upd {X : Lb} {k : List UInt8} {fr : ByteArray} (h : One X k fr) {j : Nat} {s s' : Se} (hf : fds X j = some s) (h1 : s'.num = s.num) (h2 : s'.key = s.key) (h3 : s'.fr = s.fr) : One (upd X j s') k fr := by
  refine ⟨h.1, fun z hz hn => ?_⟩
  obtain ⟨y, hy, e⟩ := List.mem_map.1 hz
  by_cases q : y.num = j
  · rw [if_pos q] at e
    subst e
    rw [h2, h3]
    exact h.2 s (fds_num hf).1 (by rw [← h1]; exact hn)
  · rw [if_neg q] at e
    subst e
    exact h.2 y hy hn
set_option maxRecDepth 100000 in
theorem One.join {X : Lb} {k : List UInt8} {fr : ByteArray} (h : One X k fr) (f n s m : ByteArray) (t : Nat) : One (joiX X f n s m t) k fr := by
  unfold joiX
  cases hs : joiS X f n s m t with
  | none => exact h
  | some e =>
    have hn : e.num = X.next := by
      unfold joiS at hs
      split at hs
      · cases hs
      · split at hs
        · cases hs
        · split at hs
          · cases hs
          · cases hs; rfl
    refine ⟨Nat.le_succ_of_le h.1, fun z hz h1 => ?_⟩
    rcases List.mem_append.1 hz with q | q
    · exact h.2 z q h1
    · rw [List.mem_singleton] at q
      subst q
      have := h.1
      omega
set_option maxRecDepth 100000 in
theorem One.act {X : Lb} {k : List UInt8} {fr : ByteArray} (h : One X k fr) (o : Opr) : One (actX X o) k fr := by
  unfold actX
  split
  · exact h.join ..
  · split
    · unfold acpX
      cases hf : fds X o.ses with
      | none => exact h
      | some s =>
        refine h.upd hf ?_ ?_ ?_
        · unfold accE; split <;> rfl
        · unfold accE; split <;> rfl
        · unfold accE; split <;> rfl
    · split
      · unfold levX
        cases hf : fds X o.ses with
        | none => exact h
        | some s => exact h.sub _
      · split
        · exact h.sub _
        · split
          · refine ⟨h.1, fun z hz hn => ?_⟩
            obtain ⟨y, hy, e⟩ := List.mem_map.1 hz
            subst e
            exact h.2 y hy hn
          · split
            · unfold sntX
              cases hf : fds X o.ses with
              | none => exact h
              | some s => exact h.upd hf rfl rfl rfl
            · exact h
set_option maxRecDepth 100000 in
theorem One.at_ {X : Lb} {k : List UInt8} {fr : ByteArray} (h : One X k fr) {s : Se} (hf : fds X 1 = some s) : s.key = k ∧ s.fr = fr := h.2 s (fds_num hf).1 (fds_num hf).2
/-- gone: there is none -/
theorem fds_lev (X : Lb) (k : Nat) : fds (levX X k) k = none := by
  unfold levX
  cases hf : fds X k with
  | none => exact hf
  | some s =>
    show (X.S.filter fun s => decide (s.num ≠ k)).find? (fun s => decide (s.num = k)) = none
    rw [List.find?_eq_none]
    intro z hz
    have := (List.mem_filter.1 hz).2
    simpa using this
/-- what is asked of the first session behind a call -/
theorem keyS_one {X : Lb} {k : List UInt8} {fr : ByteArray} (h : One X k fr) : (fds X 1 = none ∧ keyS X 1 = ⟨#[]⟩ ∧ fndS X 1 fr = (z7, 122)) ∨ ∃ s, fds X 1 = some s ∧ keyS X 1 = txt k ∧ fndS X 1 fr = (lvc s, 0) := by
  cases hf : fds X 1 with
  | none => exact .inl ⟨rfl, by unfold keyS; rw [hf]; rfl, by unfold fndS; rw [hf]⟩
  | some s =>
    have := h.at_ hf
    refine .inr ⟨s, rfl, by unfold keyS; rw [hf]; show txt s.key = _; rw [this.1], ?_⟩
    unfold fndS; rw [hf]
    simp [this.2]
end Go.Proofs.YtplcicbpkbamnabGreatDoor.Lo

