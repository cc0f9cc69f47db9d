import Derived.Test.YtplcicbpkbamnabGreatDoorX22
/- lobby: derive. -/
namespace Go.Proofs.YtplcicbpkbamnabGreatDoor.Lo
open Go Go.RowKit

/-- a session's key: the account's, the nonces, the number -/
def drv (k : List UInt8) (nonce salt : ByteArray) (n : Nat) : List UInt8 := sl (deriveB (txt k) ⟨#[115, 101, 115, 115, 105, 111, 110]⟩ [nonce, salt, txt (Mac.len8 n)])
def z32 : List Value := [(.int .u8 0 : Value), (.int .u8 0 : Value), (.int .u8 0 : Value), (.int .u8 0 : Value), (.int .u8 0 : Value), (.int .u8 0 : Value), (.int .u8 0 : Value), (.int .u8 0 : Value), (.int .u8 0 : Value), (.int .u8 0 : Value), (.int .u8 0 : Value), (.int .u8 0 : Value), (.int .u8 0 : Value), (.int .u8 0 : Value), (.int .u8 0 : Value), (.int .u8 0 : Value), (.int .u8 0 : Value), (.int .u8 0 : Value), (.int .u8 0 : Value), (.int .u8 0 : Value), (.int .u8 0 : Value), (.int .u8 0 : Value), (.int .u8 0 : Value), (.int .u8 0 : Value), (.int .u8 0 : Value), (.int .u8 0 : Value), (.int .u8 0 : Value), (.int .u8 0 : Value), (.int .u8 0 : Value), (.int .u8 0 : Value), (.int .u8 0 : Value), (.int .u8 0 : Value)]
def z8 : List Value := [(.int .u8 0 : Value), (.int .u8 0 : Value), (.int .u8 0 : Value), (.int .u8 0 : Value), (.int .u8 0 : Value), (.int .u8 0 : Value), (.int .u8 0 : Value), (.int .u8 0 : Value)]
def dS (w0 W : World) (nb rb kb : Nat) (n i : Nat) (k : List UInt8) : Prop := Sep w0 W [boxA nb ((l8To n i).map b8) 148, boxA rb z32 102, boxA kb (k.map b8) 102]

set_option maxRecDepth 100000 in
theorem txt_size {l : List UInt8} {m : Nat} (h : l.length = m) : (txt l).size = m := h
set_option maxRecDepth 100000 in
theorem sl_drv (a b : ByteArray) (ps : List ByteArray) : (sl (deriveB a b ps)).length = 32 := Mac.sha_len _
set_option maxRecDepth 100000 in
theorem strs3 {w : World} {sb : Nat} {a b c : ByteArray} (h : Has w sb [.string a, .string b, .string c] 9) : Strs w (some ⟨sb, 0, none⟩) 3 [a, b, c] :=
  ⟨rfl, fun _ => ⟨sb, 0, rfl, fun j p hp => by
    rw [Nat.zero_add]
    refine h.cellv j _ ?_
    match j, hp with
    | 0, hp => obtain rfl : a = p := by simpa using hp
               rfl
    | 1, hp => obtain rfl : b = p := by simpa using hp
               rfl
    | 2, hp => obtain rfl : c = p := by simpa using hp
               rfl
    | j + 3, hp => simp at hp⟩⟩
set_option maxRecDepth 100000 in
set_option maxHeartbeats 16000000 in
theorem drv_c (k : List UInt8) (nonce salt : ByteArray) (n : Nat) (w : World) (hk : Kc w) (hl : k.length = 32) (h1 : nonce.size ≤ 281474976710656) (h2 : salt.size ≤ 281474976710656) :
    Calls Tryz.prog 52 #[.agg (k.map b8).toArray, .string nonce, .string salt, .int .u64 n] w fun e w' => e = .returned (.agg ((drv k nonce salt n).map b8).toArray) ∧ w.grownBy w' none := by
  have HK := Keep.mk (And.intro hk (And.intro hl (And.intro h1 h2)))
  have S3 := (((Sep.nil w).newBox (k.map b8).toArray 102).newBox z32.toArray 102).newBox z8.toArray 148
  obtain ⟨W1, hW1⟩ : ∃ W1, w.alloc (.cells (k.map b8).toArray 102) = W1 := ⟨_, rfl⟩
  obtain ⟨kb, hkb⟩ : ∃ kb, w.heap.size = kb := ⟨_, rfl⟩
  rw [hW1, hkb] at S3
  obtain ⟨W2, hW2⟩ : ∃ W2, W1.alloc (.cells z32.toArray 102) = W2 := ⟨_, rfl⟩
  obtain ⟨rb, hrb⟩ : ∃ rb, W1.heap.size = rb := ⟨_, rfl⟩
  rw [hW2, hrb] at S3
  obtain ⟨W3, hW3⟩ : ∃ W3, W2.alloc (.cells z8.toArray 148) = W3 := ⟨_, rfl⟩
  obtain ⟨nb, hnb⟩ : ∃ nb, W2.heap.size = nb := ⟨_, rfl⟩
  rw [hW3, hnb] at S3
  have HS3 : Keep (dS w W3 nb rb kb n 0 k) := ⟨S3⟩
  have hsz : (k.map b8).toArray.size = 32 := by simp [hl]
  obtain ⟨cs, hcs⟩ : ∃ cs, (k.map b8).toArray = cs := ⟨_, rfl⟩
  have HCS := Keep.mk hcs
  rw [hcs] at hW1 hsz ⊢
  unfold z32 at hW2
  unfold z8 at hW3
  clear S3 hk hl h1 h2 hcs
  go_enter Tryz.func52, Tryz.ntmps52
  go_wp2_with fail
  go_loopw [12] (fun t w' => ∃ i : Nat, i ≤ 8 ∧ t = .int .i64 i ∧ Keep (dS w w' nb rb kb n i k)) (fun t _ => 8 - (intOf t).toNat)
  case atStart => exact ⟨0, by omega, rfl, HS3⟩
  case round =>
    obtain ⟨i, hi, rfl, hrel⟩ := hrel
    clear HS3
    by_cases hli : i < 8
    · obtain ⟨v, hv⟩ : ∃ v, UInt8.ofNat (n / 2 ^ (56 - 8 * i)) = v := ⟨_, rfl⟩
      have H2 : Keep (dS w (wr.setCell ⟨nb, i, none⟩ (.int .u8 v.toNat)) nb rb kb n (i + 1) k) := ⟨by
        have := Sep.boxPut hrel.out i (b8 v)
        rw [← List.map_set, ← hv, l8To_step n i hli, hv] at this
        exact this⟩
      have hp := Sep.boxGet hrel.out k0m
      have hf := hp.frozen i
      have hcl : (wr.cell? ⟨nb, i, none⟩).isSome = true := (hp.there i 1 (by rw [List.length_map]; simp [l8To, Mac.len8]; omega) 0 (by decide)).1
      obtain ⟨y0, hc⟩ := Option.isSome_iff_exists.1 hcl
      have hv2 : (n : Int) / 2 ^ (56 - 8 * i) % 256 = (v.toNat : Int) := by
        rw [← hv]; simp
      clear hrel hv hcl hp
      go_wp2
      refine ⟨⟨i + 1, by omega, by go_num, H2⟩, ?_⟩
      simp [intOf]; omega
    · obtain rfl : i = 8 := by omega
      have S4 := Sep.newBox hrel.out z32.toArray 102
      obtain ⟨W4, hW4⟩ : ∃ W4, wr.alloc (.cells z32.toArray 102) = W4 := ⟨_, rfl⟩
      obtain ⟨db, hdb⟩ : ∃ db, wr.heap.size = db := ⟨_, rfl⟩
      rw [hW4, hdb] at S4
      have HS4 : Keep (Sep w W4 [boxA db z32 102, boxA nb ((Mac.len8 n).map b8) 148, boxA rb z32 102, boxA kb (k.map b8) 102]) := ⟨S4⟩
      unfold z32 at hW4
      clear hrel S4
      go_wp2_with fail
      have SD := HS4.out.grown (gr_drew W4 none)
      have HI85 : Keep ((Tryz.prog.info? 102).map (·.size) = some (k.map b8).length) := ⟨by rw [List.length_map, HK.out.2.1]; kernel_rfl⟩
      have hT := fun W => text_c k W HK.out.2.1
      rw [HCS.out] at hT
      refine wp_region_held_drew (S := fun w => Has w kb (k.map b8) 102 ∧ Has w nb ((Mac.len8 n).map b8) 148) (by kernel_rfl) ⟨SD.boxGet k3m, SD.boxGet k1m⟩ (fun hHeld => ?_)
      generalize W4.drew = w4 at SD hHeld ⊢
      clear HS4 hW4 hW3 hW2 hW1 hkb hrb hnb hdb hi hli
      refine wpAnyH_take (i := 0) (oi := _) (v := ?_) rfl (by kernel_rfl) (by kernel_rfl) (by kernel_rfl) (fun _ _ _ h => h) (Or.inl ⟨by rfl, ?_⟩) (by assumption) ?_
      rotate_left
      · (intro w hSw; go_simp; first | done | (with_reducible rfl))
      simp only [Act.put, List.getElem_toArray, List.getElem_cons_zero, List.setIfInBounds_toArray, List.set_cons_zero, List.set_cons_succ]
      refine wpAnyH_take (i := 1) (oi := _) (v := .agg (k.map b8).toArray) rfl (by kernel_rfl) (by kernel_rfl) (by kernel_rfl) (fun _ _ _ h => h) (yieldsIf_load_mid (by rfl) 102 _ rfl kb 0 rfl _ _ (fun _ h => h.1.range) Tryz.underlying102 rfl HI85.out) (by assumption) ?_
      rw [HCS.out]
      simp only [Act.put, List.getElem_toArray, List.getElem_cons_succ, List.getElem_cons_zero, List.setIfInBounds_toArray, List.set_cons_zero, List.set_cons_succ]
      refine wpAnyH_take (i := 3) (oi := _) (v := ?_) rfl (by kernel_rfl) (by kernel_rfl) (by kernel_rfl) (fun _ _ _ h => h) (Or.inl ⟨by rfl, ?_⟩) (by assumption) ?_
      rotate_left
      · (intro w hSw; go_simp; first | done | (with_reducible rfl))
      simp only [Act.put, List.getElem_toArray, List.getElem_cons_succ, List.getElem_cons_zero, List.setIfInBounds_toArray, List.set_cons_zero, List.set_cons_succ]
      refine wpAnyH_take (i := 4) (oi := _) (v := ?_) rfl (by kernel_rfl) (by kernel_rfl) (by kernel_rfl) (fun _ _ _ h => h) (Or.inl ⟨by rfl, ?_⟩) (by assumption) ?_
      rotate_left
      · (intro w hSw; go_simp; first | done | (with_reducible rfl))
      simp only [Act.put, List.getElem_toArray, List.getElem_cons_succ, List.getElem_cons_zero, List.setIfInBounds_toArray, List.set_cons_zero, List.set_cons_succ]
      refine wpAnyH_take (i := 5) (oi := _) (v := ?_) rfl (by kernel_rfl) (by kernel_rfl) (by kernel_rfl) (fun _ _ _ h => h) (Or.inl ⟨by rfl, ?_⟩) (by assumption) ?_
      rotate_left
      · (intro w hSw; go_simp; first | done | (with_reducible rfl))
      simp only [Act.put, List.getElem_toArray, List.getElem_cons_succ, List.getElem_cons_zero, List.setIfInBounds_toArray, List.set_cons_zero, List.set_cons_succ]
      refine wpAnyH_take (i := 6) (oi := _) (v := ?_) rfl (by kernel_rfl) (by kernel_rfl) (by kernel_rfl) (fun _ _ _ h => h) (Or.inl ⟨by rfl, ?_⟩) (by assumption) ?_
      rotate_left
      · (intro w hSw; obtain ⟨y1, y2⟩ := hSw; have hcv := cvt_has (c := 8) y2 (Mac.len8_len n); go_simp; first | done | (with_reducible rfl))
      simp only [Act.put, List.getElem_toArray, List.getElem_cons_succ, List.getElem_cons_zero, List.setIfInBounds_toArray, List.set_cons_zero, List.set_cons_succ]
      refine wpAnyH_ready (rs := [2, 7]) (by kernel_rfl) (by simp) ?_
      refine AllReadyH.cons rfl (fun K hK => ?_) (AllReadyH.cons rfl (fun K hK => ?_) AllReadyH.nil)
      · have hC := hT w4
        go_simp
        go_wp2_with fail
        refine hC.mono ?_
        rintro e w5 ⟨rfl, g5⟩
        have S5 := SD.grown g5
        clear hC hT g5 SD
        refine hK.out _ _ ⟨S5.boxGet k3m, S5.boxGet k1m⟩ (fun hHeld => ?_)
        clear hK K
        refine wpAnyH_ready (rs := [7]) (by kernel_rfl) (by simp) ?_
        refine AllReadyH.cons rfl (fun K hK => ?_) AllReadyH.nil
        go_simp
        go_wp2_with fail
        have S6 := S5.newBox #[.string nonce, .string salt, .string (txt (Mac.len8 n))] 9
        refine hK.out _ _ ⟨S6.boxGet k4m, S6.boxGet k2m⟩ (fun hHeld => ?_)
        clear hK K S5
        generalize hw6 : World.alloc w5 _ = w6 at S6 hHeld ⊢
        clear hw6
        generalize w5.heap.size = sb at S6 ⊢
        have hC := derive_gen (txt k) ⟨#[115, 101, 115, 115, 105, 111, 110]⟩ (some ⟨sb, 0, none⟩) 3 3 [nonce, salt, txt (Mac.len8 n)] w6 (HK.out.1.kept S6.g (by simp)) (strs3 (S6.boxGet k0m)) (by rw [txt_size HK.out.2.1]; decide) (by decide) (by decide) (fun j p hp => by
          match j, hp with
          | 0, hp => obtain rfl : nonce = p := by simpa using hp
                     have := HK.out.2.2.1; omega
          | 1, hp => obtain rfl : salt = p := by simpa using hp
                     have := HK.out.2.2.2; omega
          | 2, hp => obtain rfl : txt (Mac.len8 n) = p := by simpa using hp
                     rw [txt_size (Mac.len8_len n)]; decide
          | j + 3, hp => simp at hp)
        refine wpAnyH_ready (rs := [8]) (by kernel_rfl) (by simp) ?_
        refine AllReadyH.cons rfl (fun K hK => ?_) AllReadyH.nil
        generalize hdv : deriveB (txt k) ⟨#[115, 101, 115, 115, 105, 111, 110]⟩ [nonce, salt, txt (Mac.len8 n)] = dv at hC
        have HDV : Keep ((sl dv).length = 32 ∧ drv k nonce salt n = sl dv) := ⟨by rw [← hdv]; exact sl_drv _ _ _, by rw [← hdv]; rfl⟩
        clear hdv
        go_simp
        go_wp2_with fail
        refine hC.mono ?_
        rintro e w7 ⟨rfl, g7⟩
        have S7 := (S6.grown g7).tail
        clear hC g7 S6
        refine hK.out _ _ ⟨S7.boxGet k3m, S7.boxGet k1m⟩ (fun hHeld => ?_)
        clear hK K
        refine wpAnyH_ready (rs := [9]) (by kernel_rfl) (by simp) ?_
        refine AllReadyH.cons rfl (fun K hK => ?_) AllReadyH.nil
        have hcp := copy_str w7 3 db 0 32 32 32 dv (by rw [← sl_len, HDV.out.1]; rfl) ((S7.boxGet k0m).there 0 32 (by decide))
        rw [List.take_of_length_le (by rw [HDV.out.1]; omega)] at hcp
        have S8 := S7.boxPuts 0 ((sl dv).map b8) ((S7.boxGet k0m).setAll ((sl dv).map b8) (by rw [List.length_map, HDV.out.1]; rfl))
        have HS8 := Keep.mk S8
        rw [if_pos (by rfl)]
        refine wp_copy_run _ _ 120 9 rfl _ _ rfl rfl hcp ?_
        refine hK.out _ _ ⟨S8.boxGet k3m, S8.boxGet k1m⟩ (fun hHeld => ?_)
        clear hK K hcp S8 S7
        generalize World.setCells w7 db 0 _ = w8 at HS8 hHeld ⊢
        refine wpAnyH_done (by kernel_rfl) ?_ _
        clear hHeld
        have HL1 : Keep (∀ v ∈ (sl dv).map b8, v.oneCell' = true) := ⟨fun v hv => by obtain ⟨x, _, rfl⟩ := List.mem_map.1 hv; rfl⟩
        have HI : Keep ((Tryz.prog.info? 102).map (·.size) = some ((sl dv).map b8).length) := ⟨by rw [List.length_map, HDV.out.1]; kernel_rfl⟩
        have HL2 : Keep (((sl dv).map b8).length = z32.length) := ⟨by rw [List.length_map, HDV.out.1]; rfl⟩
        obtain ⟨ds, hds⟩ : ∃ ds, (sl dv).map b8 = ds := ⟨_, rfl⟩
        rw [hds] at HS8 HL1 HI HL2
        have HDS : Keep (((drv k nonce salt n).map b8).toArray = ds.toArray) := ⟨by rw [HDV.out.2, hds]⟩
        clear hds HDV
        have RNG := Keep.mk (HS8.out.boxGet k0m).range
        have HRB := Keep.mk (HS8.out.boxGet k2m)
        obtain ⟨du, hdu, hdr⟩ : ∃ d, Tryz.prog.underlying 102 = some d ∧ d.isRow = true := ⟨_, Tryz.underlying102, rfl⟩
        simp only [Act.put, List.setIfInBounds_toArray]
        go_wp2_with (first
          | (show wpList _ _ _ ({ dst := _, op := Op.load 102 _, type := _, pos := _, after := _, guard := _ } :: _) _ _
             refine wpList_load_mid rfl 102 _ rfl _ _ rfl _ _ RNG.out hdu hdr HI.out ?_)
          | (show wpList _ _ _ ({ dst := _, op := Op.store 102 _ _, type := _, pos := _, after := _, guard := _ } :: _) _ _
             refine store_box _ rb z32 ds 102 rfl rfl rfl rfl HRB.out HL2.out HI.out HL1.out ?_))
        intro w9 hS9 g9
        have HS9 := Keep.mk (hS9 _ _ HS8.out.third)
        clear hS9 g9 RNG HRB HS8
        go_wp2_with fail
        exact ret_c rfl rfl (HS9.out.boxGet k0m) hdu hdr HI.out rfl ⟨by rw [HDS.out], HS9.out.g⟩
      · have hC' := hT
        clear hT
        go_simp
        go_wp2_with fail
        have S5 := SD.newBox #[.string nonce, .string salt, .string (txt (Mac.len8 n))] 9
        refine hK.out _ _ ⟨S5.boxGet k4m, S5.boxGet k2m⟩ (fun hHeld => ?_)
        clear hK K SD
        generalize hw5 : World.alloc w4 _ = w5 at S5 hHeld ⊢
        clear hw5
        generalize w4.heap.size = sb at S5 ⊢
        refine wpAnyH_ready (rs := [2]) (by kernel_rfl) (by simp) ?_
        refine AllReadyH.cons rfl (fun K hK => ?_) AllReadyH.nil
        have hC := hC' w5
        clear hC'
        go_simp
        go_wp2_with fail
        refine hC.mono ?_
        rintro e w6 ⟨rfl, g6⟩
        have S6 := S5.grown g6
        clear hC g6 S5
        refine hK.out _ _ ⟨S6.boxGet k4m, S6.boxGet k2m⟩ (fun hHeld => ?_)
        clear hK K
        have hC := derive_gen (txt k) ⟨#[115, 101, 115, 115, 105, 111, 110]⟩ (some ⟨sb, 0, none⟩) 3 3 [nonce, salt, txt (Mac.len8 n)] w6 (HK.out.1.kept S6.g (by simp)) (strs3 (S6.boxGet k0m)) (by rw [txt_size HK.out.2.1]; decide) (by decide) (by decide) (fun j p hp => by
          match j, hp with
          | 0, hp => obtain rfl : nonce = p := by simpa using hp
                     have := HK.out.2.2.1; omega
          | 1, hp => obtain rfl : salt = p := by simpa using hp
                     have := HK.out.2.2.2; omega
          | 2, hp => obtain rfl : txt (Mac.len8 n) = p := by simpa using hp
                     rw [txt_size (Mac.len8_len n)]; decide
          | j + 3, hp => simp at hp)
        refine wpAnyH_ready (rs := [8]) (by kernel_rfl) (by simp) ?_
        refine AllReadyH.cons rfl (fun K hK => ?_) AllReadyH.nil
        generalize hdv : deriveB (txt k) ⟨#[115, 101, 115, 115, 105, 111, 110]⟩ [nonce, salt, txt (Mac.len8 n)] = dv at hC
        have HDV : Keep ((sl dv).length = 32 ∧ drv k nonce salt n = sl dv) := ⟨by rw [← hdv]; exact sl_drv _ _ _, by rw [← hdv]; rfl⟩
        clear hdv
        go_simp
        go_wp2_with fail
        refine hC.mono ?_
        rintro e w7 ⟨rfl, g7⟩
        have S7 := (S6.grown g7).tail
        clear hC g7 S6
        refine hK.out _ _ ⟨S7.boxGet k3m, S7.boxGet k1m⟩ (fun hHeld => ?_)
        clear hK K
        refine wpAnyH_ready (rs := [9]) (by kernel_rfl) (by simp) ?_
        refine AllReadyH.cons rfl (fun K hK => ?_) AllReadyH.nil
        have hcp := copy_str w7 3 db 0 32 32 32 dv (by rw [← sl_len, HDV.out.1]; rfl) ((S7.boxGet k0m).there 0 32 (by decide))
        rw [List.take_of_length_le (by rw [HDV.out.1]; omega)] at hcp
        have S8 := S7.boxPuts 0 ((sl dv).map b8) ((S7.boxGet k0m).setAll ((sl dv).map b8) (by rw [List.length_map, HDV.out.1]; rfl))
        have HS8 := Keep.mk S8
        rw [if_pos (by rfl)]
        refine wp_copy_run _ _ 120 9 rfl _ _ rfl rfl hcp ?_
        refine hK.out _ _ ⟨S8.boxGet k3m, S8.boxGet k1m⟩ (fun hHeld => ?_)
        clear hK K hcp S8 S7
        generalize World.setCells w7 db 0 _ = w8 at HS8 hHeld ⊢
        refine wpAnyH_done (by kernel_rfl) ?_ _
        clear hHeld
        have HL1 : Keep (∀ v ∈ (sl dv).map b8, v.oneCell' = true) := ⟨fun v hv => by obtain ⟨x, _, rfl⟩ := List.mem_map.1 hv; rfl⟩
        have HI : Keep ((Tryz.prog.info? 102).map (·.size) = some ((sl dv).map b8).length) := ⟨by rw [List.length_map, HDV.out.1]; kernel_rfl⟩
        have HL2 : Keep (((sl dv).map b8).length = z32.length) := ⟨by rw [List.length_map, HDV.out.1]; rfl⟩
        obtain ⟨ds, hds⟩ : ∃ ds, (sl dv).map b8 = ds := ⟨_, rfl⟩
        rw [hds] at HS8 HL1 HI HL2
        have HDS : Keep (((drv k nonce salt n).map b8).toArray = ds.toArray) := ⟨by rw [HDV.out.2, hds]⟩
        clear hds HDV
        have RNG := Keep.mk (HS8.out.boxGet k0m).range
        have HRB := Keep.mk (HS8.out.boxGet k2m)
        obtain ⟨du, hdu, hdr⟩ : ∃ d, Tryz.prog.underlying 102 = some d ∧ d.isRow = true := ⟨_, Tryz.underlying102, rfl⟩
        simp only [Act.put, List.setIfInBounds_toArray]
        go_wp2_with (first
          | (show wpList _ _ _ ({ dst := _, op := Op.load 102 _, type := _, pos := _, after := _, guard := _ } :: _) _ _
             refine wpList_load_mid rfl 102 _ rfl _ _ rfl _ _ RNG.out hdu hdr HI.out ?_)
          | (show wpList _ _ _ ({ dst := _, op := Op.store 102 _ _, type := _, pos := _, after := _, guard := _ } :: _) _ _
             refine store_box _ rb z32 ds 102 rfl rfl rfl rfl HRB.out HL2.out HI.out HL1.out ?_))
        intro w9 hS9 g9
        have HS9 := Keep.mk (hS9 _ _ HS8.out.third)
        clear hS9 g9 RNG HRB HS8
        go_wp2_with fail
        exact ret_c rfl rfl (HS9.out.boxGet k0m) hdu hdr HI.out rfl ⟨by rw [HDS.out], HS9.out.g⟩
end Go.Proofs.YtplcicbpkbamnabGreatDoor.Lo

