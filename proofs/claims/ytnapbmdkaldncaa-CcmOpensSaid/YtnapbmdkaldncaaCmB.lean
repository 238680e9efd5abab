/-
  Contract of ccm's Close.
-/
import Derived.Test.YtnapbmdkaldncaaCmA
import Derived.Test.YtnapbmdkaldncaaRpC
namespace Go.Proofs.Ytnapbmdkaldncaa.Cc
open Go.RowKit Go.Proofs.Ytnapbmdkaldncaa.Bt Go.Proofs.Ytnapbmdkaldncaa.Mm Go.Proofs.Ytnapbmdkaldncaa.Fl Go.Proofs.Ytnapbmdkaldncaa.Lw Go.Proofs.Ytnapbmdkaldncaa.Hx Go.Proofs.Ytnapbmdkaldncaa.Mc Go.Proofs.Ytnapbmdkaldncaa.Tg Go.Proofs.Ytnapbmdkaldncaa.Oa Go.Proofs.Ytnapbmdkaldncaa.Rp
set_option linter.unusedSimpArgs false

theorem flags_bits (b : Bool) (p : Nat) (hp : p < 8) : bitsN (bitN b 1) 1 ++ (bitsN 0 4 ++ bitsN p 3) = bitsN (p + bitN b 128) 8 := by
  have h : ∀ b : Bool, ∀ p : Fin 8, bitsN (bitN b 1) 1 ++ (bitsN 0 4 ++ bitsN p.val 3) = bitsN (p.val + bitN b 128) 8 := by decide +kernel
  exact h b ⟨p, hp⟩
abbrev partsF (b : Bool) (p : Nat) : List (Int × Nat) := [(1, bitN b 1), (4, 0), (3, p)]
abbrev partsC (c e : Nat) : List (Int × Nat) := [(32, c), (3, 0), (13, e)]
theorem bitN_lt (b : Bool) : bitN b 1 < 2 := by cases b <;> simp [bitN]
theorem pack_flags (b : Bool) (p : Nat) (hp : p < 8) : packR (partsF b p) = ([UInt8.ofNat (p + bitN b 128)], 0) := by
  have hb := bitN_lt b
  have hm : p + bitN b 128 < 256 := by unfold bitN; split <;> omega
  have eA : allBits (partsF b p) = bitsB [UInt8.ofNat (p + bitN b 128)] := by
    have e1 : allBits (partsF b p) = bitsN (bitN b 1) 1 ++ (bitsN 0 4 ++ bitsN p 3) := by simp [allBits]
    rw [e1, flags_bits b p hp, bitsB_cons, ofNat_toNat _ hm]
    simp [bitsB]
  have hok : (partsF b p).all okP = true := by
    simp only [List.all_cons, List.all_nil, Bool.and_true, Bool.and_eq_true, okP, decide_eq_true_eq]
    refine ⟨⟨by omega, by omega, ?_⟩, ⟨by omega, by omega, ?_⟩, ⟨by omega, by omega, ?_⟩⟩ <;> simp <;> omega
  unfold packR
  rw [if_pos hok, eA, if_pos (by rw [length_bitsB]; omega), bytesOf_bitsB]
theorem pack_cont (c e : Nat) (hc : c < 4294967296) (he : e < 8192) : packR (partsC c e) = (putB c 4 ++ putB e 2, 0) := by
  have eA : allBits (partsC c e) = bitsB (putB c 4 ++ putB e 2) := by
    have e1 : allBits (partsC c e) = bitsN c 32 ++ (bitsN 0 3 ++ bitsN e 13) := by simp [allBits]
    have e2 := bitsN_join 0 e 3 13 (by omega)
    rw [e1, ← e2, bitsB_append, bitsB_putB, bitsB_putB]
    simp
  have hok : (partsC c e).all okP = true := by
    simp only [List.all_cons, List.all_nil, Bool.and_true, Bool.and_eq_true, okP, decide_eq_true_eq]
    refine ⟨⟨by omega, by omega, ?_⟩, ⟨by omega, by omega, ?_⟩, ⟨by omega, by omega, ?_⟩⟩ <;> simp <;> omega
  unfold packR
  rw [if_pos hok, eA, if_pos (by rw [length_bitsB]; omega), bytesOf_bitsB]
/-- a message's cells in a block -/
def Sc (g : Nat) (b : Bool) (p c e : Nat) (gr : ByteArray) (w : World) : Prop :=
  g < w.heap.size ∧ w.cell? ⟨g, 0, none⟩ = some (.bool b) ∧ w.cell? ⟨g, 1, none⟩ = some (.int .u8 (p : Int)) ∧ w.cell? ⟨g, 2, none⟩ = some (.int .u32 (c : Int)) ∧ w.cell? ⟨g, 3, none⟩ = some (.int .u16 (e : Int)) ∧ w.cell? ⟨g, 4, none⟩ = some (.string gr)
theorem sc_keeps (g : Nat) (b : Bool) (p c e : Nat) (gr : ByteArray) : Rg.Keeps (Sc g b p c e gr) := fun _ _ hs hb => Rw5.keep hb hs

set_option maxHeartbeats 1000000 in
theorem close_wrong (b : Bool) (p c e : Nat) (g : ByteArray) (l r : Nat) (w : World) (hr : wrongC ⟨b, p, c, e, g.data.toList⟩ l = r) (h0 : r ≠ 0) :
    Calls Try.prog 16 #[cmV b p c e g, .int .u8 (l : Int)] w fun x w' => x = .returned (.tuple #[.string ⟨#[]⟩, .int .i64 (r : Int)]) ∧ Below w.heap.size w w' := by
  have h2 : ((r : Int) != 0) = true := neq_t (by omega)
  have HR := Lib.hid hr
  have HB := Lib.hid ((Below.refl w.heap.size w).alloc (Nat.le_refl _) (.cells (cmC b p c e g) 46))
  clear h0 hr
  go_enter Try.func16, Try.ntmps16
  go_wp2_with fail
  refine (wrong_at b p c e g l _ HR.out).mono ?_
  rintro x w1 ⟨rfl, hb1⟩
  have HB1 := Lib.hid (HB.out.trans (hb1.mono HB.out.size))
  clear hb1
  go_wp2
  go_ret2
  exact ⟨rfl, HB1.out⟩
set_option maxRecDepth 100000 in
set_option maxHeartbeats 4000000 in
theorem close_ok (b : Bool) (p c e : Nat) (g : ByteArray) (l : Nat) (f : Nat) (fs cs1 sZ : ByteArray) (bs : List UInt8) (r : Nat) (w : World) (hr : wrongC ⟨b, p, c, e, g.data.toList⟩ l = 0) (hp : p < 8) (hc : c < 4294967296) (he : e < 8192) (hg : g.size = 48)
    (hpf : packR (partsF b p) = (fs.data.toList, 0)) (hpc : packR (partsC c e) = (cs1.data.toList, 0)) (hf0 : 0 < fs.size) (hf : (fs[0]).toNat = f) (hf2 : f < 256) (hc1 : cs1.size = 6) (hz : (⟨(noughts 16).toArray⟩ : ByteArray) = sZ)
    (hcl : closeO ⟨l, 0, 1, f, 70⟩ (cs1 ++ (g ++ sZ)).data.toList = (bs, r)) :
    Calls Try.prog 16 #[cmV b p c e g, .int .u8 (l : Int)] w fun x w' => x = .returned (.tuple #[.string ⟨bs.toArray⟩, .int .i64 (r : Int)]) ∧ Below w.heap.size w w' := by
  have hz16 : sZ.size = 16 := by rw [← hz]; rfl
  have z1 : ¬ 9223372036854775807 < g.size + sZ.size := by omega
  have z2 : ¬ 9223372036854775807 < cs1.size + (g.size + sZ.size) := by omega
  have k1 : IntKind.u64.wrap (p : Int) = (p : Int) := IntWalk.u64_in _ ⟨by omega, by omega⟩
  have k2 : IntKind.u64.wrap (c : Int) = (c : Int) := IntWalk.u64_in _ ⟨by omega, by omega⟩
  have k3 : IntKind.u64.wrap (e : Int) = (e : Int) := IntWalk.u64_in _ ⟨by omega, by omega⟩
  have HR := Lib.hid hr; clear hr
  have HPF := Lib.hid hpf; clear hpf
  have HPC := Lib.hid hpc; clear hpc
  have HSZ := Lib.hid hz; clear hz
  have HCL := Lib.hid hcl; clear hcl
  have HVF := Lib.hid (show ∀ x ∈ partsF b p, x.2 < 18446744073709551616 by
    have := bitN_lt b
    intro x hx
    simp only [partsF, List.mem_cons, List.not_mem_nil, or_false] at hx
    rcases hx with rfl | rfl | rfl <;> simp only <;> omega)
  have HVC := Lib.hid (show ∀ x ∈ partsC c e, x.2 < 18446744073709551616 by
    intro x hx
    simp only [partsC, List.mem_cons, List.not_mem_nil, or_false] at hx
    rcases hx with rfl | rfl | rfl <;> simp only <;> omega)
  have HB := Lib.hid ((Below.refl w.heap.size w).alloc (Nat.le_refl _) (.cells (cmC b p c e g) 46))
  have K0 := Lib.hid (Rw5.fresh w 46 (.bool b) (.int .u8 (p : Int)) (.int .u32 (c : Int)) (.int .u16 (e : Int)) (.string g))
  have HF2 := Lib.hid hf2
  clear hz16 hc1 hg hf2 hp hc he
  go_enter Try.func16, Try.ntmps16
  go_wp2_with fail
  refine (wrong_at b p c e g l _ HR.out).mono ?_
  rintro x w1 ⟨rfl, hb1⟩
  have HB1 := Lib.hid (HB.out.trans (hb1.mono HB.out.size))
  have K1 := Lib.hid (Rw5.keep hb1 K0.out)
  clear hb1 K0 HB
  go_upto_region 4 with (fail)
  obtain ⟨wa, hwa⟩ : ∃ wa, wa = w1.drew := ⟨_, rfl⟩
  have HBR := Lib.hid (show Below w.heap.size w wa by rw [hwa]; exact HB1.out.drew)
  have KS := Lib.hid (sc_keeps w.heap.size b p c e g)
  refine wp_region_held_drew (S := Sc w.heap.size b p c e g) (by kernel_rfl) K1.out (fun hHeld => ?_)
  rw [← hwa] at hHeld ⊢
  have HWA := Lib.hid hwa
  clear hwa K1 HB1
  refine wpAnyH_take (i := 0) (oi := _) (v := ?_) rfl (by kernel_rfl) (by kernel_rfl) (by kernel_rfl) (fun _ _ _ h => h) (Or.inl ⟨by rfl, ?_⟩) (by assumption) ?_
  rotate_left
  · intro wx hSx
    go_simp
    all_goals with_reducible rfl
  simp only [Act.put, List.setIfInBounds_toArray, List.set_cons_zero, List.set_cons_succ, List.getElem_toArray, List.getElem_cons_zero, List.getElem_cons_succ]
  refine wpAnyH_take (i := 1) (oi := _) (v := ?_) rfl (by kernel_rfl) (by kernel_rfl) (by kernel_rfl) (fun _ _ _ h => h) (Or.inl ⟨by rfl, ?_⟩) (by assumption) ?_
  rotate_left
  · intro wx hSx
    obtain ⟨_, d0, d1, d2, d3, d4⟩ := hSx; go_simp
    all_goals with_reducible rfl
  simp only [Act.put, List.setIfInBounds_toArray, List.set_cons_zero, List.set_cons_succ, List.getElem_toArray, List.getElem_cons_zero, List.getElem_cons_succ]
  refine wpAnyH_take (i := 4) (oi := _) (v := ?_) rfl (by kernel_rfl) (by kernel_rfl) (by kernel_rfl) (fun _ _ _ h => h) (Or.inl ⟨by rfl, ?_⟩) (by assumption) ?_
  rotate_left
  · intro wx hSx
    go_simp
    all_goals with_reducible rfl
  simp only [Act.put, List.setIfInBounds_toArray, List.set_cons_zero, List.set_cons_succ, List.getElem_toArray, List.getElem_cons_zero, List.getElem_cons_succ]
  refine wpAnyH_take (i := 5) (oi := _) (v := ?_) rfl (by kernel_rfl) (by kernel_rfl) (by kernel_rfl) (fun _ _ _ h => h) (Or.inl ⟨by rfl, ?_⟩) (by assumption) ?_
  rotate_left
  · intro wx hSx
    go_simp
    all_goals with_reducible rfl
  simp only [Act.put, List.setIfInBounds_toArray, List.set_cons_zero, List.set_cons_succ, List.getElem_toArray, List.getElem_cons_zero, List.getElem_cons_succ]
  refine wpAnyH_take (i := 6) (oi := _) (v := ?_) rfl (by kernel_rfl) (by kernel_rfl) (by kernel_rfl) (fun _ _ _ h => h) (Or.inl ⟨by rfl, ?_⟩) (by assumption) ?_
  rotate_left
  · intro wx hSx
    obtain ⟨_, d0, d1, d2, d3, d4⟩ := hSx; go_simp
    all_goals with_reducible rfl
  simp only [Act.put, List.setIfInBounds_toArray, List.set_cons_zero, List.set_cons_succ, List.getElem_toArray, List.getElem_cons_zero, List.getElem_cons_succ]
  refine wpAnyH_take (i := 7) (oi := _) (v := ?_) rfl (by kernel_rfl) (by kernel_rfl) (by kernel_rfl) (fun _ _ _ h => h) (Or.inl ⟨by rfl, ?_⟩) (by assumption) ?_
  rotate_left
  · intro wx hSx
    go_simp
    all_goals with_reducible rfl
  simp only [Act.put, List.setIfInBounds_toArray, List.set_cons_zero, List.set_cons_succ, List.getElem_toArray, List.getElem_cons_zero, List.getElem_cons_succ]
  refine wpAnyH_take (i := 8) (oi := _) (v := ?_) rfl (by kernel_rfl) (by kernel_rfl) (by kernel_rfl) (fun _ _ _ h => h) (Or.inl ⟨by rfl, ?_⟩) (by assumption) ?_
  rotate_left
  · intro wx hSx
    go_simp
    all_goals with_reducible rfl
  simp only [Act.put, List.setIfInBounds_toArray, List.set_cons_zero, List.set_cons_succ, List.getElem_toArray, List.getElem_cons_zero, List.getElem_cons_succ]
  refine wpAnyH_ready (rs := [2]) (by kernel_rfl) (by simp) ?_
  refine AllReadyH.cons (o := _) rfl (fun K hK => ?_) ?_
  · go_simp
    refine (lv_any b _).mono ?_
    rintro x wa ⟨rfl, rfl⟩
    have hbc := Below.refl wa.heap.size wa
    go_wp2_with fail
    refine Rg.st_call hK hHeld KS.out HBR.out hbc ?_
    clear hK K
    intro hHeld hbr
    have HBR := Lib.hid hbr
    clear hbr hbc
    try simp only [List.setIfInBounds_toArray, List.set_cons_zero, List.set_cons_succ]
    refine wpAnyH_take (i := 3) (oi := _) (v := ?_) rfl (by kernel_rfl) (by kernel_rfl) (by kernel_rfl) (fun _ _ _ h => h) (Or.inl ⟨by rfl, ?_⟩) (by assumption) ?_
    rotate_left
    · intro wx hSx
      go_simp
      all_goals with_reducible rfl
    simp only [Act.put, List.setIfInBounds_toArray, List.set_cons_zero, List.set_cons_succ, List.getElem_toArray, List.getElem_cons_zero, List.getElem_cons_succ]
    refine wpAnyH_ready (rs := [9]) (by kernel_rfl) (by simp) ?_
    refine AllReadyH.cons (o := _) rfl (fun K hK => ?_) ?_
    · go_simp
      refine Rg.st_alloc hK hHeld KS.out HBR.out ?_
      clear hK K
      intro wr2 hlt hHeld ks hbr
      have HBR := Lib.hid hbr
      have KS := Lib.hid ks
      clear hbr ks hlt
      try simp only [List.setIfInBounds_toArray, List.set_cons_zero, List.set_cons_succ]
      refine wpAnyH_ready (rs := [10]) (by kernel_rfl) (by simp) ?_
      refine AllReadyH.cons (o := _) rfl (fun K hK => ?_) ?_
      · go_simp
        refine (pack_blk (partsF b p) _ _ 3 0 _ _ _ _ hHeld.2 (by simp [partCells]) rfl (by omega) HVF.out HPF.out).mono ?_
        rintro x wr3 ⟨rfl, hbc⟩
        go_wp2_with fail
        refine Rg.st_call hK hHeld KS.out HBR.out hbc ?_
        clear hK K
        intro hHeld hbr
        have HBR := Lib.hid hbr
        clear hbr hbc
        try simp only [List.setIfInBounds_toArray, List.set_cons_zero, List.set_cons_succ]
        refine wpAnyH_take (i := 11) (oi := _) (v := ?_) rfl (by kernel_rfl) (by kernel_rfl) (by kernel_rfl) (fun _ _ _ h => h) (Or.inl ⟨by rfl, ?_⟩) (by assumption) ?_
        rotate_left
        · intro wx hSx
          go_simp
          all_goals with_reducible rfl
        simp only [Act.put, List.setIfInBounds_toArray, List.set_cons_zero, List.set_cons_succ, List.getElem_toArray, List.getElem_cons_zero, List.getElem_cons_succ]
        refine wpAnyH_take (i := 12) (oi := _) (v := ?_) rfl (by kernel_rfl) (by kernel_rfl) (by kernel_rfl) (fun _ _ _ h => h) (Or.inl ⟨by rfl, ?_⟩) (by assumption) ?_
        rotate_left
        · intro wx hSx
          go_simp
          all_goals with_reducible rfl
        simp only [Act.put, List.setIfInBounds_toArray, List.set_cons_zero, List.set_cons_succ, List.getElem_toArray, List.getElem_cons_zero, List.getElem_cons_succ]
        refine wpAnyH_take (i := 13) (oi := _) (v := ?_) rfl (by kernel_rfl) (by kernel_rfl) (by kernel_rfl) (fun _ _ _ h => h) (Or.inl ⟨by rfl, ?_⟩) (by assumption) ?_
        rotate_left
        · intro wx hSx
          go_simp
          all_goals with_reducible rfl
        simp only [Act.put, List.setIfInBounds_toArray, List.set_cons_zero, List.set_cons_succ, List.getElem_toArray, List.getElem_cons_zero, List.getElem_cons_succ]
        refine wpAnyH_take (i := 14) (oi := _) (v := ?_) rfl (by kernel_rfl) (by kernel_rfl) (by kernel_rfl) (fun _ _ _ h => h) (Or.inl ⟨by rfl, ?_⟩) (by assumption) ?_
        rotate_left
        · intro wx hSx
          go_simp
          all_goals with_reducible rfl
        simp only [Act.put, List.setIfInBounds_toArray, List.set_cons_zero, List.set_cons_succ, List.getElem_toArray, List.getElem_cons_zero, List.getElem_cons_succ]
        refine wpAnyH_take (i := 15) (oi := _) (v := ?_) rfl (by kernel_rfl) (by kernel_rfl) (by kernel_rfl) (fun _ _ _ h => h) (Or.inl ⟨by rfl, ?_⟩) (by assumption) ?_
        rotate_left
        · intro wx hSx
          go_simp
          all_goals with_reducible rfl
        simp only [Act.put, List.setIfInBounds_toArray, List.set_cons_zero, List.set_cons_succ, List.getElem_toArray, List.getElem_cons_zero, List.getElem_cons_succ]
        refine wpAnyH_done (by kernel_rfl) ?_ _
        have KC := Lib.hid hHeld.1
        clear hHeld KS
        obtain ⟨_, d0, d1, d2, d3, d4⟩ := KC.out
        go_wp2_with fail
        refine (pack_blk (partsC c e) _ _ 3 0 _ _ _ _ (Blk.fresh _ _ _) (by simp [partCells]) rfl (by omega) HVC.out HPC.out).mono ?_
        rintro x w5 ⟨rfl, hb5⟩
        have HB5 := Lib.hid ((HBR.out.alloc HBR.out.size _).trans (hb5.mono (by have := HBR.out.size; simp; omega)))
        have K5 := Lib.hid (Rw5.keep hb5 (Rw5.keep ((Below.refl _ _).alloc (Nat.le_refl _) _) KC.out))
        clear hb5 HBR KC d0 d1 d2 d3 d4
        go_upto_region 6 with (fail)
        obtain ⟨wd, hwd⟩ : ∃ wd, wd = w5.drew := ⟨_, rfl⟩
        have HBR := Lib.hid (show Below w.heap.size w wd by rw [hwd]; exact HB5.out.drew)
        have KS := Lib.hid (sc_keeps w.heap.size b p c e g)
        refine wp_region_held_drew (S := Sc w.heap.size b p c e g) (by kernel_rfl) K5.out (fun hHeld => ?_)
        rw [← hwd] at hHeld ⊢
        have HWD := Lib.hid hwd
        clear hwd K5 HB5
        refine wpAnyH_take (i := 0) (oi := _) (v := ?_) rfl (by kernel_rfl) (by kernel_rfl) (by kernel_rfl) (fun _ _ _ h => h) (Or.inl ⟨by rfl, ?_⟩) (by assumption) ?_
        rotate_left
        · intro wx hSx
          go_simp
          all_goals with_reducible rfl
        simp only [Act.put, List.setIfInBounds_toArray, List.set_cons_zero, List.set_cons_succ, List.getElem_toArray, List.getElem_cons_zero, List.getElem_cons_succ]
        refine wpAnyH_take (i := 1) (oi := _) (v := ?_) rfl (by kernel_rfl) (by kernel_rfl) (by kernel_rfl) (fun _ _ _ h => h) (Or.inl ⟨by rfl, ?_⟩) (by assumption) ?_
        rotate_left
        · intro wx hSx
          go_simp
          all_goals with_reducible rfl
        simp only [Act.put, List.setIfInBounds_toArray, List.set_cons_zero, List.set_cons_succ, List.getElem_toArray, List.getElem_cons_zero, List.getElem_cons_succ]
        refine wpAnyH_take (i := 2) (oi := _) (v := ?_) rfl (by kernel_rfl) (by kernel_rfl) (by kernel_rfl) (fun _ _ _ h => h) (Or.inl ⟨by rfl, ?_⟩) (by assumption) ?_
        rotate_left
        · intro wx hSx
          obtain ⟨_, d0, d1, d2, d3, d4⟩ := hSx; go_simp
          all_goals with_reducible rfl
        simp only [Act.put, List.setIfInBounds_toArray, List.set_cons_zero, List.set_cons_succ, List.getElem_toArray, List.getElem_cons_zero, List.getElem_cons_succ]
        refine wpAnyH_ready (rs := [3]) (by kernel_rfl) (by simp) ?_
        refine AllReadyH.cons (o := _) rfl (fun K hK => ?_) ?_
        · have hmk := make16 wd
          go_simp
          refine Rg.st_alloc hK hHeld KS.out HBR.out ?_
          clear hK K
          intro wr1 hlt hHeld ks hbr
          have HBR := Lib.hid hbr
          have KS := Lib.hid ks
          clear hbr ks hlt
          try simp only [List.setIfInBounds_toArray, List.set_cons_zero, List.set_cons_succ]
          refine wpAnyH_take (i := 4) (oi := _) (v := ?_) rfl (by kernel_rfl) (by kernel_rfl) (by kernel_rfl) (fun _ _ _ h => h) (Or.inl ⟨by rfl, ?_⟩) (by assumption) ?_
          rotate_left
          · intro wx hSx
            have hcv := Rg.back_blk (P := Try.prog) (src := 62) (dst := 9) sZ (noughts 16) 16 16 hSx.2 rfl rfl HSZ.out Try.underlying62 Try.underlying5 Try.underlying9; go_simp
            all_goals with_reducible rfl
          simp only [Act.put, List.setIfInBounds_toArray, List.set_cons_zero, List.set_cons_succ, List.getElem_toArray, List.getElem_cons_zero, List.getElem_cons_succ]
          refine wpAnyH_take (i := 5) (oi := _) (v := ?_) rfl (by kernel_rfl) (by kernel_rfl) (by kernel_rfl) (fun _ _ _ h => h) (Or.inl ⟨by rfl, ?_⟩) (by assumption) ?_
          rotate_left
          · intro wx hSx
            go_simp
            all_goals with_reducible rfl
          simp only [Act.put, List.setIfInBounds_toArray, List.set_cons_zero, List.set_cons_succ, List.getElem_toArray, List.getElem_cons_zero, List.getElem_cons_succ]
          refine wpAnyH_take (i := 6) (oi := _) (v := ?_) rfl (by kernel_rfl) (by kernel_rfl) (by kernel_rfl) (fun _ _ _ h => h) (Or.inl ⟨by rfl, ?_⟩) (by assumption) ?_
          rotate_left
          · intro wx hSx
            go_simp
            all_goals with_reducible rfl
          simp only [Act.put, List.setIfInBounds_toArray, List.set_cons_zero, List.set_cons_succ, List.getElem_toArray, List.getElem_cons_zero, List.getElem_cons_succ]
          refine wpAnyH_take (i := 7) (oi := _) (v := ?_) rfl (by kernel_rfl) (by kernel_rfl) (by kernel_rfl) (fun _ _ _ h => h) (Or.inl ⟨by rfl, ?_⟩) (by assumption) ?_
          rotate_left
          · intro wx hSx
            go_simp
            all_goals with_reducible rfl
          simp only [Act.put, List.setIfInBounds_toArray, List.set_cons_zero, List.set_cons_succ, List.getElem_toArray, List.getElem_cons_zero, List.getElem_cons_succ]
          refine wpAnyH_done (by kernel_rfl) ?_ _
          go_wp2_with fail
          refine (Oa.close_at l 0 1 f 70 _ _ HCL.out (by omega) HF2.out (by omega)).mono ?_
          rintro x w9 ⟨rfl, hb9⟩
          have HB9 := Lib.hid (HBR.out.trans (hb9.mono HBR.out.size))
          clear hb9
          go_wp2
          go_ret2
          exact ⟨rfl, HB9.out⟩
        exact AllReadyH.nil
      exact AllReadyH.nil
    exact AllReadyH.nil
  exact AllReadyH.nil
end Go.Proofs.Ytnapbmdkaldncaa.Cc
