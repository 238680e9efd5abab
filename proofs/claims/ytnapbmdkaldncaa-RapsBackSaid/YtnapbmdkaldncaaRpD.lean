/-
  The document's Close of a ring's message.
-/
import Derived.Test.YtnapbmdkaldncaaRpC
import Derived.Test.YtnapbmdkaldncaaRgK
namespace Go.Proofs.Ytnapbmdkaldncaa.Rp
open Go.RowKit Go.Proofs.Ytnapbmdkaldncaa.Bt Go.Proofs.Ytnapbmdkaldncaa.Mm Go.Proofs.Ytnapbmdkaldncaa.Fl Go.Proofs.Ytnapbmdkaldncaa.Lw Go.Proofs.Ytnapbmdkaldncaa.Hx Go.Proofs.Ytnapbmdkaldncaa.Mc Go.Proofs.Ytnapbmdkaldncaa.Tg Go.Proofs.Ytnapbmdkaldncaa.Oa

/-- a message's cells in a block -/
def Sm (g q : Nat) (b k e : Bool) (n : Nat) (w : World) : Prop :=
  g < w.heap.size ∧ w.cell? ⟨g, 0, none⟩ = some (.int .u8 (q : Int)) ∧ w.cell? ⟨g, 1, none⟩ = some (.bool b) ∧ w.cell? ⟨g, 2, none⟩ = some (.bool k) ∧ w.cell? ⟨g, 3, none⟩ = some (.bool e) ∧ w.cell? ⟨g, 4, none⟩ = some (.int .u64 (n : Int))
theorem sm_keeps (g q : Nat) (b k e : Bool) (n : Nat) : Rg.Keeps (Sm g q b k e n) := fun _ _ hs hb => Rw5.keep hb hs
set_option linter.unusedSimpArgs false
set_option maxRecDepth 100000 in
set_option maxHeartbeats 4000000 in
theorem rclose_ok (q : Nat) (b k e : Bool) (n l : Nat) (y : Nat) (w : World) (h : ¬ 7 < l) (hr : wrongM ⟨q, b, k, e, n⟩ = 0) (hq : q < 16) (hn : n < 281474976710656) (hy : marks ⟨q, b, k, e, n⟩ = y) (hy2 : y < 256) (bs : List UInt8) (r : Nat) (by6 : ByteArray) (hb6 : (⟨(bytesM n).toArray⟩ : ByteArray) = by6) (hs6 : by6.size = 6)
    (hc : closeO ⟨l, 1, 40, 0, 32⟩ ((⟨[UInt8.ofNat (q * 16), UInt8.ofNat y].toArray⟩ : ByteArray) ++ by6 ++ ⟨(noughts 24).toArray⟩).data.toList = (bs, r)) :
    Calls Try.prog 10 #[msV q b k e n, .int .u8 (l : Int)] w fun x w' => x = .returned (.tuple #[.string ⟨bs.toArray⟩, .int .i64 (r : Int)]) ∧ Below w.heap.size w w' := by
  have h1 : decide ((7 : Int) < (l : Int)) = false := gt_f (by omega)
  have HR := Lib.hid hr; clear hr
  have HN := Lib.hid (show n < 18446744073709551616 by omega)
  have HY := Lib.hid hy; clear hy
  have HY2 := Lib.hid hy2; clear hy2
  have HB6 := Lib.hid hb6; clear hb6
  have HS6 := Lib.hid hs6; clear hs6
  have HB := Lib.hid ((Below.refl w.heap.size w).alloc (Nat.le_refl _) (.cells (msC q b k e n) 33))
  have K0 := Lib.hid (Rw5.fresh w 33 (.int .u8 (q : Int)) (.bool b) (.bool k) (.bool e) (.int .u64 (n : Int)))
  clear h
  go_enter Try.func10, Try.ntmps10
  go_wp2_with fail
  refine (rwrong_at q b k e n _ HR.out HN.out).mono ?_
  rintro x w1 ⟨rfl, hb1⟩
  have HB1 := Lib.hid (HB.out.trans (hb1.mono HB.out.size))
  have K1 := Lib.hid (Rw5.keep hb1 K0.out)
  obtain ⟨g1, c0, c1, c2, c3, c4⟩ := Rw5.keep hb1 K0.out
  clear hb1 K0 HB
  go_upto_if 16 with (fail)
  go_cut [7] (fun s7 wx => s7 = .int .i64 (bitN b 128 : Nat) ∧ wx = w1)
  case first =>
    cases b <;> (go_wp2; go_meet; exact ⟨rfl, rfl⟩)
  case rest =>
  obtain ⟨rfl, rfl⟩ := hcut
  obtain ⟨n1, hn1⟩ : ∃ n1, bitN b 128 = n1 := ⟨_, rfl⟩
  rw [hn1]
  have b1 : n1 ≤ 128 := by rw [← hn1]; unfold bitN; split <;> omega
  have HN1 := Lib.hid hn1; clear hn1
  go_upto_if 20 with (fail)
  go_cut [7] (fun s7 wx => s7 = .int .i64 ((n1 + bitN k 64 : Nat) : Int) ∧ wx = wc)
  case first =>
    cases k <;> (go_wp2; go_meet; exact ⟨rfl, rfl⟩)
  case rest =>
  obtain ⟨rfl, rfl⟩ := hcut
  obtain ⟨n2, hn2⟩ : ∃ n2, n1 + bitN k 64 = n2 := ⟨_, rfl⟩
  rw [hn2]
  have bn2 : n2 ≤ 192 := by rw [← hn2]; unfold bitN; split <;> omega
  have HN2 := Lib.hid hn2; clear hn2 b1
  go_upto_if 24 with (fail)
  go_cut [7] (fun s7 wx => s7 = .int .i64 ((n2 + bitN e 32 : Nat) : Int) ∧ wx = wc)
  case first =>
    cases e <;> (go_wp2; go_meet; exact ⟨rfl, rfl⟩)
  case rest =>
  obtain ⟨rfl, rfl⟩ := hcut
  obtain ⟨n3, hn3⟩ : ∃ n3, n2 + bitN e 32 = n3 := ⟨_, rfl⟩
  rw [hn3]
  have bn3 : n3 ≤ 224 := by rw [← hn3]; unfold bitN; split <;> omega
  have HN3 := Lib.hid hn3; clear hn3 bn2
  obtain rfl : n3 = y := by
    have h1 := HN1.out; have h2 := HN2.out; have h3 := HN3.out; have h4 := HY.out
    unfold marks at h4; simp only at h4; omega
  have wq : IntKind.u8.wrap ((q : Int) * 16) = (q : Int) * 16 := IntWalk.u8_in _ ⟨by omega, by omega⟩
  have wy : IntKind.u8.wrap (n3 : Int) = (n3 : Int) := IntWalk.u8_in _ ⟨by omega, by omega⟩
  go_upto_region 13 with (fail)
  obtain ⟨sA, hsA⟩ : ∃ sA : ByteArray, (⟨[UInt8.ofNat (q * 16), UInt8.ofNat n3].toArray⟩ : ByteArray) = sA := ⟨_, rfl⟩
  obtain ⟨sZ, hsZ⟩ : ∃ sZ : ByteArray, (⟨(noughts 24).toArray⟩ : ByteArray) = sZ := ⟨_, rfl⟩
  rw [hsA, hsZ] at hc
  have z0 : sA.size = 2 := by rw [← hsA]; rfl
  have z3 : sZ.size = 24 := by rw [← hsZ]; rfl
  have z1 : ¬ 9223372036854775807 < sA.size + by6.size := by have := HS6.out; omega
  have z2 : ¬ 9223372036854775807 < sA.size + by6.size + sZ.size := by have := HS6.out; omega
  have HC := Lib.hid hc
  have HSA := Lib.hid hsA
  have HSZ := Lib.hid hsZ
  clear hc hsA hsZ z0 z3
  obtain ⟨wa, hwa⟩ : ∃ wa, wa = wc.drew := ⟨_, rfl⟩
  have HBR := Lib.hid (show Below w.heap.size w wa by rw [hwa]; exact HB1.out.drew)
  have KS := Lib.hid (sm_keeps w.heap.size q b k e n)
  have HV2 := Lib.hid (show #[Value.int .u8 ((q : Int) * 16), Value.int .u8 (n3 : Int)].toList = byteVals [UInt8.ofNat (q * 16), UInt8.ofNat n3] by
    simp only [byteVals, List.map_cons, List.map_nil]
    rw [ofNat_toNat _ (show q * 16 < 256 by omega), ofNat_toNat _ (show n3 < 256 by omega)]
    simp)
  refine wp_region_held_drew (S := Sm w.heap.size q b k e n) (by kernel_rfl) K1.out (fun hHeld => ?_)
  rw [← hwa] at hHeld ⊢
  have HWA := Lib.hid hwa
  clear hwa K1 c0 c1 c2 c3 c4
  refine wpAnyH_take (i := 0) (oi := _) (v := ?_) rfl (by kernel_rfl) (by kernel_rfl) (by kernel_rfl) (fun _ _ _ h => h) (Or.inl ⟨by rfl, ?_⟩) (by assumption) ?_
  rotate_left
  · intro wx hSx
    go_simp
    all_goals with_reducible rfl
  simp only [Act.put, List.setIfInBounds_toArray, List.set_cons_zero, List.set_cons_succ, List.getElem_toArray, List.getElem_cons_zero, List.getElem_cons_succ]
  refine wpAnyH_take (i := 1) (oi := _) (v := ?_) rfl (by kernel_rfl) (by kernel_rfl) (by kernel_rfl) (fun _ _ _ h => h) (Or.inl ⟨by rfl, ?_⟩) (by assumption) ?_
  rotate_left
  · intro wx hSx
    go_simp
    all_goals with_reducible rfl
  simp only [Act.put, List.setIfInBounds_toArray, List.set_cons_zero, List.set_cons_succ, List.getElem_toArray, List.getElem_cons_zero, List.getElem_cons_succ]
  refine wpAnyH_take (i := 2) (oi := _) (v := ?_) rfl (by kernel_rfl) (by kernel_rfl) (by kernel_rfl) (fun _ _ _ h => h) (Or.inl ⟨by rfl, ?_⟩) (by assumption) ?_
  rotate_left
  · intro wx hSx
    go_simp
    all_goals with_reducible rfl
  simp only [Act.put, List.setIfInBounds_toArray, List.set_cons_zero, List.set_cons_succ, List.getElem_toArray, List.getElem_cons_zero, List.getElem_cons_succ]
  refine wpAnyH_take (i := 3) (oi := _) (v := ?_) rfl (by kernel_rfl) (by kernel_rfl) (by kernel_rfl) (fun _ _ _ h => h) (Or.inl ⟨by rfl, ?_⟩) (by assumption) ?_
  rotate_left
  · intro wx hSx
    obtain ⟨_, d0, d1, d2, d3, d4⟩ := hSx; go_simp
    all_goals with_reducible rfl
  simp only [Act.put, List.setIfInBounds_toArray, List.set_cons_zero, List.set_cons_succ, List.getElem_toArray, List.getElem_cons_zero, List.getElem_cons_succ]
  refine wpAnyH_take (i := 4) (oi := _) (v := ?_) rfl (by kernel_rfl) (by kernel_rfl) (by kernel_rfl) (fun _ _ _ h => h) (Or.inl ⟨by rfl, ?_⟩) (by assumption) ?_
  rotate_left
  · intro wx hSx
    go_simp
    all_goals with_reducible rfl
  simp only [Act.put, List.setIfInBounds_toArray, List.set_cons_zero, List.set_cons_succ, List.getElem_toArray, List.getElem_cons_zero, List.getElem_cons_succ]
  refine wpAnyH_take (i := 5) (oi := _) (v := ?_) rfl (by kernel_rfl) (by kernel_rfl) (by kernel_rfl) (fun _ _ _ h => h) (Or.inl ⟨by rfl, ?_⟩) (by assumption) ?_
  rotate_left
  · intro wx hSx
    go_simp
    all_goals with_reducible rfl
  simp only [Act.put, List.setIfInBounds_toArray, List.set_cons_zero, List.set_cons_succ, List.getElem_toArray, List.getElem_cons_zero, List.getElem_cons_succ]
  refine wpAnyH_take (i := 6) (oi := _) (v := ?_) rfl (by kernel_rfl) (by kernel_rfl) (by kernel_rfl) (fun _ _ _ h => h) (Or.inl ⟨by rfl, ?_⟩) (by assumption) ?_
  rotate_left
  · intro wx hSx
    go_simp
    all_goals with_reducible rfl
  simp only [Act.put, List.setIfInBounds_toArray, List.set_cons_zero, List.set_cons_succ, List.getElem_toArray, List.getElem_cons_zero, List.getElem_cons_succ]
  refine wpAnyH_take (i := 9) (oi := _) (v := ?_) rfl (by kernel_rfl) (by kernel_rfl) (by kernel_rfl) (fun _ _ _ h => h) (Or.inl ⟨by rfl, ?_⟩) (by assumption) ?_
  rotate_left
  · intro wx hSx
    go_simp
    all_goals with_reducible rfl
  simp only [Act.put, List.setIfInBounds_toArray, List.set_cons_zero, List.set_cons_succ, List.getElem_toArray, List.getElem_cons_zero, List.getElem_cons_succ]
  refine wpAnyH_take (i := 10) (oi := _) (v := ?_) rfl (by kernel_rfl) (by kernel_rfl) (by kernel_rfl) (fun _ _ _ h => h) (Or.inl ⟨by rfl, ?_⟩) (by assumption) ?_
  rotate_left
  · intro wx hSx
    obtain ⟨_, d0, d1, d2, d3, d4⟩ := hSx; go_simp
    all_goals with_reducible rfl
  simp only [Act.put, List.setIfInBounds_toArray, List.set_cons_zero, List.set_cons_succ, List.getElem_toArray, List.getElem_cons_zero, List.getElem_cons_succ]
  refine wpAnyH_ready (rs := [7, 11, 13]) (by kernel_rfl) (by simp) ?_
  refine AllReadyH.cons (o := _) rfl (fun K hK => ?_) ?_
  · go_simp
    refine Rg.st_alloc hK hHeld KS.out HBR.out ?_
    clear hK K
    intro wr1 hlt hHeld ks hbr
    have HBR := Lib.hid hbr
    have KS := Lib.hid ks
    clear hbr ks hlt
    try simp only [List.setIfInBounds_toArray, List.set_cons_zero, List.set_cons_succ]
    refine wpAnyH_take (i := 8) (oi := _) (v := ?_) rfl (by kernel_rfl) (by kernel_rfl) (by kernel_rfl) (fun _ _ _ h => h) (Or.inl ⟨by rfl, ?_⟩) (by assumption) ?_
    rotate_left
    · intro wx hSx
      have hcv := Rg.back_blk (P := Try.prog) (src := 62) (dst := 9) sA [UInt8.ofNat (q * 16), UInt8.ofNat n3] 2 2 hSx.2 HV2.out rfl HSA.out Try.underlying62 Try.underlying5 Try.underlying9; go_simp
      all_goals with_reducible rfl
    simp only [Act.put, List.setIfInBounds_toArray, List.set_cons_zero, List.set_cons_succ, List.getElem_toArray, List.getElem_cons_zero, List.getElem_cons_succ]
    refine wpAnyH_ready (rs := [11, 13]) (by kernel_rfl) (by simp) ?_
    refine AllReadyH.cons (o := _) rfl (fun K hK => ?_) ?_
    · go_simp
      refine (rbytes_at by6 n _ HB6.out HN.out).mono ?_
      rintro x wr2 ⟨rfl, hbc⟩
      go_wp2_with fail
      refine Rg.st_call hK hHeld KS.out HBR.out hbc ?_
      clear hK K
      intro hHeld hbr
      have HBR := Lib.hid hbr
      clear hbr hbc
      try simp only [List.setIfInBounds_toArray, List.set_cons_zero, List.set_cons_succ]
      refine wpAnyH_take (i := 12) (oi := _) (v := ?_) rfl (by kernel_rfl) (by kernel_rfl) (by kernel_rfl) (fun _ _ _ h => h) (Or.inl ⟨by rfl, ?_⟩) (by assumption) ?_
      rotate_left
      · intro wx hSx
        go_simp
        all_goals with_reducible rfl
      simp only [Act.put, List.setIfInBounds_toArray, List.set_cons_zero, List.set_cons_succ, List.getElem_toArray, List.getElem_cons_zero, List.getElem_cons_succ]
      refine wpAnyH_ready (rs := [13]) (by kernel_rfl) (by simp) ?_
      refine AllReadyH.cons (o := _) rfl (fun K hK => ?_) ?_
      · have hmk := make24 wr2
        go_simp
        refine Rg.st_alloc hK hHeld KS.out HBR.out ?_
        clear hK K
        intro wr3 hlt hHeld ks hbr
        have HBR := Lib.hid hbr
        have KS := Lib.hid ks
        clear hbr ks hlt
        try simp only [List.setIfInBounds_toArray, List.set_cons_zero, List.set_cons_succ]
        refine wpAnyH_take (i := 14) (oi := _) (v := ?_) rfl (by kernel_rfl) (by kernel_rfl) (by kernel_rfl) (fun _ _ _ h => h) (Or.inl ⟨by rfl, ?_⟩) (by assumption) ?_
        rotate_left
        · intro wx hSx
          have hcv := Rg.back_blk (P := Try.prog) (src := 62) (dst := 9) sZ (noughts 24) 24 24 hSx.2 rfl rfl HSZ.out Try.underlying62 Try.underlying5 Try.underlying9; go_simp
          all_goals with_reducible rfl
        simp only [Act.put, List.setIfInBounds_toArray, List.set_cons_zero, List.set_cons_succ, List.getElem_toArray, List.getElem_cons_zero, List.getElem_cons_succ]
        refine wpAnyH_take (i := 15) (oi := _) (v := ?_) rfl (by kernel_rfl) (by kernel_rfl) (by kernel_rfl) (fun _ _ _ h => h) (Or.inl ⟨by rfl, ?_⟩) (by assumption) ?_
        rotate_left
        · intro wx hSx
          go_simp
          all_goals with_reducible rfl
        simp only [Act.put, List.setIfInBounds_toArray, List.set_cons_zero, List.set_cons_succ, List.getElem_toArray, List.getElem_cons_zero, List.getElem_cons_succ]
        refine wpAnyH_ready (rs := [16]) (by kernel_rfl) (by simp) ?_
        refine AllReadyH.cons (o := _) rfl (fun K hK => ?_) ?_
        · go_simp
          refine (Oa.rclose_at l 1 40 0 32 _ _ HC.out (by omega) (by omega) (by omega)).mono ?_
          rintro x wr4 ⟨rfl, hbc⟩
          go_wp2_with fail
          refine Rg.st_call hK hHeld KS.out HBR.out hbc ?_
          clear hK K
          intro hHeld hbr
          have HBR := Lib.hid hbr
          clear hbr hbc
          try simp only [List.setIfInBounds_toArray, List.set_cons_zero, List.set_cons_succ]
          refine wpAnyH_take (i := 17) (oi := _) (v := ?_) rfl (by kernel_rfl) (by kernel_rfl) (by kernel_rfl) (fun _ _ _ h => h) (Or.inl ⟨by rfl, ?_⟩) (by assumption) ?_
          rotate_left
          · intro wx hSx
            go_simp
            all_goals with_reducible rfl
          simp only [Act.put, List.setIfInBounds_toArray, List.set_cons_zero, List.set_cons_succ, List.getElem_toArray, List.getElem_cons_zero, List.getElem_cons_succ]
          refine wpAnyH_take (i := 18) (oi := _) (v := ?_) rfl (by kernel_rfl) (by kernel_rfl) (by kernel_rfl) (fun _ _ _ h => h) (Or.inl ⟨by rfl, ?_⟩) (by assumption) ?_
          rotate_left
          · intro wx hSx
            go_simp
            all_goals with_reducible rfl
          simp only [Act.put, List.setIfInBounds_toArray, List.set_cons_zero, List.set_cons_succ, List.getElem_toArray, List.getElem_cons_zero, List.getElem_cons_succ]
          refine wpAnyH_take (i := 19) (oi := _) (v := ?_) rfl (by kernel_rfl) (by kernel_rfl) (by kernel_rfl) (fun _ _ _ h => h) (Or.inl ⟨by rfl, ?_⟩) (by assumption) ?_
          rotate_left
          · intro wx hSx
            go_simp
            all_goals with_reducible rfl
          simp only [Act.put, List.setIfInBounds_toArray, List.set_cons_zero, List.set_cons_succ, List.getElem_toArray, List.getElem_cons_zero, List.getElem_cons_succ]
          refine wpAnyH_take (i := 20) (oi := _) (v := ?_) rfl (by kernel_rfl) (by kernel_rfl) (by kernel_rfl) (fun _ _ _ h => h) (Or.inl ⟨by rfl, ?_⟩) (by assumption) ?_
          rotate_left
          · intro wx hSx
            go_simp
            all_goals with_reducible rfl
          simp only [Act.put, List.setIfInBounds_toArray, List.set_cons_zero, List.set_cons_succ, List.getElem_toArray, List.getElem_cons_zero, List.getElem_cons_succ]
          refine wpAnyH_done (by kernel_rfl) ?_ _
          go_wp2
          go_ret2
          exact ⟨rfl, HBR.out⟩
        exact AllReadyH.nil
      exact AllReadyH.nil
    refine AllReadyH.cons (o := _) rfl (fun K hK => ?_) ?_
    · have hmk := make24 wr1
      go_simp
      refine Rg.st_alloc hK hHeld KS.out HBR.out ?_
      clear hK K
      intro wr5 hlt hHeld ks hbr
      have HBR := Lib.hid hbr
      have KS := Lib.hid ks
      clear hbr ks hlt
      try simp only [List.setIfInBounds_toArray, List.set_cons_zero, List.set_cons_succ]
      refine wpAnyH_take (i := 14) (oi := _) (v := ?_) rfl (by kernel_rfl) (by kernel_rfl) (by kernel_rfl) (fun _ _ _ h => h) (Or.inl ⟨by rfl, ?_⟩) (by assumption) ?_
      rotate_left
      · intro wx hSx
        have hcv := Rg.back_blk (P := Try.prog) (src := 62) (dst := 9) sZ (noughts 24) 24 24 hSx.2 rfl rfl HSZ.out Try.underlying62 Try.underlying5 Try.underlying9; go_simp
        all_goals with_reducible rfl
      simp only [Act.put, List.setIfInBounds_toArray, List.set_cons_zero, List.set_cons_succ, List.getElem_toArray, List.getElem_cons_zero, List.getElem_cons_succ]
      refine wpAnyH_ready (rs := [11]) (by kernel_rfl) (by simp) ?_
      refine AllReadyH.cons (o := _) rfl (fun K hK => ?_) ?_
      · go_simp
        refine (rbytes_at by6 n _ HB6.out HN.out).mono ?_
        rintro x wr6 ⟨rfl, hbc⟩
        go_wp2_with fail
        refine Rg.st_call hK hHeld KS.out HBR.out hbc ?_
        clear hK K
        intro hHeld hbr
        have HBR := Lib.hid hbr
        clear hbr hbc
        try simp only [List.setIfInBounds_toArray, List.set_cons_zero, List.set_cons_succ]
        refine wpAnyH_take (i := 12) (oi := _) (v := ?_) rfl (by kernel_rfl) (by kernel_rfl) (by kernel_rfl) (fun _ _ _ h => h) (Or.inl ⟨by rfl, ?_⟩) (by assumption) ?_
        rotate_left
        · intro wx hSx
          go_simp
          all_goals with_reducible rfl
        simp only [Act.put, List.setIfInBounds_toArray, List.set_cons_zero, List.set_cons_succ, List.getElem_toArray, List.getElem_cons_zero, List.getElem_cons_succ]
        refine wpAnyH_take (i := 15) (oi := _) (v := ?_) rfl (by kernel_rfl) (by kernel_rfl) (by kernel_rfl) (fun _ _ _ h => h) (Or.inl ⟨by rfl, ?_⟩) (by assumption) ?_
        rotate_left
        · intro wx hSx
          go_simp
          all_goals with_reducible rfl
        simp only [Act.put, List.setIfInBounds_toArray, List.set_cons_zero, List.set_cons_succ, List.getElem_toArray, List.getElem_cons_zero, List.getElem_cons_succ]
        refine wpAnyH_ready (rs := [16]) (by kernel_rfl) (by simp) ?_
        refine AllReadyH.cons (o := _) rfl (fun K hK => ?_) ?_
        · go_simp
          refine (Oa.rclose_at l 1 40 0 32 _ _ HC.out (by omega) (by omega) (by omega)).mono ?_
          rintro x wr7 ⟨rfl, hbc⟩
          go_wp2_with fail
          refine Rg.st_call hK hHeld KS.out HBR.out hbc ?_
          clear hK K
          intro hHeld hbr
          have HBR := Lib.hid hbr
          clear hbr hbc
          try simp only [List.setIfInBounds_toArray, List.set_cons_zero, List.set_cons_succ]
          refine wpAnyH_take (i := 17) (oi := _) (v := ?_) rfl (by kernel_rfl) (by kernel_rfl) (by kernel_rfl) (fun _ _ _ h => h) (Or.inl ⟨by rfl, ?_⟩) (by assumption) ?_
          rotate_left
          · intro wx hSx
            go_simp
            all_goals with_reducible rfl
          simp only [Act.put, List.setIfInBounds_toArray, List.set_cons_zero, List.set_cons_succ, List.getElem_toArray, List.getElem_cons_zero, List.getElem_cons_succ]
          refine wpAnyH_take (i := 18) (oi := _) (v := ?_) rfl (by kernel_rfl) (by kernel_rfl) (by kernel_rfl) (fun _ _ _ h => h) (Or.inl ⟨by rfl, ?_⟩) (by assumption) ?_
          rotate_left
          · intro wx hSx
            go_simp
            all_goals with_reducible rfl
          simp only [Act.put, List.setIfInBounds_toArray, List.set_cons_zero, List.set_cons_succ, List.getElem_toArray, List.getElem_cons_zero, List.getElem_cons_succ]
          refine wpAnyH_take (i := 19) (oi := _) (v := ?_) rfl (by kernel_rfl) (by kernel_rfl) (by kernel_rfl) (fun _ _ _ h => h) (Or.inl ⟨by rfl, ?_⟩) (by assumption) ?_
          rotate_left
          · intro wx hSx
            go_simp
            all_goals with_reducible rfl
          simp only [Act.put, List.setIfInBounds_toArray, List.set_cons_zero, List.set_cons_succ, List.getElem_toArray, List.getElem_cons_zero, List.getElem_cons_succ]
          refine wpAnyH_take (i := 20) (oi := _) (v := ?_) rfl (by kernel_rfl) (by kernel_rfl) (by kernel_rfl) (fun _ _ _ h => h) (Or.inl ⟨by rfl, ?_⟩) (by assumption) ?_
          rotate_left
          · intro wx hSx
            go_simp
            all_goals with_reducible rfl
          simp only [Act.put, List.setIfInBounds_toArray, List.set_cons_zero, List.set_cons_succ, List.getElem_toArray, List.getElem_cons_zero, List.getElem_cons_succ]
          refine wpAnyH_done (by kernel_rfl) ?_ _
          go_wp2
          go_ret2
          exact ⟨rfl, HBR.out⟩
        exact AllReadyH.nil
      exact AllReadyH.nil
    exact AllReadyH.nil
  refine AllReadyH.cons (o := _) rfl (fun K hK => ?_) ?_
  · go_simp
    refine (rbytes_at by6 n _ HB6.out HN.out).mono ?_
    rintro x wr8 ⟨rfl, hbc⟩
    go_wp2_with fail
    refine Rg.st_call hK hHeld KS.out HBR.out hbc ?_
    clear hK K
    intro hHeld hbr
    have HBR := Lib.hid hbr
    clear hbr hbc
    try simp only [List.setIfInBounds_toArray, List.set_cons_zero, List.set_cons_succ]
    refine wpAnyH_ready (rs := [7, 13]) (by kernel_rfl) (by simp) ?_
    refine AllReadyH.cons (o := _) rfl (fun K hK => ?_) ?_
    · go_simp
      refine Rg.st_alloc hK hHeld KS.out HBR.out ?_
      clear hK K
      intro wr9 hlt hHeld ks hbr
      have HBR := Lib.hid hbr
      have KS := Lib.hid ks
      clear hbr ks hlt
      try simp only [List.setIfInBounds_toArray, List.set_cons_zero, List.set_cons_succ]
      refine wpAnyH_take (i := 8) (oi := _) (v := ?_) rfl (by kernel_rfl) (by kernel_rfl) (by kernel_rfl) (fun _ _ _ h => h) (Or.inl ⟨by rfl, ?_⟩) (by assumption) ?_
      rotate_left
      · intro wx hSx
        have hcv := Rg.back_blk (P := Try.prog) (src := 62) (dst := 9) sA [UInt8.ofNat (q * 16), UInt8.ofNat n3] 2 2 hSx.2 HV2.out rfl HSA.out Try.underlying62 Try.underlying5 Try.underlying9; go_simp
        all_goals with_reducible rfl
      simp only [Act.put, List.setIfInBounds_toArray, List.set_cons_zero, List.set_cons_succ, List.getElem_toArray, List.getElem_cons_zero, List.getElem_cons_succ]
      refine wpAnyH_take (i := 12) (oi := _) (v := ?_) rfl (by kernel_rfl) (by kernel_rfl) (by kernel_rfl) (fun _ _ _ h => h) (Or.inl ⟨by rfl, ?_⟩) (by assumption) ?_
      rotate_left
      · intro wx hSx
        go_simp
        all_goals with_reducible rfl
      simp only [Act.put, List.setIfInBounds_toArray, List.set_cons_zero, List.set_cons_succ, List.getElem_toArray, List.getElem_cons_zero, List.getElem_cons_succ]
      refine wpAnyH_ready (rs := [13]) (by kernel_rfl) (by simp) ?_
      refine AllReadyH.cons (o := _) rfl (fun K hK => ?_) ?_
      · have hmk := make24 wr9
        go_simp
        refine Rg.st_alloc hK hHeld KS.out HBR.out ?_
        clear hK K
        intro wr10 hlt hHeld ks hbr
        have HBR := Lib.hid hbr
        have KS := Lib.hid ks
        clear hbr ks hlt
        try simp only [List.setIfInBounds_toArray, List.set_cons_zero, List.set_cons_succ]
        refine wpAnyH_take (i := 14) (oi := _) (v := ?_) rfl (by kernel_rfl) (by kernel_rfl) (by kernel_rfl) (fun _ _ _ h => h) (Or.inl ⟨by rfl, ?_⟩) (by assumption) ?_
        rotate_left
        · intro wx hSx
          have hcv := Rg.back_blk (P := Try.prog) (src := 62) (dst := 9) sZ (noughts 24) 24 24 hSx.2 rfl rfl HSZ.out Try.underlying62 Try.underlying5 Try.underlying9; go_simp
          all_goals with_reducible rfl
        simp only [Act.put, List.setIfInBounds_toArray, List.set_cons_zero, List.set_cons_succ, List.getElem_toArray, List.getElem_cons_zero, List.getElem_cons_succ]
        refine wpAnyH_take (i := 15) (oi := _) (v := ?_) rfl (by kernel_rfl) (by kernel_rfl) (by kernel_rfl) (fun _ _ _ h => h) (Or.inl ⟨by rfl, ?_⟩) (by assumption) ?_
        rotate_left
        · intro wx hSx
          go_simp
          all_goals with_reducible rfl
        simp only [Act.put, List.setIfInBounds_toArray, List.set_cons_zero, List.set_cons_succ, List.getElem_toArray, List.getElem_cons_zero, List.getElem_cons_succ]
        refine wpAnyH_ready (rs := [16]) (by kernel_rfl) (by simp) ?_
        refine AllReadyH.cons (o := _) rfl (fun K hK => ?_) ?_
        · go_simp
          refine (Oa.rclose_at l 1 40 0 32 _ _ HC.out (by omega) (by omega) (by omega)).mono ?_
          rintro x wr11 ⟨rfl, hbc⟩
          go_wp2_with fail
          refine Rg.st_call hK hHeld KS.out HBR.out hbc ?_
          clear hK K
          intro hHeld hbr
          have HBR := Lib.hid hbr
          clear hbr hbc
          try simp only [List.setIfInBounds_toArray, List.set_cons_zero, List.set_cons_succ]
          refine wpAnyH_take (i := 17) (oi := _) (v := ?_) rfl (by kernel_rfl) (by kernel_rfl) (by kernel_rfl) (fun _ _ _ h => h) (Or.inl ⟨by rfl, ?_⟩) (by assumption) ?_
          rotate_left
          · intro wx hSx
            go_simp
            all_goals with_reducible rfl
          simp only [Act.put, List.setIfInBounds_toArray, List.set_cons_zero, List.set_cons_succ, List.getElem_toArray, List.getElem_cons_zero, List.getElem_cons_succ]
          refine wpAnyH_take (i := 18) (oi := _) (v := ?_) rfl (by kernel_rfl) (by kernel_rfl) (by kernel_rfl) (fun _ _ _ h => h) (Or.inl ⟨by rfl, ?_⟩) (by assumption) ?_
          rotate_left
          · intro wx hSx
            go_simp
            all_goals with_reducible rfl
          simp only [Act.put, List.setIfInBounds_toArray, List.set_cons_zero, List.set_cons_succ, List.getElem_toArray, List.getElem_cons_zero, List.getElem_cons_succ]
          refine wpAnyH_take (i := 19) (oi := _) (v := ?_) rfl (by kernel_rfl) (by kernel_rfl) (by kernel_rfl) (fun _ _ _ h => h) (Or.inl ⟨by rfl, ?_⟩) (by assumption) ?_
          rotate_left
          · intro wx hSx
            go_simp
            all_goals with_reducible rfl
          simp only [Act.put, List.setIfInBounds_toArray, List.set_cons_zero, List.set_cons_succ, List.getElem_toArray, List.getElem_cons_zero, List.getElem_cons_succ]
          refine wpAnyH_take (i := 20) (oi := _) (v := ?_) rfl (by kernel_rfl) (by kernel_rfl) (by kernel_rfl) (fun _ _ _ h => h) (Or.inl ⟨by rfl, ?_⟩) (by assumption) ?_
          rotate_left
          · intro wx hSx
            go_simp
            all_goals with_reducible rfl
          simp only [Act.put, List.setIfInBounds_toArray, List.set_cons_zero, List.set_cons_succ, List.getElem_toArray, List.getElem_cons_zero, List.getElem_cons_succ]
          refine wpAnyH_done (by kernel_rfl) ?_ _
          go_wp2
          go_ret2
          exact ⟨rfl, HBR.out⟩
        exact AllReadyH.nil
      exact AllReadyH.nil
    refine AllReadyH.cons (o := _) rfl (fun K hK => ?_) ?_
    · have hmk := make24 wr8
      go_simp
      refine Rg.st_alloc hK hHeld KS.out HBR.out ?_
      clear hK K
      intro wr12 hlt hHeld ks hbr
      have HBR := Lib.hid hbr
      have KS := Lib.hid ks
      clear hbr ks hlt
      try simp only [List.setIfInBounds_toArray, List.set_cons_zero, List.set_cons_succ]
      refine wpAnyH_take (i := 14) (oi := _) (v := ?_) rfl (by kernel_rfl) (by kernel_rfl) (by kernel_rfl) (fun _ _ _ h => h) (Or.inl ⟨by rfl, ?_⟩) (by assumption) ?_
      rotate_left
      · intro wx hSx
        have hcv := Rg.back_blk (P := Try.prog) (src := 62) (dst := 9) sZ (noughts 24) 24 24 hSx.2 rfl rfl HSZ.out Try.underlying62 Try.underlying5 Try.underlying9; go_simp
        all_goals with_reducible rfl
      simp only [Act.put, List.setIfInBounds_toArray, List.set_cons_zero, List.set_cons_succ, List.getElem_toArray, List.getElem_cons_zero, List.getElem_cons_succ]
      refine wpAnyH_ready (rs := [7]) (by kernel_rfl) (by simp) ?_
      refine AllReadyH.cons (o := _) rfl (fun K hK => ?_) ?_
      · go_simp
        refine Rg.st_alloc hK hHeld KS.out HBR.out ?_
        clear hK K
        intro wr13 hlt hHeld ks hbr
        have HBR := Lib.hid hbr
        have KS := Lib.hid ks
        clear hbr ks hlt
        try simp only [List.setIfInBounds_toArray, List.set_cons_zero, List.set_cons_succ]
        refine wpAnyH_take (i := 8) (oi := _) (v := ?_) rfl (by kernel_rfl) (by kernel_rfl) (by kernel_rfl) (fun _ _ _ h => h) (Or.inl ⟨by rfl, ?_⟩) (by assumption) ?_
        rotate_left
        · intro wx hSx
          have hcv := Rg.back_blk (P := Try.prog) (src := 62) (dst := 9) sA [UInt8.ofNat (q * 16), UInt8.ofNat n3] 2 2 hSx.2 HV2.out rfl HSA.out Try.underlying62 Try.underlying5 Try.underlying9; go_simp
          all_goals with_reducible rfl
        simp only [Act.put, List.setIfInBounds_toArray, List.set_cons_zero, List.set_cons_succ, List.getElem_toArray, List.getElem_cons_zero, List.getElem_cons_succ]
        refine wpAnyH_take (i := 12) (oi := _) (v := ?_) rfl (by kernel_rfl) (by kernel_rfl) (by kernel_rfl) (fun _ _ _ h => h) (Or.inl ⟨by rfl, ?_⟩) (by assumption) ?_
        rotate_left
        · intro wx hSx
          go_simp
          all_goals with_reducible rfl
        simp only [Act.put, List.setIfInBounds_toArray, List.set_cons_zero, List.set_cons_succ, List.getElem_toArray, List.getElem_cons_zero, List.getElem_cons_succ]
        refine wpAnyH_take (i := 15) (oi := _) (v := ?_) rfl (by kernel_rfl) (by kernel_rfl) (by kernel_rfl) (fun _ _ _ h => h) (Or.inl ⟨by rfl, ?_⟩) (by assumption) ?_
        rotate_left
        · intro wx hSx
          go_simp
          all_goals with_reducible rfl
        simp only [Act.put, List.setIfInBounds_toArray, List.set_cons_zero, List.set_cons_succ, List.getElem_toArray, List.getElem_cons_zero, List.getElem_cons_succ]
        refine wpAnyH_ready (rs := [16]) (by kernel_rfl) (by simp) ?_
        refine AllReadyH.cons (o := _) rfl (fun K hK => ?_) ?_
        · go_simp
          refine (Oa.rclose_at l 1 40 0 32 _ _ HC.out (by omega) (by omega) (by omega)).mono ?_
          rintro x wr14 ⟨rfl, hbc⟩
          go_wp2_with fail
          refine Rg.st_call hK hHeld KS.out HBR.out hbc ?_
          clear hK K
          intro hHeld hbr
          have HBR := Lib.hid hbr
          clear hbr hbc
          try simp only [List.setIfInBounds_toArray, List.set_cons_zero, List.set_cons_succ]
          refine wpAnyH_take (i := 17) (oi := _) (v := ?_) rfl (by kernel_rfl) (by kernel_rfl) (by kernel_rfl) (fun _ _ _ h => h) (Or.inl ⟨by rfl, ?_⟩) (by assumption) ?_
          rotate_left
          · intro wx hSx
            go_simp
            all_goals with_reducible rfl
          simp only [Act.put, List.setIfInBounds_toArray, List.set_cons_zero, List.set_cons_succ, List.getElem_toArray, List.getElem_cons_zero, List.getElem_cons_succ]
          refine wpAnyH_take (i := 18) (oi := _) (v := ?_) rfl (by kernel_rfl) (by kernel_rfl) (by kernel_rfl) (fun _ _ _ h => h) (Or.inl ⟨by rfl, ?_⟩) (by assumption) ?_
          rotate_left
          · intro wx hSx
            go_simp
            all_goals with_reducible rfl
          simp only [Act.put, List.setIfInBounds_toArray, List.set_cons_zero, List.set_cons_succ, List.getElem_toArray, List.getElem_cons_zero, List.getElem_cons_succ]
          refine wpAnyH_take (i := 19) (oi := _) (v := ?_) rfl (by kernel_rfl) (by kernel_rfl) (by kernel_rfl) (fun _ _ _ h => h) (Or.inl ⟨by rfl, ?_⟩) (by assumption) ?_
          rotate_left
          · intro wx hSx
            go_simp
            all_goals with_reducible rfl
          simp only [Act.put, List.setIfInBounds_toArray, List.set_cons_zero, List.set_cons_succ, List.getElem_toArray, List.getElem_cons_zero, List.getElem_cons_succ]
          refine wpAnyH_take (i := 20) (oi := _) (v := ?_) rfl (by kernel_rfl) (by kernel_rfl) (by kernel_rfl) (fun _ _ _ h => h) (Or.inl ⟨by rfl, ?_⟩) (by assumption) ?_
          rotate_left
          · intro wx hSx
            go_simp
            all_goals with_reducible rfl
          simp only [Act.put, List.setIfInBounds_toArray, List.set_cons_zero, List.set_cons_succ, List.getElem_toArray, List.getElem_cons_zero, List.getElem_cons_succ]
          refine wpAnyH_done (by kernel_rfl) ?_ _
          go_wp2
          go_ret2
          exact ⟨rfl, HBR.out⟩
        exact AllReadyH.nil
      exact AllReadyH.nil
    exact AllReadyH.nil
  refine AllReadyH.cons (o := _) rfl (fun K hK => ?_) ?_
  · have hmk := make24 wa
    go_simp
    refine Rg.st_alloc hK hHeld KS.out HBR.out ?_
    clear hK K
    intro wr15 hlt hHeld ks hbr
    have HBR := Lib.hid hbr
    have KS := Lib.hid ks
    clear hbr ks hlt
    try simp only [List.setIfInBounds_toArray, List.set_cons_zero, List.set_cons_succ]
    refine wpAnyH_take (i := 14) (oi := _) (v := ?_) rfl (by kernel_rfl) (by kernel_rfl) (by kernel_rfl) (fun _ _ _ h => h) (Or.inl ⟨by rfl, ?_⟩) (by assumption) ?_
    rotate_left
    · intro wx hSx
      have hcv := Rg.back_blk (P := Try.prog) (src := 62) (dst := 9) sZ (noughts 24) 24 24 hSx.2 rfl rfl HSZ.out Try.underlying62 Try.underlying5 Try.underlying9; go_simp
      all_goals with_reducible rfl
    simp only [Act.put, List.setIfInBounds_toArray, List.set_cons_zero, List.set_cons_succ, List.getElem_toArray, List.getElem_cons_zero, List.getElem_cons_succ]
    refine wpAnyH_ready (rs := [7, 11]) (by kernel_rfl) (by simp) ?_
    refine AllReadyH.cons (o := _) rfl (fun K hK => ?_) ?_
    · go_simp
      refine Rg.st_alloc hK hHeld KS.out HBR.out ?_
      clear hK K
      intro wr16 hlt hHeld ks hbr
      have HBR := Lib.hid hbr
      have KS := Lib.hid ks
      clear hbr ks hlt
      try simp only [List.setIfInBounds_toArray, List.set_cons_zero, List.set_cons_succ]
      refine wpAnyH_take (i := 8) (oi := _) (v := ?_) rfl (by kernel_rfl) (by kernel_rfl) (by kernel_rfl) (fun _ _ _ h => h) (Or.inl ⟨by rfl, ?_⟩) (by assumption) ?_
      rotate_left
      · intro wx hSx
        have hcv := Rg.back_blk (P := Try.prog) (src := 62) (dst := 9) sA [UInt8.ofNat (q * 16), UInt8.ofNat n3] 2 2 hSx.2 HV2.out rfl HSA.out Try.underlying62 Try.underlying5 Try.underlying9; go_simp
        all_goals with_reducible rfl
      simp only [Act.put, List.setIfInBounds_toArray, List.set_cons_zero, List.set_cons_succ, List.getElem_toArray, List.getElem_cons_zero, List.getElem_cons_succ]
      refine wpAnyH_ready (rs := [11]) (by kernel_rfl) (by simp) ?_
      refine AllReadyH.cons (o := _) rfl (fun K hK => ?_) ?_
      · go_simp
        refine (rbytes_at by6 n _ HB6.out HN.out).mono ?_
        rintro x wr17 ⟨rfl, hbc⟩
        go_wp2_with fail
        refine Rg.st_call hK hHeld KS.out HBR.out hbc ?_
        clear hK K
        intro hHeld hbr
        have HBR := Lib.hid hbr
        clear hbr hbc
        try simp only [List.setIfInBounds_toArray, List.set_cons_zero, List.set_cons_succ]
        refine wpAnyH_take (i := 12) (oi := _) (v := ?_) rfl (by kernel_rfl) (by kernel_rfl) (by kernel_rfl) (fun _ _ _ h => h) (Or.inl ⟨by rfl, ?_⟩) (by assumption) ?_
        rotate_left
        · intro wx hSx
          go_simp
          all_goals with_reducible rfl
        simp only [Act.put, List.setIfInBounds_toArray, List.set_cons_zero, List.set_cons_succ, List.getElem_toArray, List.getElem_cons_zero, List.getElem_cons_succ]
        refine wpAnyH_take (i := 15) (oi := _) (v := ?_) rfl (by kernel_rfl) (by kernel_rfl) (by kernel_rfl) (fun _ _ _ h => h) (Or.inl ⟨by rfl, ?_⟩) (by assumption) ?_
        rotate_left
        · intro wx hSx
          go_simp
          all_goals with_reducible rfl
        simp only [Act.put, List.setIfInBounds_toArray, List.set_cons_zero, List.set_cons_succ, List.getElem_toArray, List.getElem_cons_zero, List.getElem_cons_succ]
        refine wpAnyH_ready (rs := [16]) (by kernel_rfl) (by simp) ?_
        refine AllReadyH.cons (o := _) rfl (fun K hK => ?_) ?_
        · go_simp
          refine (Oa.rclose_at l 1 40 0 32 _ _ HC.out (by omega) (by omega) (by omega)).mono ?_
          rintro x wr18 ⟨rfl, hbc⟩
          go_wp2_with fail
          refine Rg.st_call hK hHeld KS.out HBR.out hbc ?_
          clear hK K
          intro hHeld hbr
          have HBR := Lib.hid hbr
          clear hbr hbc
          try simp only [List.setIfInBounds_toArray, List.set_cons_zero, List.set_cons_succ]
          refine wpAnyH_take (i := 17) (oi := _) (v := ?_) rfl (by kernel_rfl) (by kernel_rfl) (by kernel_rfl) (fun _ _ _ h => h) (Or.inl ⟨by rfl, ?_⟩) (by assumption) ?_
          rotate_left
          · intro wx hSx
            go_simp
            all_goals with_reducible rfl
          simp only [Act.put, List.setIfInBounds_toArray, List.set_cons_zero, List.set_cons_succ, List.getElem_toArray, List.getElem_cons_zero, List.getElem_cons_succ]
          refine wpAnyH_take (i := 18) (oi := _) (v := ?_) rfl (by kernel_rfl) (by kernel_rfl) (by kernel_rfl) (fun _ _ _ h => h) (Or.inl ⟨by rfl, ?_⟩) (by assumption) ?_
          rotate_left
          · intro wx hSx
            go_simp
            all_goals with_reducible rfl
          simp only [Act.put, List.setIfInBounds_toArray, List.set_cons_zero, List.set_cons_succ, List.getElem_toArray, List.getElem_cons_zero, List.getElem_cons_succ]
          refine wpAnyH_take (i := 19) (oi := _) (v := ?_) rfl (by kernel_rfl) (by kernel_rfl) (by kernel_rfl) (fun _ _ _ h => h) (Or.inl ⟨by rfl, ?_⟩) (by assumption) ?_
          rotate_left
          · intro wx hSx
            go_simp
            all_goals with_reducible rfl
          simp only [Act.put, List.setIfInBounds_toArray, List.set_cons_zero, List.set_cons_succ, List.getElem_toArray, List.getElem_cons_zero, List.getElem_cons_succ]
          refine wpAnyH_take (i := 20) (oi := _) (v := ?_) rfl (by kernel_rfl) (by kernel_rfl) (by kernel_rfl) (fun _ _ _ h => h) (Or.inl ⟨by rfl, ?_⟩) (by assumption) ?_
          rotate_left
          · intro wx hSx
            go_simp
            all_goals with_reducible rfl
          simp only [Act.put, List.setIfInBounds_toArray, List.set_cons_zero, List.set_cons_succ, List.getElem_toArray, List.getElem_cons_zero, List.getElem_cons_succ]
          refine wpAnyH_done (by kernel_rfl) ?_ _
          go_wp2
          go_ret2
          exact ⟨rfl, HBR.out⟩
        exact AllReadyH.nil
      exact AllReadyH.nil
    refine AllReadyH.cons (o := _) rfl (fun K hK => ?_) ?_
    · go_simp
      refine (rbytes_at by6 n _ HB6.out HN.out).mono ?_
      rintro x wr19 ⟨rfl, hbc⟩
      go_wp2_with fail
      refine Rg.st_call hK hHeld KS.out HBR.out hbc ?_
      clear hK K
      intro hHeld hbr
      have HBR := Lib.hid hbr
      clear hbr hbc
      try simp only [List.setIfInBounds_toArray, List.set_cons_zero, List.set_cons_succ]
      refine wpAnyH_ready (rs := [7]) (by kernel_rfl) (by simp) ?_
      refine AllReadyH.cons (o := _) rfl (fun K hK => ?_) ?_
      · go_simp
        refine Rg.st_alloc hK hHeld KS.out HBR.out ?_
        clear hK K
        intro wr20 hlt hHeld ks hbr
        have HBR := Lib.hid hbr
        have KS := Lib.hid ks
        clear hbr ks hlt
        try simp only [List.setIfInBounds_toArray, List.set_cons_zero, List.set_cons_succ]
        refine wpAnyH_take (i := 8) (oi := _) (v := ?_) rfl (by kernel_rfl) (by kernel_rfl) (by kernel_rfl) (fun _ _ _ h => h) (Or.inl ⟨by rfl, ?_⟩) (by assumption) ?_
        rotate_left
        · intro wx hSx
          have hcv := Rg.back_blk (P := Try.prog) (src := 62) (dst := 9) sA [UInt8.ofNat (q * 16), UInt8.ofNat n3] 2 2 hSx.2 HV2.out rfl HSA.out Try.underlying62 Try.underlying5 Try.underlying9; go_simp
          all_goals with_reducible rfl
        simp only [Act.put, List.setIfInBounds_toArray, List.set_cons_zero, List.set_cons_succ, List.getElem_toArray, List.getElem_cons_zero, List.getElem_cons_succ]
        refine wpAnyH_take (i := 12) (oi := _) (v := ?_) rfl (by kernel_rfl) (by kernel_rfl) (by kernel_rfl) (fun _ _ _ h => h) (Or.inl ⟨by rfl, ?_⟩) (by assumption) ?_
        rotate_left
        · intro wx hSx
          go_simp
          all_goals with_reducible rfl
        simp only [Act.put, List.setIfInBounds_toArray, List.set_cons_zero, List.set_cons_succ, List.getElem_toArray, List.getElem_cons_zero, List.getElem_cons_succ]
        refine wpAnyH_take (i := 15) (oi := _) (v := ?_) rfl (by kernel_rfl) (by kernel_rfl) (by kernel_rfl) (fun _ _ _ h => h) (Or.inl ⟨by rfl, ?_⟩) (by assumption) ?_
        rotate_left
        · intro wx hSx
          go_simp
          all_goals with_reducible rfl
        simp only [Act.put, List.setIfInBounds_toArray, List.set_cons_zero, List.set_cons_succ, List.getElem_toArray, List.getElem_cons_zero, List.getElem_cons_succ]
        refine wpAnyH_ready (rs := [16]) (by kernel_rfl) (by simp) ?_
        refine AllReadyH.cons (o := _) rfl (fun K hK => ?_) ?_
        · go_simp
          refine (Oa.rclose_at l 1 40 0 32 _ _ HC.out (by omega) (by omega) (by omega)).mono ?_
          rintro x wr21 ⟨rfl, hbc⟩
          go_wp2_with fail
          refine Rg.st_call hK hHeld KS.out HBR.out hbc ?_
          clear hK K
          intro hHeld hbr
          have HBR := Lib.hid hbr
          clear hbr hbc
          try simp only [List.setIfInBounds_toArray, List.set_cons_zero, List.set_cons_succ]
          refine wpAnyH_take (i := 17) (oi := _) (v := ?_) rfl (by kernel_rfl) (by kernel_rfl) (by kernel_rfl) (fun _ _ _ h => h) (Or.inl ⟨by rfl, ?_⟩) (by assumption) ?_
          rotate_left
          · intro wx hSx
            go_simp
            all_goals with_reducible rfl
          simp only [Act.put, List.setIfInBounds_toArray, List.set_cons_zero, List.set_cons_succ, List.getElem_toArray, List.getElem_cons_zero, List.getElem_cons_succ]
          refine wpAnyH_take (i := 18) (oi := _) (v := ?_) rfl (by kernel_rfl) (by kernel_rfl) (by kernel_rfl) (fun _ _ _ h => h) (Or.inl ⟨by rfl, ?_⟩) (by assumption) ?_
          rotate_left
          · intro wx hSx
            go_simp
            all_goals with_reducible rfl
          simp only [Act.put, List.setIfInBounds_toArray, List.set_cons_zero, List.set_cons_succ, List.getElem_toArray, List.getElem_cons_zero, List.getElem_cons_succ]
          refine wpAnyH_take (i := 19) (oi := _) (v := ?_) rfl (by kernel_rfl) (by kernel_rfl) (by kernel_rfl) (fun _ _ _ h => h) (Or.inl ⟨by rfl, ?_⟩) (by assumption) ?_
          rotate_left
          · intro wx hSx
            go_simp
            all_goals with_reducible rfl
          simp only [Act.put, List.setIfInBounds_toArray, List.set_cons_zero, List.set_cons_succ, List.getElem_toArray, List.getElem_cons_zero, List.getElem_cons_succ]
          refine wpAnyH_take (i := 20) (oi := _) (v := ?_) rfl (by kernel_rfl) (by kernel_rfl) (by kernel_rfl) (fun _ _ _ h => h) (Or.inl ⟨by rfl, ?_⟩) (by assumption) ?_
          rotate_left
          · intro wx hSx
            go_simp
            all_goals with_reducible rfl
          simp only [Act.put, List.setIfInBounds_toArray, List.set_cons_zero, List.set_cons_succ, List.getElem_toArray, List.getElem_cons_zero, List.getElem_cons_succ]
          refine wpAnyH_done (by kernel_rfl) ?_ _
          go_wp2
          go_ret2
          exact ⟨rfl, HBR.out⟩
        exact AllReadyH.nil
      exact AllReadyH.nil
    exact AllReadyH.nil
  exact AllReadyH.nil
end Go.Proofs.Ytnapbmdkaldncaa.Rp
