/-
  Contract of ccm's Open.
-/
import Derived.Test.YtlbnigdindpnfaaCcmB
namespace Go.Proofs.Ytlbnigdindpnfaa.Cc
open Go.RowKit Go.Proofs.Ytlbnigdindpnfaa.Bt Go.Proofs.Ytlbnigdindpnfaa.Mm Go.Proofs.Ytlbnigdindpnfaa.Fl Go.Proofs.Ytlbnigdindpnfaa.Lw Go.Proofs.Ytlbnigdindpnfaa.Hx Go.Proofs.Ytlbnigdindpnfaa.Mc Go.Proofs.Ytlbnigdindpnfaa.Tg Go.Proofs.Ytlbnigdindpnfaa.Oa Go.Proofs.Ytlbnigdindpnfaa.Rp
set_option linter.unusedSimpArgs false
set_option linter.unusedVariables false

set_option maxRecDepth 100000 in
set_option maxHeartbeats 4000000 in
theorem open_wrongW (s cb fb fr rest tl : ByteArray) (l v c f o : Nat) (cs : List UInt8) (lv x0 z1 x2 y0 z2 y2 : Nat) (zb : Bool) (b2 : Bool) (r : Nat) (nm : ByteArray) (w : World) (hs : s.size ≤ maxLen) (ho : openO s.data.toList = (⟨l, v, c, f, o⟩, cs, 0)) (hcb : (⟨cs.toArray⟩ : ByteArray) = cb) (hi : isO ⟨l, v, c, f, o⟩ lv 0 1 70 = 0) (hcz : cb.size ≤ maxLen)
    (hfb : (⟨[UInt8.ofNat f].toArray⟩ : ByteArray) = fb) (hfs : fb.size ≤ maxLen) (hf2 : f < 256) (hsf : splitR fb widthsF = ([x0, z1, x2], fr, 0)) (hsc : splitR cb widthsC = ([y0, z2, y2], rest, 0)) (hrs : 48 ≤ rest.size) (hrm : rest.size ≤ 1000) (htl : rest.extract 48 rest.size = tl) (hz : zeros tl.data.toList = zb) (htm : tl.size ≤ maxLen) (h1 : z1 = 0) (h2 : z2 = 0) (hzb : zb = true) (hb2 : ((x0 : Int) == 1) = b2) (hx2 : x2 < 256) (hy0 : y0 < 4294967296) (hy2 : y2 < 65536) (hnm : (⟨(nameC rest.data.toList).toArray⟩ : ByteArray) = nm) (hw : wrongC ⟨b2, x2, y0, y2, nm.data.toList⟩ lv = r) (hr : r ≠ 0) :
    Calls Try.prog 14 #[.string s, .int .u8 (lv : Int)] w fun x w' => x = .returned (.tuple #[zeroCV, .int .i64 (r : Int)]) ∧ Below w.heap.size w w' := by
  have HO := Lib.hid ho; clear ho
  have HS := Lib.hid hs; clear hs
  have HCB := Lib.hid hcb; clear hcb
  have HI := Lib.hid hi; clear hi
  have HCZ := Lib.hid hcz; clear hcz
  have HFB := Lib.hid hfb; clear hfb
  have HFS := Lib.hid hfs; clear hfs
  have HF2 := Lib.hid hf2; clear hf2
  have HSF := Lib.hid hsf; clear hsf
  have HSC := Lib.hid hsc; clear hsc
  have HZ := Lib.hid hz; clear hz
  have HTM := Lib.hid htm; clear htm
  have m1 : (48 : Int) ≤ (rest.size : Int) := by omega
  have q2 : ((z1 : Int) != 0) = false := neq_f (by omega)
  have q3 : ((z2 : Int) != 0) = false := neq_f (by omega)
  subst hzb
  have k0 : IntKind.u8.wrap (x2 : Int) = (x2 : Int) := IntWalk.u8_in _ ⟨by omega, by omega⟩
  have k5 : IntKind.u32.wrap (y0 : Int) = (y0 : Int) := IntWalk.u32_in _ ⟨by omega, by omega⟩
  have k6 : IntKind.u16.wrap (y2 : Int) = (y2 : Int) := IntWalk.u16_in _ ⟨by omega, by omega⟩
  have HNM := Lib.hid hnm
  have HW := Lib.hid hw
  clear h1 h2 hnm hw hx2 hy0 hy2
  have q4 : ((r : Int) != 0) = true := neq_t (by omega)
  clear hr
  go_enter Try.func14, Try.ntmps14
  go_wp2_with fail
  refine (Oa.open_at s _ HO.out HS.out).mono ?_
  rintro x w1 ⟨rfl, hb1⟩
  have HK := Lib.hid ((Blk.fresh w 48 zeroCC).below hb1 (by simp))
  have HB := Lib.hid (((Below.refl w.heap.size w).alloc (Nat.le_refl _) (.cells zeroCC 48)).trans (hb1.mono (by simp)))
  clear hb1
  simp only [valH]
  rw [HCB.out]
  go_upto_if 25 with (fail)
  have H6 := Lib.hid (HB.out.alloc HB.out.size (.cells (hdC l v c f o) 62))
  have H7 := Lib.hid (HK.out.alloc (.cells (hdC l v c f o) 62))
  have H8 := Lib.hid (Blk.fresh w1 62 (hdC l v c f o))
  generalize w1.alloc (.cells (hdC l v c f o) 62) = w2 at H6 H7 H8 ⊢
  obtain ⟨c0, c1, c2, c3, c4, y0, y1, y2, y3, y4⟩ := Rw5.row H7.out
  obtain ⟨d0, d1, d2, d3, d4, _⟩ := Rw5.row H8.out
  go_wp2_with fail
  refine (is_any l v c f o lv 0 1 70 _).mono ?_
  rintro x w3 ⟨rfl, hbb⟩
  have HB2 := Lib.hid (H6.out.trans (hbb.mono H6.out.size))
  have HK2 := Lib.hid (H7.out.below hbb H7.out.lt)
  have HH2 := Lib.hid (H8.out.below hbb H8.out.lt)
  rw [HI.out]
  clear hbb c0 c1 c2 c3 c4 y0 y1 y2 y3 y4 d0 d1 d2 d3 d4
  obtain ⟨d0, d1, d2, d3, d4, _⟩ := Rw5.row HH2.out
  have hcv := back_new (P := Try.prog) (src := 60) (dst := 9) (e := 5) w3 #[.int .u8 (f : Int)] [UInt8.ofNat f] 1 1 (by simp only [byteVals, List.map_cons, List.map_nil]; rw [ofNat_toNat _ HF2.out]) rfl Try.underlying60 Try.underlying5 Try.underlying9
  rw [HFB.out] at hcv
  go_wp2_with fail
  refine (split_blk fb widthsF _ _ 3 _ _ _ _ (fresh_second _ _ _ _) rfl HSF.out rfl rfl HFS.out (by simp)).mono ?_
  rintro x w4 ⟨A1, k1, rfl, hr1, hb4⟩
  have HB4 := Lib.hid (((HB2.out.alloc HB2.out.size (.cells #[.int .u8 (f : Int)] 5)).alloc (by have := HB2.out.size; simp; omega) (.cells #[.int .i64 1, .int .i64 4, .int .i64 3] 3)).trans (hb4.mono (by have := HB2.out.size; simp; omega)))
  have HK4 := Lib.hid (((HK2.out.alloc (.cells #[.int .u8 (f : Int)] 5)).alloc (.cells #[.int .i64 1, .int .i64 4, .int .i64 3] 3)).below hb4 ((HK2.out.alloc _).alloc _).lt)
  have HR1 := Lib.hid hr1
  clear hb4 hr1 hcv d0 d1 d2 d3 d4
  go_wp2_with fail
  refine (split_blk cb widthsC _ _ 3 _ _ _ _ (Blk.fresh _ _ _) rfl HSC.out rfl rfl HCZ.out (by simp)).mono ?_
  rintro x w5 ⟨A2, k2, rfl, hr2, hb5⟩
  have HB5 := Lib.hid ((HB4.out.alloc HB4.out.size (.cells #[.int .i64 32, .int .i64 3, .int .i64 13] 3)).trans (hb5.mono (by have := HB4.out.size; simp; omega)))
  have HK5 := Lib.hid ((HK4.out.alloc (.cells #[.int .i64 32, .int .i64 3, .int .i64 13] 3)).below hb5 (HK4.out.alloc _).lt)
  obtain ⟨a2, rfl, l2, hcell2⟩ := hr2 (by simp [nums])
  have hr1' := (HR1.out.below ((Below.refl w4.heap.size w4).alloc (Nat.le_refl _) (.cells #[.int .i64 32, .int .i64 3, .int .i64 13] 3))).below (hb5.mono (by simp))
  obtain ⟨a1, rfl, l1, hcell1⟩ := hr1' (by simp [nums])
  have l1' : a1.block < w5.heap.size := Nat.lt_of_lt_of_le l1 (by have := hb5.size; simp at this; omega)
  have e0 := hcell1 0 _ rfl
  have e1 := hcell1 1 _ rfl
  have e2 := hcell1 2 _ rfl
  have f0 := hcell2 0 _ rfl
  have f1 := hcell2 1 _ rfl
  have f2 := hcell2 2 _ rfl
  simp [Addr.add] at e0 e1 e2 f0 f1 f2
  have L1 := Lib.hid l1'
  have L2 := Lib.hid l2
  clear hb5 hr1' hcell1 hcell2 l1 l1' l2
  obtain ⟨c0, c1, c2, c3, c4, w0', w1', w2', w3', w4'⟩ := Rw5.row HK5.out
  go_wp2_with fail
  refine (noughts_at tl w5 HZ.out HTM.out).mono ?_
  rintro x w6 ⟨rfl, rfl⟩
  go_upto_region 13 with (fail)
  go_cut [16] (fun s16 wx => ∃ g, s16 = .pointer (some ⟨g, 0, none⟩) ∧ Blk wx w.heap.size 48 zeroCC ∧ Blk wx g 48 (cmC b2 x2 y0 y2 nm) ∧ Below w.heap.size w wx)
  case first =>
    have KST := Lib.hid (show St4 w5.heap.size a1 a2 x0 x2 y0 y2 w5 from ⟨Nat.le_refl _, L1.out, L2.out, e0, e2, f0, f2⟩)
    clear e0 e1 e2 f0 f1 f2 c0 c1 c2 c3 c4 w0' w1' w2' w3' w4'
    obtain ⟨wd, hwd⟩ : ∃ wd, wd = w5.drew := ⟨_, rfl⟩
    have HBR := Lib.hid (show Below w.heap.size w wd by rw [hwd]; exact HB5.out.drew)
    have KS := Lib.hid ((Rg.Keeps.one w.heap.size 48 zeroCC).and (st4_keeps w5.heap.size a1 a2 x0 x2 y0 y2))
    refine wp_region_held_drew (S := fun wx => Blk wx w.heap.size 48 zeroCC ∧ St4 w5.heap.size a1 a2 x0 x2 y0 y2 wx) (by kernel_rfl) ⟨HK5.out.drew, KST.out⟩ (fun hHeld => ?_)
    rw [← hwd] at hHeld ⊢
    have HWD := Lib.hid hwd
    clear hwd
    refine Rg.tk 0 (v := ?_) ?_ ?_
    rotate_left
    · (intro wx hSx; go_simp; all_goals with_reducible rfl)
    simp only [Act.put, Rg.e1, Rg.e2, Rg.e3, Rg.e4, Rg.e5, Rg.e6]
    refine Rg.tk 1 (v := ?_) ?_ ?_
    rotate_left
    · (intro wx hSx; go_simp; all_goals with_reducible rfl)
    simp only [Act.put, Rg.e1, Rg.e2, Rg.e3, Rg.e4, Rg.e5, Rg.e6]
    refine Rg.tk 2 (v := ?_) ?_ ?_
    rotate_left
    · intro wx hSx
      obtain ⟨_, _, _, g0, g1, g2, g3⟩ := hSx.2; go_simp
      all_goals with_reducible rfl
    simp only [Act.put, Rg.e1, Rg.e2, Rg.e3, Rg.e4, Rg.e5, Rg.e6]
    refine Rg.tk 5 (v := ?_) ?_ ?_
    rotate_left
    · (intro wx hSx; go_simp; all_goals with_reducible rfl)
    simp only [Act.put, Rg.e1, Rg.e2, Rg.e3, Rg.e4, Rg.e5, Rg.e6]
    refine Rg.tk 6 (v := ?_) ?_ ?_
    rotate_left
    · (intro wx hSx; go_simp; all_goals with_reducible rfl)
    simp only [Act.put, Rg.e1, Rg.e2, Rg.e3, Rg.e4, Rg.e5, Rg.e6]
    refine Rg.tk 7 (v := ?_) ?_ ?_
    rotate_left
    · intro wx hSx
      obtain ⟨_, _, _, g0, g1, g2, g3⟩ := hSx.2; go_simp
      all_goals with_reducible rfl
    simp only [Act.put, Rg.e1, Rg.e2, Rg.e3, Rg.e4, Rg.e5, Rg.e6]
    refine Rg.tk 8 (v := ?_) ?_ ?_
    rotate_left
    · (intro wx hSx; go_simp; all_goals with_reducible rfl)
    simp only [Act.put, Rg.e1, Rg.e2, Rg.e3, Rg.e4, Rg.e5, Rg.e6]
    refine Rg.tk 9 (v := ?_) ?_ ?_
    rotate_left
    · (intro wx hSx; go_simp; all_goals with_reducible rfl)
    simp only [Act.put, Rg.e1, Rg.e2, Rg.e3, Rg.e4, Rg.e5, Rg.e6]
    refine Rg.tk 10 (v := ?_) ?_ ?_
    rotate_left
    · (intro wx hSx; go_simp; all_goals with_reducible rfl)
    simp only [Act.put, Rg.e1, Rg.e2, Rg.e3, Rg.e4, Rg.e5, Rg.e6]
    refine Rg.tk 11 (v := ?_) ?_ ?_
    rotate_left
    · intro wx hSx
      obtain ⟨_, _, _, g0, g1, g2, g3⟩ := hSx.2; go_simp
      all_goals with_reducible rfl
    simp only [Act.put, Rg.e1, Rg.e2, Rg.e3, Rg.e4, Rg.e5, Rg.e6]
    refine Rg.tk 12 (v := ?_) ?_ ?_
    rotate_left
    · (intro wx hSx; go_simp; all_goals with_reducible rfl)
    simp only [Act.put, Rg.e1, Rg.e2, Rg.e3, Rg.e4, Rg.e5, Rg.e6]
    refine Rg.tk 13 (v := ?_) ?_ ?_
    rotate_left
    · (intro wx hSx; go_simp; all_goals with_reducible rfl)
    simp only [Act.put, Rg.e1, Rg.e2, Rg.e3, Rg.e4, Rg.e5, Rg.e6]
    refine Rg.tk 14 (v := ?_) ?_ ?_
    rotate_left
    · (intro wx hSx; go_simp; all_goals with_reducible rfl)
    simp only [Act.put, Rg.e1, Rg.e2, Rg.e3, Rg.e4, Rg.e5, Rg.e6]
    refine Rg.tk 15 (v := ?_) ?_ ?_
    rotate_left
    · intro wx hSx
      obtain ⟨_, _, _, g0, g1, g2, g3⟩ := hSx.2; go_simp
      all_goals with_reducible rfl
    simp only [Act.put, Rg.e1, Rg.e2, Rg.e3, Rg.e4, Rg.e5, Rg.e6]
    refine Rg.tk 16 (v := ?_) ?_ ?_
    rotate_left
    · (intro wx hSx; go_simp; all_goals with_reducible rfl)
    simp only [Act.put, Rg.e1, Rg.e2, Rg.e3, Rg.e4, Rg.e5, Rg.e6]
    refine Rg.tk 17 (v := ?_) ?_ ?_
    rotate_left
    · (intro wx hSx; go_simp; all_goals with_reducible rfl)
    simp only [Act.put, Rg.e1, Rg.e2, Rg.e3, Rg.e4, Rg.e5, Rg.e6]
    refine wpAnyH_ready (rs := [3, 20]) (by kernel_rfl) (by simp) ?_
    refine .cons (o := _) rfl (fun K hK => ?_) ?_
    · go_simp
      refine (lv_true _).mono ?_
      rintro x wd ⟨rfl, rfl⟩
      have hbc := Below.refl wd.heap.size wd
      go_wp2_with fail
      refine Rg.st_call hK hHeld KS.out HBR.out hbc ?_
      clear hK K
      intro hHeld hbr
      have HBR := Lib.hid hbr
      clear hbr hbc
      try simp only [Rg.e1, Rg.e2, Rg.e3]
      refine Rg.tk 4 (v := ?_) ?_ ?_
      rotate_left
      · (intro wx hSx; go_simp; all_goals with_reducible rfl)
      simp only [Act.put, Rg.e1, Rg.e2, Rg.e3, Rg.e4, Rg.e5, Rg.e6]
      refine wpAnyH_ready (rs := [18, 20]) (by kernel_rfl) (by simp) ?_
      refine .cons (o := _) rfl (fun K hK => ?_) ?_
      · go_simp
        refine (name_at rest _ HNM.out).mono ?_
        rintro x wr2 ⟨rfl, hbc⟩
        go_wp2_with fail
        refine Rg.st_call hK hHeld KS.out HBR.out hbc ?_
        clear hK K
        intro hHeld hbr
        have HBR := Lib.hid hbr
        clear hbr hbc
        try simp only [Rg.e1, Rg.e2, Rg.e3]
        refine Rg.tk 19 (v := ?_) ?_ ?_
        rotate_left
        · (intro wx hSx; go_simp; all_goals with_reducible rfl)
        simp only [Act.put, Rg.e1, Rg.e2, Rg.e3, Rg.e4, Rg.e5, Rg.e6]
        refine wpAnyH_ready (rs := [20]) (by kernel_rfl) (by simp) ?_
        refine .cons (o := _) rfl (fun K hK => ?_) ?_
        · go_simp
          refine Rg.st_mk hK hHeld KS.out HBR.out ?_
          clear hK K
          have HGA := Lib.hid (show w.heap.size < _ ∧ w5.heap.size ≤ _ from ⟨hHeld.1.lt, hHeld.2.1⟩)
          intro wr3 hlt hHeld hblk hbr
          have HBR := Lib.hid hbr
          have HA := Lib.hid hblk
          clear hbr hblk hlt
          try simp only [Rg.e1, Rg.e2, Rg.e3]
          refine wpAnyH_ready (rs := [21]) (by kernel_rfl) (by simp) ?_
          refine .cons (o := _) rfl (fun K hK => ?_) ?_
          · obtain ⟨i0, i1, i2, i3, i4, j0, j1, j2, j3, j4⟩ := Rw5.row HA.out
            go_simp
            refine hK.out _ _ ⟨Rw5.far hHeld.1 (Nat.ne_of_lt HGA.out.1) _ _ _ _ _, st4_set hHeld.2 HGA.out.2 _ _ _ _ _⟩ (fun hHeld => ?_)
            clear hK K
            try simp only [Rg.e1, Rg.e2, Rg.e3]
            refine wpAnyH_done (by kernel_rfl) ?_ _
            go_wp2_with fail
            go_meet
            exact ⟨_, rfl, hHeld.1, Rw5.blk_set HA.out _ _ _ _ _, Rw5.below_set HBR.out (Nat.le_of_lt HGA.out.1) _ _ _ _ _⟩
          exact AllReadyH.nil
        exact AllReadyH.nil
      refine .cons (o := _) rfl (fun K hK => ?_) ?_
      · go_simp
        refine Rg.st_mk hK hHeld KS.out HBR.out ?_
        clear hK K
        have HGA := Lib.hid (show w.heap.size < _ ∧ w5.heap.size ≤ _ from ⟨hHeld.1.lt, hHeld.2.1⟩)
        intro wr5 hlt hHeld hblk hbr
        have HBR := Lib.hid hbr
        have HA := Lib.hid hblk
        clear hbr hblk hlt
        try simp only [Rg.e1, Rg.e2, Rg.e3]
        refine wpAnyH_ready (rs := [18]) (by kernel_rfl) (by simp) ?_
        refine .cons (o := _) rfl (fun K hK => ?_) ?_
        · go_simp
          refine (name_at rest _ HNM.out).mono ?_
          rintro x wr6 ⟨rfl, hbc⟩
          go_wp2_with fail
          have HA := Lib.hid (HA.out.below hbc HA.out.lt)
          refine Rg.st_call hK hHeld KS.out HBR.out hbc ?_
          clear hK K
          intro hHeld hbr
          have HBR := Lib.hid hbr
          clear hbr hbc
          try simp only [Rg.e1, Rg.e2, Rg.e3]
          refine Rg.tk 19 (v := ?_) ?_ ?_
          rotate_left
          · (intro wx hSx; go_simp; all_goals with_reducible rfl)
          simp only [Act.put, Rg.e1, Rg.e2, Rg.e3, Rg.e4, Rg.e5, Rg.e6]
          refine wpAnyH_ready (rs := [21]) (by kernel_rfl) (by simp) ?_
          refine .cons (o := _) rfl (fun K hK => ?_) ?_
          · obtain ⟨i0, i1, i2, i3, i4, j0, j1, j2, j3, j4⟩ := Rw5.row HA.out
            go_simp
            refine hK.out _ _ ⟨Rw5.far hHeld.1 (Nat.ne_of_lt HGA.out.1) _ _ _ _ _, st4_set hHeld.2 HGA.out.2 _ _ _ _ _⟩ (fun hHeld => ?_)
            clear hK K
            try simp only [Rg.e1, Rg.e2, Rg.e3]
            refine wpAnyH_done (by kernel_rfl) ?_ _
            go_wp2_with fail
            go_meet
            exact ⟨_, rfl, hHeld.1, Rw5.blk_set HA.out _ _ _ _ _, Rw5.below_set HBR.out (Nat.le_of_lt HGA.out.1) _ _ _ _ _⟩
          exact AllReadyH.nil
        exact AllReadyH.nil
      exact AllReadyH.nil
    refine .cons (o := _) rfl (fun K hK => ?_) ?_
    · go_simp
      refine Rg.st_mk hK hHeld KS.out HBR.out ?_
      clear hK K
      have HGA := Lib.hid (show w.heap.size < _ ∧ w5.heap.size ≤ _ from ⟨hHeld.1.lt, hHeld.2.1⟩)
      intro wr8 hlt hHeld hblk hbr
      have HBR := Lib.hid hbr
      have HA := Lib.hid hblk
      clear hbr hblk hlt
      try simp only [Rg.e1, Rg.e2, Rg.e3]
      refine wpAnyH_ready (rs := [3]) (by kernel_rfl) (by simp) ?_
      refine .cons (o := _) rfl (fun K hK => ?_) ?_
      · go_simp
        refine (lv_true _).mono ?_
        rintro x wr8 ⟨rfl, rfl⟩
        have hbc := Below.refl wr8.heap.size wr8
        go_wp2_with fail
        refine Rg.st_call hK hHeld KS.out HBR.out hbc ?_
        clear hK K
        intro hHeld hbr
        have HBR := Lib.hid hbr
        clear hbr hbc
        try simp only [Rg.e1, Rg.e2, Rg.e3]
        refine Rg.tk 4 (v := ?_) ?_ ?_
        rotate_left
        · (intro wx hSx; go_simp; all_goals with_reducible rfl)
        simp only [Act.put, Rg.e1, Rg.e2, Rg.e3, Rg.e4, Rg.e5, Rg.e6]
        refine wpAnyH_ready (rs := [18]) (by kernel_rfl) (by simp) ?_
        refine .cons (o := _) rfl (fun K hK => ?_) ?_
        · go_simp
          refine (name_at rest _ HNM.out).mono ?_
          rintro x wr10 ⟨rfl, hbc⟩
          go_wp2_with fail
          have HA := Lib.hid (HA.out.below hbc HA.out.lt)
          refine Rg.st_call hK hHeld KS.out HBR.out hbc ?_
          clear hK K
          intro hHeld hbr
          have HBR := Lib.hid hbr
          clear hbr hbc
          try simp only [Rg.e1, Rg.e2, Rg.e3]
          refine Rg.tk 19 (v := ?_) ?_ ?_
          rotate_left
          · (intro wx hSx; go_simp; all_goals with_reducible rfl)
          simp only [Act.put, Rg.e1, Rg.e2, Rg.e3, Rg.e4, Rg.e5, Rg.e6]
          refine wpAnyH_ready (rs := [21]) (by kernel_rfl) (by simp) ?_
          refine .cons (o := _) rfl (fun K hK => ?_) ?_
          · obtain ⟨i0, i1, i2, i3, i4, j0, j1, j2, j3, j4⟩ := Rw5.row HA.out
            go_simp
            refine hK.out _ _ ⟨Rw5.far hHeld.1 (Nat.ne_of_lt HGA.out.1) _ _ _ _ _, st4_set hHeld.2 HGA.out.2 _ _ _ _ _⟩ (fun hHeld => ?_)
            clear hK K
            try simp only [Rg.e1, Rg.e2, Rg.e3]
            refine wpAnyH_done (by kernel_rfl) ?_ _
            go_wp2_with fail
            go_meet
            exact ⟨_, rfl, hHeld.1, Rw5.blk_set HA.out _ _ _ _ _, Rw5.below_set HBR.out (Nat.le_of_lt HGA.out.1) _ _ _ _ _⟩
          exact AllReadyH.nil
        exact AllReadyH.nil
      exact AllReadyH.nil
    exact AllReadyH.nil
  case rest =>
    obtain ⟨g, rfl, hk9, hx9, hb9⟩ := hcut
    have HK9 := Lib.hid hk9
    have HX9 := Lib.hid hx9
    have HB9 := Lib.hid hb9
    clear hk9 hx9 hb9 hb2 k0 k5 k6 e0 e1 e2 f0 f1 f2 c0 c1 c2 c3 c4 w0' w1' w2' w3' w4'
    obtain ⟨i0, i1, i2, i3, i4, _⟩ := Rw5.row HX9.out
    go_wp2_with fail
    refine (wrong_at b2 x2 y0 y2 nm lv _ HW.out).mono ?_
    rintro x w6 ⟨rfl, hb6⟩
    have HX6 := Lib.hid (HX9.out.below hb6 HX9.out.lt)
    have HK6 := Lib.hid (HK9.out.below hb6 HK9.out.lt)
    have HB6 := Lib.hid (HB9.out.trans (hb6.mono HB9.out.size))
    clear hb6 i0 i1 i2 i3 i4
    obtain ⟨i0, i1, i2, i3, i4, _⟩ := Rw5.row HX6.out
    obtain ⟨c0, c1, c2, c3, c4, y0', y1', y2', y3', y4'⟩ := Rw5.row HK6.out
    go_wp2
    (try simp only [Exit.inBlock, Exit.then]); refine bodyPost_ret (results_row2 rfl _ _ w.heap.size 48 _ (0, 0) _ rfl (Rw5.blk_set HK6.out _ _ _ _ _) Try.underlying48 rfl info_cmsg) rfl ?_
    exact ⟨rfl, Rw5.below_set HB6.out (Nat.le_refl _) _ _ _ _ _⟩
set_option maxRecDepth 100000 in
set_option maxHeartbeats 4000000 in
theorem open_ok (s cb fb fr rest tl : ByteArray) (l v c f o : Nat) (cs : List UInt8) (lv x0 z1 x2 y0 z2 y2 : Nat) (zb : Bool) (b2 : Bool) (r : Nat) (nm : ByteArray) (w : World) (hs : s.size ≤ maxLen) (ho : openO s.data.toList = (⟨l, v, c, f, o⟩, cs, 0)) (hcb : (⟨cs.toArray⟩ : ByteArray) = cb) (hi : isO ⟨l, v, c, f, o⟩ lv 0 1 70 = 0) (hcz : cb.size ≤ maxLen)
    (hfb : (⟨[UInt8.ofNat f].toArray⟩ : ByteArray) = fb) (hfs : fb.size ≤ maxLen) (hf2 : f < 256) (hsf : splitR fb widthsF = ([x0, z1, x2], fr, 0)) (hsc : splitR cb widthsC = ([y0, z2, y2], rest, 0)) (hrs : 48 ≤ rest.size) (hrm : rest.size ≤ 1000) (htl : rest.extract 48 rest.size = tl) (hz : zeros tl.data.toList = zb) (htm : tl.size ≤ maxLen) (h1 : z1 = 0) (h2 : z2 = 0) (hzb : zb = true) (hb2 : ((x0 : Int) == 1) = b2) (hx2 : x2 < 256) (hy0 : y0 < 4294967296) (hy2 : y2 < 65536) (hnm : (⟨(nameC rest.data.toList).toArray⟩ : ByteArray) = nm) (hw : wrongC ⟨b2, x2, y0, y2, nm.data.toList⟩ lv = r) (hr : r = 0) :
    Calls Try.prog 14 #[.string s, .int .u8 (lv : Int)] w fun x w' => x = .returned (.tuple #[cmV b2 x2 y0 y2 nm, .int .i64 ((0 : Nat) : Int)]) ∧ Below w.heap.size w w' := by
  have HO := Lib.hid ho; clear ho
  have HS := Lib.hid hs; clear hs
  have HCB := Lib.hid hcb; clear hcb
  have HI := Lib.hid hi; clear hi
  have HCZ := Lib.hid hcz; clear hcz
  have HFB := Lib.hid hfb; clear hfb
  have HFS := Lib.hid hfs; clear hfs
  have HF2 := Lib.hid hf2; clear hf2
  have HSF := Lib.hid hsf; clear hsf
  have HSC := Lib.hid hsc; clear hsc
  have HZ := Lib.hid hz; clear hz
  have HTM := Lib.hid htm; clear htm
  have m1 : (48 : Int) ≤ (rest.size : Int) := by omega
  have q2 : ((z1 : Int) != 0) = false := neq_f (by omega)
  have q3 : ((z2 : Int) != 0) = false := neq_f (by omega)
  subst hzb
  have k0 : IntKind.u8.wrap (x2 : Int) = (x2 : Int) := IntWalk.u8_in _ ⟨by omega, by omega⟩
  have k5 : IntKind.u32.wrap (y0 : Int) = (y0 : Int) := IntWalk.u32_in _ ⟨by omega, by omega⟩
  have k6 : IntKind.u16.wrap (y2 : Int) = (y2 : Int) := IntWalk.u16_in _ ⟨by omega, by omega⟩
  have HNM := Lib.hid hnm
  have HW := Lib.hid hw
  clear h1 h2 hnm hw hx2 hy0 hy2
  subst hr
  go_enter Try.func14, Try.ntmps14
  go_wp2_with fail
  refine (Oa.open_at s _ HO.out HS.out).mono ?_
  rintro x w1 ⟨rfl, hb1⟩
  have HK := Lib.hid ((Blk.fresh w 48 zeroCC).below hb1 (by simp))
  have HB := Lib.hid (((Below.refl w.heap.size w).alloc (Nat.le_refl _) (.cells zeroCC 48)).trans (hb1.mono (by simp)))
  clear hb1
  simp only [valH]
  rw [HCB.out]
  go_upto_if 25 with (fail)
  have H6 := Lib.hid (HB.out.alloc HB.out.size (.cells (hdC l v c f o) 62))
  have H7 := Lib.hid (HK.out.alloc (.cells (hdC l v c f o) 62))
  have H8 := Lib.hid (Blk.fresh w1 62 (hdC l v c f o))
  generalize w1.alloc (.cells (hdC l v c f o) 62) = w2 at H6 H7 H8 ⊢
  obtain ⟨c0, c1, c2, c3, c4, y0, y1, y2, y3, y4⟩ := Rw5.row H7.out
  obtain ⟨d0, d1, d2, d3, d4, _⟩ := Rw5.row H8.out
  go_wp2_with fail
  refine (is_any l v c f o lv 0 1 70 _).mono ?_
  rintro x w3 ⟨rfl, hbb⟩
  have HB2 := Lib.hid (H6.out.trans (hbb.mono H6.out.size))
  have HK2 := Lib.hid (H7.out.below hbb H7.out.lt)
  have HH2 := Lib.hid (H8.out.below hbb H8.out.lt)
  rw [HI.out]
  clear hbb c0 c1 c2 c3 c4 y0 y1 y2 y3 y4 d0 d1 d2 d3 d4
  obtain ⟨d0, d1, d2, d3, d4, _⟩ := Rw5.row HH2.out
  have hcv := back_new (P := Try.prog) (src := 60) (dst := 9) (e := 5) w3 #[.int .u8 (f : Int)] [UInt8.ofNat f] 1 1 (by simp only [byteVals, List.map_cons, List.map_nil]; rw [ofNat_toNat _ HF2.out]) rfl Try.underlying60 Try.underlying5 Try.underlying9
  rw [HFB.out] at hcv
  go_wp2_with fail
  refine (split_blk fb widthsF _ _ 3 _ _ _ _ (fresh_second _ _ _ _) rfl HSF.out rfl rfl HFS.out (by simp)).mono ?_
  rintro x w4 ⟨A1, k1, rfl, hr1, hb4⟩
  have HB4 := Lib.hid (((HB2.out.alloc HB2.out.size (.cells #[.int .u8 (f : Int)] 5)).alloc (by have := HB2.out.size; simp; omega) (.cells #[.int .i64 1, .int .i64 4, .int .i64 3] 3)).trans (hb4.mono (by have := HB2.out.size; simp; omega)))
  have HK4 := Lib.hid (((HK2.out.alloc (.cells #[.int .u8 (f : Int)] 5)).alloc (.cells #[.int .i64 1, .int .i64 4, .int .i64 3] 3)).below hb4 ((HK2.out.alloc _).alloc _).lt)
  have HR1 := Lib.hid hr1
  clear hb4 hr1 hcv d0 d1 d2 d3 d4
  go_wp2_with fail
  refine (split_blk cb widthsC _ _ 3 _ _ _ _ (Blk.fresh _ _ _) rfl HSC.out rfl rfl HCZ.out (by simp)).mono ?_
  rintro x w5 ⟨A2, k2, rfl, hr2, hb5⟩
  have HB5 := Lib.hid ((HB4.out.alloc HB4.out.size (.cells #[.int .i64 32, .int .i64 3, .int .i64 13] 3)).trans (hb5.mono (by have := HB4.out.size; simp; omega)))
  have HK5 := Lib.hid ((HK4.out.alloc (.cells #[.int .i64 32, .int .i64 3, .int .i64 13] 3)).below hb5 (HK4.out.alloc _).lt)
  obtain ⟨a2, rfl, l2, hcell2⟩ := hr2 (by simp [nums])
  have hr1' := (HR1.out.below ((Below.refl w4.heap.size w4).alloc (Nat.le_refl _) (.cells #[.int .i64 32, .int .i64 3, .int .i64 13] 3))).below (hb5.mono (by simp))
  obtain ⟨a1, rfl, l1, hcell1⟩ := hr1' (by simp [nums])
  have l1' : a1.block < w5.heap.size := Nat.lt_of_lt_of_le l1 (by have := hb5.size; simp at this; omega)
  have e0 := hcell1 0 _ rfl
  have e1 := hcell1 1 _ rfl
  have e2 := hcell1 2 _ rfl
  have f0 := hcell2 0 _ rfl
  have f1 := hcell2 1 _ rfl
  have f2 := hcell2 2 _ rfl
  simp [Addr.add] at e0 e1 e2 f0 f1 f2
  have L1 := Lib.hid l1'
  have L2 := Lib.hid l2
  clear hb5 hr1' hcell1 hcell2 l1 l1' l2
  obtain ⟨c0, c1, c2, c3, c4, w0', w1', w2', w3', w4'⟩ := Rw5.row HK5.out
  go_wp2_with fail
  refine (noughts_at tl w5 HZ.out HTM.out).mono ?_
  rintro x w6 ⟨rfl, rfl⟩
  go_upto_region 13 with (fail)
  go_cut [16] (fun s16 wx => ∃ g, s16 = .pointer (some ⟨g, 0, none⟩) ∧ Blk wx w.heap.size 48 zeroCC ∧ Blk wx g 48 (cmC b2 x2 y0 y2 nm) ∧ Below w.heap.size w wx)
  case first =>
    have KST := Lib.hid (show St4 w5.heap.size a1 a2 x0 x2 y0 y2 w5 from ⟨Nat.le_refl _, L1.out, L2.out, e0, e2, f0, f2⟩)
    clear e0 e1 e2 f0 f1 f2 c0 c1 c2 c3 c4 w0' w1' w2' w3' w4'
    obtain ⟨wd, hwd⟩ : ∃ wd, wd = w5.drew := ⟨_, rfl⟩
    have HBR := Lib.hid (show Below w.heap.size w wd by rw [hwd]; exact HB5.out.drew)
    have KS := Lib.hid ((Rg.Keeps.one w.heap.size 48 zeroCC).and (st4_keeps w5.heap.size a1 a2 x0 x2 y0 y2))
    refine wp_region_held_drew (S := fun wx => Blk wx w.heap.size 48 zeroCC ∧ St4 w5.heap.size a1 a2 x0 x2 y0 y2 wx) (by kernel_rfl) ⟨HK5.out.drew, KST.out⟩ (fun hHeld => ?_)
    rw [← hwd] at hHeld ⊢
    have HWD := Lib.hid hwd
    clear hwd
    refine Rg.tk 0 (v := ?_) ?_ ?_
    rotate_left
    · (intro wx hSx; go_simp; all_goals with_reducible rfl)
    simp only [Act.put, Rg.e1, Rg.e2, Rg.e3, Rg.e4, Rg.e5, Rg.e6]
    refine Rg.tk 1 (v := ?_) ?_ ?_
    rotate_left
    · (intro wx hSx; go_simp; all_goals with_reducible rfl)
    simp only [Act.put, Rg.e1, Rg.e2, Rg.e3, Rg.e4, Rg.e5, Rg.e6]
    refine Rg.tk 2 (v := ?_) ?_ ?_
    rotate_left
    · intro wx hSx
      obtain ⟨_, _, _, g0, g1, g2, g3⟩ := hSx.2; go_simp
      all_goals with_reducible rfl
    simp only [Act.put, Rg.e1, Rg.e2, Rg.e3, Rg.e4, Rg.e5, Rg.e6]
    refine Rg.tk 5 (v := ?_) ?_ ?_
    rotate_left
    · (intro wx hSx; go_simp; all_goals with_reducible rfl)
    simp only [Act.put, Rg.e1, Rg.e2, Rg.e3, Rg.e4, Rg.e5, Rg.e6]
    refine Rg.tk 6 (v := ?_) ?_ ?_
    rotate_left
    · (intro wx hSx; go_simp; all_goals with_reducible rfl)
    simp only [Act.put, Rg.e1, Rg.e2, Rg.e3, Rg.e4, Rg.e5, Rg.e6]
    refine Rg.tk 7 (v := ?_) ?_ ?_
    rotate_left
    · intro wx hSx
      obtain ⟨_, _, _, g0, g1, g2, g3⟩ := hSx.2; go_simp
      all_goals with_reducible rfl
    simp only [Act.put, Rg.e1, Rg.e2, Rg.e3, Rg.e4, Rg.e5, Rg.e6]
    refine Rg.tk 8 (v := ?_) ?_ ?_
    rotate_left
    · (intro wx hSx; go_simp; all_goals with_reducible rfl)
    simp only [Act.put, Rg.e1, Rg.e2, Rg.e3, Rg.e4, Rg.e5, Rg.e6]
    refine Rg.tk 9 (v := ?_) ?_ ?_
    rotate_left
    · (intro wx hSx; go_simp; all_goals with_reducible rfl)
    simp only [Act.put, Rg.e1, Rg.e2, Rg.e3, Rg.e4, Rg.e5, Rg.e6]
    refine Rg.tk 10 (v := ?_) ?_ ?_
    rotate_left
    · (intro wx hSx; go_simp; all_goals with_reducible rfl)
    simp only [Act.put, Rg.e1, Rg.e2, Rg.e3, Rg.e4, Rg.e5, Rg.e6]
    refine Rg.tk 11 (v := ?_) ?_ ?_
    rotate_left
    · intro wx hSx
      obtain ⟨_, _, _, g0, g1, g2, g3⟩ := hSx.2; go_simp
      all_goals with_reducible rfl
    simp only [Act.put, Rg.e1, Rg.e2, Rg.e3, Rg.e4, Rg.e5, Rg.e6]
    refine Rg.tk 12 (v := ?_) ?_ ?_
    rotate_left
    · (intro wx hSx; go_simp; all_goals with_reducible rfl)
    simp only [Act.put, Rg.e1, Rg.e2, Rg.e3, Rg.e4, Rg.e5, Rg.e6]
    refine Rg.tk 13 (v := ?_) ?_ ?_
    rotate_left
    · (intro wx hSx; go_simp; all_goals with_reducible rfl)
    simp only [Act.put, Rg.e1, Rg.e2, Rg.e3, Rg.e4, Rg.e5, Rg.e6]
    refine Rg.tk 14 (v := ?_) ?_ ?_
    rotate_left
    · (intro wx hSx; go_simp; all_goals with_reducible rfl)
    simp only [Act.put, Rg.e1, Rg.e2, Rg.e3, Rg.e4, Rg.e5, Rg.e6]
    refine Rg.tk 15 (v := ?_) ?_ ?_
    rotate_left
    · intro wx hSx
      obtain ⟨_, _, _, g0, g1, g2, g3⟩ := hSx.2; go_simp
      all_goals with_reducible rfl
    simp only [Act.put, Rg.e1, Rg.e2, Rg.e3, Rg.e4, Rg.e5, Rg.e6]
    refine Rg.tk 16 (v := ?_) ?_ ?_
    rotate_left
    · (intro wx hSx; go_simp; all_goals with_reducible rfl)
    simp only [Act.put, Rg.e1, Rg.e2, Rg.e3, Rg.e4, Rg.e5, Rg.e6]
    refine Rg.tk 17 (v := ?_) ?_ ?_
    rotate_left
    · (intro wx hSx; go_simp; all_goals with_reducible rfl)
    simp only [Act.put, Rg.e1, Rg.e2, Rg.e3, Rg.e4, Rg.e5, Rg.e6]
    refine wpAnyH_ready (rs := [3, 20]) (by kernel_rfl) (by simp) ?_
    refine .cons (o := _) rfl (fun K hK => ?_) ?_
    · go_simp
      refine (lv_true _).mono ?_
      rintro x wd ⟨rfl, rfl⟩
      have hbc := Below.refl wd.heap.size wd
      go_wp2_with fail
      refine Rg.st_call hK hHeld KS.out HBR.out hbc ?_
      clear hK K
      intro hHeld hbr
      have HBR := Lib.hid hbr
      clear hbr hbc
      try simp only [Rg.e1, Rg.e2, Rg.e3]
      refine Rg.tk 4 (v := ?_) ?_ ?_
      rotate_left
      · (intro wx hSx; go_simp; all_goals with_reducible rfl)
      simp only [Act.put, Rg.e1, Rg.e2, Rg.e3, Rg.e4, Rg.e5, Rg.e6]
      refine wpAnyH_ready (rs := [18, 20]) (by kernel_rfl) (by simp) ?_
      refine .cons (o := _) rfl (fun K hK => ?_) ?_
      · go_simp
        refine (name_at rest _ HNM.out).mono ?_
        rintro x wr2 ⟨rfl, hbc⟩
        go_wp2_with fail
        refine Rg.st_call hK hHeld KS.out HBR.out hbc ?_
        clear hK K
        intro hHeld hbr
        have HBR := Lib.hid hbr
        clear hbr hbc
        try simp only [Rg.e1, Rg.e2, Rg.e3]
        refine Rg.tk 19 (v := ?_) ?_ ?_
        rotate_left
        · (intro wx hSx; go_simp; all_goals with_reducible rfl)
        simp only [Act.put, Rg.e1, Rg.e2, Rg.e3, Rg.e4, Rg.e5, Rg.e6]
        refine wpAnyH_ready (rs := [20]) (by kernel_rfl) (by simp) ?_
        refine .cons (o := _) rfl (fun K hK => ?_) ?_
        · go_simp
          refine Rg.st_mk hK hHeld KS.out HBR.out ?_
          clear hK K
          have HGA := Lib.hid (show w.heap.size < _ ∧ w5.heap.size ≤ _ from ⟨hHeld.1.lt, hHeld.2.1⟩)
          intro wr3 hlt hHeld hblk hbr
          have HBR := Lib.hid hbr
          have HA := Lib.hid hblk
          clear hbr hblk hlt
          try simp only [Rg.e1, Rg.e2, Rg.e3]
          refine wpAnyH_ready (rs := [21]) (by kernel_rfl) (by simp) ?_
          refine .cons (o := _) rfl (fun K hK => ?_) ?_
          · obtain ⟨i0, i1, i2, i3, i4, j0, j1, j2, j3, j4⟩ := Rw5.row HA.out
            go_simp
            refine hK.out _ _ ⟨Rw5.far hHeld.1 (Nat.ne_of_lt HGA.out.1) _ _ _ _ _, st4_set hHeld.2 HGA.out.2 _ _ _ _ _⟩ (fun hHeld => ?_)
            clear hK K
            try simp only [Rg.e1, Rg.e2, Rg.e3]
            refine wpAnyH_done (by kernel_rfl) ?_ _
            go_wp2_with fail
            go_meet
            exact ⟨_, rfl, hHeld.1, Rw5.blk_set HA.out _ _ _ _ _, Rw5.below_set HBR.out (Nat.le_of_lt HGA.out.1) _ _ _ _ _⟩
          exact AllReadyH.nil
        exact AllReadyH.nil
      refine .cons (o := _) rfl (fun K hK => ?_) ?_
      · go_simp
        refine Rg.st_mk hK hHeld KS.out HBR.out ?_
        clear hK K
        have HGA := Lib.hid (show w.heap.size < _ ∧ w5.heap.size ≤ _ from ⟨hHeld.1.lt, hHeld.2.1⟩)
        intro wr5 hlt hHeld hblk hbr
        have HBR := Lib.hid hbr
        have HA := Lib.hid hblk
        clear hbr hblk hlt
        try simp only [Rg.e1, Rg.e2, Rg.e3]
        refine wpAnyH_ready (rs := [18]) (by kernel_rfl) (by simp) ?_
        refine .cons (o := _) rfl (fun K hK => ?_) ?_
        · go_simp
          refine (name_at rest _ HNM.out).mono ?_
          rintro x wr6 ⟨rfl, hbc⟩
          go_wp2_with fail
          have HA := Lib.hid (HA.out.below hbc HA.out.lt)
          refine Rg.st_call hK hHeld KS.out HBR.out hbc ?_
          clear hK K
          intro hHeld hbr
          have HBR := Lib.hid hbr
          clear hbr hbc
          try simp only [Rg.e1, Rg.e2, Rg.e3]
          refine Rg.tk 19 (v := ?_) ?_ ?_
          rotate_left
          · (intro wx hSx; go_simp; all_goals with_reducible rfl)
          simp only [Act.put, Rg.e1, Rg.e2, Rg.e3, Rg.e4, Rg.e5, Rg.e6]
          refine wpAnyH_ready (rs := [21]) (by kernel_rfl) (by simp) ?_
          refine .cons (o := _) rfl (fun K hK => ?_) ?_
          · obtain ⟨i0, i1, i2, i3, i4, j0, j1, j2, j3, j4⟩ := Rw5.row HA.out
            go_simp
            refine hK.out _ _ ⟨Rw5.far hHeld.1 (Nat.ne_of_lt HGA.out.1) _ _ _ _ _, st4_set hHeld.2 HGA.out.2 _ _ _ _ _⟩ (fun hHeld => ?_)
            clear hK K
            try simp only [Rg.e1, Rg.e2, Rg.e3]
            refine wpAnyH_done (by kernel_rfl) ?_ _
            go_wp2_with fail
            go_meet
            exact ⟨_, rfl, hHeld.1, Rw5.blk_set HA.out _ _ _ _ _, Rw5.below_set HBR.out (Nat.le_of_lt HGA.out.1) _ _ _ _ _⟩
          exact AllReadyH.nil
        exact AllReadyH.nil
      exact AllReadyH.nil
    refine .cons (o := _) rfl (fun K hK => ?_) ?_
    · go_simp
      refine Rg.st_mk hK hHeld KS.out HBR.out ?_
      clear hK K
      have HGA := Lib.hid (show w.heap.size < _ ∧ w5.heap.size ≤ _ from ⟨hHeld.1.lt, hHeld.2.1⟩)
      intro wr8 hlt hHeld hblk hbr
      have HBR := Lib.hid hbr
      have HA := Lib.hid hblk
      clear hbr hblk hlt
      try simp only [Rg.e1, Rg.e2, Rg.e3]
      refine wpAnyH_ready (rs := [3]) (by kernel_rfl) (by simp) ?_
      refine .cons (o := _) rfl (fun K hK => ?_) ?_
      · go_simp
        refine (lv_true _).mono ?_
        rintro x wr8 ⟨rfl, rfl⟩
        have hbc := Below.refl wr8.heap.size wr8
        go_wp2_with fail
        refine Rg.st_call hK hHeld KS.out HBR.out hbc ?_
        clear hK K
        intro hHeld hbr
        have HBR := Lib.hid hbr
        clear hbr hbc
        try simp only [Rg.e1, Rg.e2, Rg.e3]
        refine Rg.tk 4 (v := ?_) ?_ ?_
        rotate_left
        · (intro wx hSx; go_simp; all_goals with_reducible rfl)
        simp only [Act.put, Rg.e1, Rg.e2, Rg.e3, Rg.e4, Rg.e5, Rg.e6]
        refine wpAnyH_ready (rs := [18]) (by kernel_rfl) (by simp) ?_
        refine .cons (o := _) rfl (fun K hK => ?_) ?_
        · go_simp
          refine (name_at rest _ HNM.out).mono ?_
          rintro x wr10 ⟨rfl, hbc⟩
          go_wp2_with fail
          have HA := Lib.hid (HA.out.below hbc HA.out.lt)
          refine Rg.st_call hK hHeld KS.out HBR.out hbc ?_
          clear hK K
          intro hHeld hbr
          have HBR := Lib.hid hbr
          clear hbr hbc
          try simp only [Rg.e1, Rg.e2, Rg.e3]
          refine Rg.tk 19 (v := ?_) ?_ ?_
          rotate_left
          · (intro wx hSx; go_simp; all_goals with_reducible rfl)
          simp only [Act.put, Rg.e1, Rg.e2, Rg.e3, Rg.e4, Rg.e5, Rg.e6]
          refine wpAnyH_ready (rs := [21]) (by kernel_rfl) (by simp) ?_
          refine .cons (o := _) rfl (fun K hK => ?_) ?_
          · obtain ⟨i0, i1, i2, i3, i4, j0, j1, j2, j3, j4⟩ := Rw5.row HA.out
            go_simp
            refine hK.out _ _ ⟨Rw5.far hHeld.1 (Nat.ne_of_lt HGA.out.1) _ _ _ _ _, st4_set hHeld.2 HGA.out.2 _ _ _ _ _⟩ (fun hHeld => ?_)
            clear hK K
            try simp only [Rg.e1, Rg.e2, Rg.e3]
            refine wpAnyH_done (by kernel_rfl) ?_ _
            go_wp2_with fail
            go_meet
            exact ⟨_, rfl, hHeld.1, Rw5.blk_set HA.out _ _ _ _ _, Rw5.below_set HBR.out (Nat.le_of_lt HGA.out.1) _ _ _ _ _⟩
          exact AllReadyH.nil
        exact AllReadyH.nil
      exact AllReadyH.nil
    exact AllReadyH.nil
  case rest =>
    obtain ⟨g, rfl, hk9, hx9, hb9⟩ := hcut
    have HK9 := Lib.hid hk9
    have HX9 := Lib.hid hx9
    have HB9 := Lib.hid hb9
    clear hk9 hx9 hb9 hb2 k0 k5 k6 e0 e1 e2 f0 f1 f2 c0 c1 c2 c3 c4 w0' w1' w2' w3' w4'
    obtain ⟨i0, i1, i2, i3, i4, _⟩ := Rw5.row HX9.out
    go_wp2_with fail
    refine (wrong_at b2 x2 y0 y2 nm lv _ HW.out).mono ?_
    rintro x w6 ⟨rfl, hb6⟩
    have HX6 := Lib.hid (HX9.out.below hb6 HX9.out.lt)
    have HK6 := Lib.hid (HK9.out.below hb6 HK9.out.lt)
    have HB6 := Lib.hid (HB9.out.trans (hb6.mono HB9.out.size))
    clear hb6 i0 i1 i2 i3 i4
    obtain ⟨i0, i1, i2, i3, i4, _⟩ := Rw5.row HX6.out
    obtain ⟨c0, c1, c2, c3, c4, y0', y1', y2', y3', y4'⟩ := Rw5.row HK6.out
    go_wp2
    (try simp only [Exit.inBlock, Exit.then]); refine bodyPost_ret (results_row2 rfl _ _ w.heap.size 48 _ (0, 0) _ rfl (Rw5.blk_set HK6.out _ _ _ _ _) Try.underlying48 rfl info_cmsg) rfl ?_
    exact ⟨rfl, Rw5.below_set HB6.out (Nat.le_refl _) _ _ _ _ _⟩
end Go.Proofs.Ytlbnigdindpnfaa.Cc
