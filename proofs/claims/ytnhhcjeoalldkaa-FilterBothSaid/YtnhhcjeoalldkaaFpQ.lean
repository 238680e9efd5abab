/-
  Filter: the walk of FilterBoth.
-/
import Derived.Test.YtnhhcjeoalldkaaFpB
namespace Go.Proofs.Ytnhhcjeoalldkaa.Fp
open Go.RowKit Go.Proofs.Ytnhhcjeoalldkaa.Bt Go.Proofs.Ytnhhcjeoalldkaa.Mm Go.Proofs.Ytnhhcjeoalldkaa.Fl Go.Proofs.Ytnhhcjeoalldkaa.Rf Go.Proofs.Ytnhhcjeoalldkaa.Tg
set_option linter.unusedVariables false
set_option linter.unusedSimpArgs false

set_option maxRecDepth 100000 in
set_option maxHeartbeats 4000000 in
theorem both_walk (a b : Bool) (i p : Int) (w : World) (hi : (Lit.int .i64 i).wf = true) (hp : (Lit.int .i64 p).wf = true) : Calls Try.prog 4 #[.bool a, .bool b, .int .i64 i, .int .i64 p] w fun e w' => e = .returned (.bool true) ∧ Below w.heap.size w w' := by
  clear hi hp
  obtain ⟨d, hd⟩ : ∃ y, daF a b i p = y := ⟨_, rfl⟩
  obtain ⟨r, hr⟩ : ∃ y, rgF a b i p = y := ⟨_, rfl⟩
  have hd2 : daF a b p i = d := by rw [← hd]; exact da_comm a b i p
  have hr2 : rgF a b p i = r := by rw [← hr]; exact rg_comm a b i p
  have HD := Lib.hid hd
  have HR := Lib.hid hr
  have HD2 := Lib.hid hd2
  have HR2 := Lib.hid hr2
  have HSE := Lib.hid (da_self a b i)
  clear hd hr hd2 hr2
  have ed : (d != d) = false := by simp
  have er : (r != r) = false := by simp
  have HA0 := Lib.hid (blk_put (Blk.fresh w 22 (shC false false)) (shC a b))
  have HB0 := Lib.hid (below_put ((Below.refl w.heap.size w).alloc (Nat.le_refl _) (.cells (shC false false) 22)) (Nat.le_refl _) (shC a b))
  go_enter Try.func4, Try.ntmps4
  go_upto_region 2 with ((refine wpList_store_row rfl 22 _ _ rfl _ (shC a b) rfl rfl _ _ (Blk.fresh w 22 (shC false false)) (info_sh a b) rfl (one_sh a b) ?_))
  generalize (w.alloc (.cells (shC false false) 22)).setRow w.heap.size (shC a b) = w0 at HA0 HB0 ⊢
  obtain ⟨wa, hwa⟩ : ∃ wa, wa = w0.drew := ⟨_, rfl⟩
  have HBR := Lib.hid (show Below w.heap.size w wa by rw [hwa]; exact HB0.out.drew)
  have KS := Lib.hid (Rg.Keeps.one w.heap.size 22 (shC a b))
  refine wp_region_held_drew (S := fun wz => Blk wz w.heap.size 22 (shC a b)) (by kernel_rfl) HA0.out (fun hHeld => ?_)
  rw [← hwa] at hHeld ⊢
  clear hwa
  refine wpAnyH_take (i := 0) (oi := _) (v := shV a b) rfl (by kernel_rfl) (by kernel_rfl) (by kernel_rfl) (fun _ _ _ h => h) (ld_sh (by rfl) (.tmp 9) rfl w.heap.size rfl (fun _ hSx => hSx)) (by assumption) ?_
  simp only [Act.put, Rg.e1, Rg.e2, Rg.e3, Rg.e4, Rg.e5, Rg.e6]
  refine Rg.tk 1 (v := ?_) ?_ ?_
  rotate_left
  · (intro wx hSx; go_simp; all_goals with_reducible rfl)
  simp only [Act.put, Rg.e1, Rg.e2, Rg.e3, Rg.e4, Rg.e5, Rg.e6]
  refine Rg.tk 2 (v := ?_) ?_ ?_
  rotate_left
  · (intro wx hSx; go_simp; all_goals with_reducible rfl)
  simp only [Act.put, Rg.e1, Rg.e2, Rg.e3, Rg.e4, Rg.e5, Rg.e6]
  refine wpAnyH_take (i := 4) (oi := _) (v := shV a b) rfl (by kernel_rfl) (by kernel_rfl) (by kernel_rfl) (fun _ _ _ h => h) (ld_sh (by rfl) (.tmp 9) rfl w.heap.size rfl (fun _ hSx => hSx)) (by assumption) ?_
  simp only [Act.put, Rg.e1, Rg.e2, Rg.e3, Rg.e4, Rg.e5, Rg.e6]
  refine Rg.tk 5 (v := ?_) ?_ ?_
  rotate_left
  · (intro wx hSx; go_simp; all_goals with_reducible rfl)
  simp only [Act.put, Rg.e1, Rg.e2, Rg.e3, Rg.e4, Rg.e5, Rg.e6]
  refine Rg.tk 6 (v := ?_) ?_ ?_
  rotate_left
  · (intro wx hSx; go_simp; all_goals with_reducible rfl)
  simp only [Act.put, Rg.e1, Rg.e2, Rg.e3, Rg.e4, Rg.e5, Rg.e6]
  refine wpAnyH_ready (rs := [3]) (by kernel_rfl) (by simp) ?_
  refine .cons (o := _) rfl (fun K hK => ?_) ?_
  · go_simp
    refine (data_t a b i p d wa HD).mono ?_
    rintro en wr1 ⟨rfl, hbc⟩
    go_wp2_with fail
    refine Rg.st_call hK hHeld KS.out HBR.out hbc ?_
    clear hK K
    intro hHeld hbr
    have HBR := Lib.hid hbr
    clear hbr hbc
    try simp only [Rg.e1, Rg.e2, Rg.e3]
    refine wpAnyH_ready (rs := [7]) (by kernel_rfl) (by simp) ?_
    refine .cons (o := _) rfl (fun K hK => ?_) ?_
    · go_simp
      refine (data_t a b p i d wr1 HD2).mono ?_
      rintro en wr2 ⟨rfl, hbc⟩
      go_wp2_with fail
      refine Rg.st_call hK hHeld KS.out HBR.out hbc ?_
      clear hK K
      intro hHeld hbr
      have HBR := Lib.hid hbr
      clear hbr hbc
      try simp only [Rg.e1, Rg.e2, Rg.e3]
      refine Rg.tk 8 (v := ?_) ?_ ?_
      rotate_left
      · (intro wx hSx; go_simp; all_goals with_reducible rfl)
      simp only [Act.put, Rg.e1, Rg.e2, Rg.e3, Rg.e4, Rg.e5, Rg.e6]
      refine Rg.tk 9 (v := ?_) ?_ ?_
      rotate_left
      · (intro wx hSx; go_simp; all_goals with_reducible rfl)
      simp only [Act.put, Rg.e1, Rg.e2, Rg.e3, Rg.e4, Rg.e5, Rg.e6]
      refine wpAnyH_take (i := 10) (oi := _) (v := shV a b) rfl (by kernel_rfl) (by kernel_rfl) (by kernel_rfl) (fun _ _ _ h => h) (ld_sh (by rfl) (.tmp 9) rfl w.heap.size rfl (fun _ hSx => hSx)) (by assumption) ?_
      simp only [Act.put, Rg.e1, Rg.e2, Rg.e3, Rg.e4, Rg.e5, Rg.e6]
      refine Rg.tk 11 (v := ?_) ?_ ?_
      rotate_left
      · (intro wx hSx; go_simp; all_goals with_reducible rfl)
      simp only [Act.put, Rg.e1, Rg.e2, Rg.e3, Rg.e4, Rg.e5, Rg.e6]
      refine Rg.tk 12 (v := ?_) ?_ ?_
      rotate_left
      · (intro wx hSx; go_simp; all_goals with_reducible rfl)
      simp only [Act.put, Rg.e1, Rg.e2, Rg.e3, Rg.e4, Rg.e5, Rg.e6]
      refine wpAnyH_take (i := 14) (oi := _) (v := shV a b) rfl (by kernel_rfl) (by kernel_rfl) (by kernel_rfl) (fun _ _ _ h => h) (ld_sh (by rfl) (.tmp 9) rfl w.heap.size rfl (fun _ hSx => hSx)) (by assumption) ?_
      simp only [Act.put, Rg.e1, Rg.e2, Rg.e3, Rg.e4, Rg.e5, Rg.e6]
      refine Rg.tk 15 (v := ?_) ?_ ?_
      rotate_left
      · (intro wx hSx; go_simp; all_goals with_reducible rfl)
      simp only [Act.put, Rg.e1, Rg.e2, Rg.e3, Rg.e4, Rg.e5, Rg.e6]
      refine Rg.tk 16 (v := ?_) ?_ ?_
      rotate_left
      · (intro wx hSx; go_simp; all_goals with_reducible rfl)
      simp only [Act.put, Rg.e1, Rg.e2, Rg.e3, Rg.e4, Rg.e5, Rg.e6]
      refine wpAnyH_ready (rs := [13]) (by kernel_rfl) (by simp) ?_
      refine .cons (o := _) rfl (fun K hK => ?_) ?_
      · go_simp
        refine (ring_t a b i p r wr2 HR).mono ?_
        rintro en wr3 ⟨rfl, hbc⟩
        go_wp2_with fail
        refine Rg.st_call hK hHeld KS.out HBR.out hbc ?_
        clear hK K
        intro hHeld hbr
        have HBR := Lib.hid hbr
        clear hbr hbc
        try simp only [Rg.e1, Rg.e2, Rg.e3]
        refine wpAnyH_ready (rs := [17]) (by kernel_rfl) (by simp) ?_
        refine .cons (o := _) rfl (fun K hK => ?_) ?_
        · go_simp
          refine (ring_t a b p i r wr3 HR2).mono ?_
          rintro en wr4 ⟨rfl, hbc⟩
          go_wp2_with fail
          refine Rg.st_call hK hHeld KS.out HBR.out hbc ?_
          clear hK K
          intro hHeld hbr
          have HBR := Lib.hid hbr
          clear hbr hbc
          try simp only [Rg.e1, Rg.e2, Rg.e3]
          refine Rg.tk 18 (v := ?_) ?_ ?_
          rotate_left
          · (intro wx hSx; go_simp; all_goals with_reducible rfl)
          simp only [Act.put, Rg.e1, Rg.e2, Rg.e3, Rg.e4, Rg.e5, Rg.e6]
          refine Rg.tk 19 (v := ?_) ?_ ?_
          rotate_left
          · (intro wx hSx; go_simp; all_goals with_reducible rfl)
          simp only [Act.put, Rg.e1, Rg.e2, Rg.e3, Rg.e4, Rg.e5, Rg.e6]
          refine wpAnyH_done (by kernel_rfl) ?_ _
          have HA := Lib.hid hHeld
          clear hHeld KS
          have HB := Lib.hid HBR.out
          clear HBR
          go_upto_region 4 with (fail)
          cases a
          · cases b
            · have H01 := Lib.hid (show rgF false false 0 1 = true by rfl)
              go_wp2_with fail
              refine (awake18 wr4).mono ?_
              rintro en wx1 ⟨rfl, hbc⟩
              have HA1 := Lib.hid (HA.out.below hbc HA.out.lt)
              have HB1 := Lib.hid (HB.out.trans (hbc.mono HB.out.size))
              clear hbc
              go_wp2_with (refine wpList_loadS rfl _ rfl _ rfl _ _ HA1.out ?_)
              refine (ring_t _ _ 0 1 _ wx1 H01).mono ?_
              rintro en wx2 ⟨rfl, hbc⟩
              have HA2 := Lib.hid (HA1.out.below hbc HA1.out.lt)
              have HB2 := Lib.hid (HB1.out.trans (hbc.mono HB1.out.size))
              clear hbc
              go_wp2_with (refine wpList_loadS rfl _ rfl _ rfl _ _ HA2.out ?_)
              refine (data_t _ _ i i _ wx2 HSE).mono ?_
              rintro en wx3 ⟨rfl, hbc⟩
              have HA3 := Lib.hid (HA2.out.below hbc HA2.out.lt)
              have HB3 := Lib.hid (HB2.out.trans (hbc.mono HB2.out.size))
              clear hbc
              go_wp2
              go_ret
              exact ⟨rfl, HB3.out⟩
            · have H01 := Lib.hid (show rgF false true 0 1 = false by rfl)
              have HRF := Lib.hid (show rgF false true i p = false from rg_shut rfl i p)
              go_wp2_with fail
              refine (awake18 wr4).mono ?_
              rintro en wx1 ⟨rfl, hbc⟩
              have HA1 := Lib.hid (HA.out.below hbc HA.out.lt)
              have HB1 := Lib.hid (HB.out.trans (hbc.mono HB.out.size))
              clear hbc
              go_wp2_with (refine wpList_loadS rfl _ rfl _ rfl _ _ HA1.out ?_)
              refine (ring_t _ _ 0 1 _ wx1 H01).mono ?_
              rintro en wx2 ⟨rfl, hbc⟩
              have HA2 := Lib.hid (HA1.out.below hbc HA1.out.lt)
              have HB2 := Lib.hid (HB1.out.trans (hbc.mono HB1.out.size))
              clear hbc
              go_wp2_with (refine wpList_loadS rfl _ rfl _ rfl _ _ HA2.out ?_)
              refine (ring_t _ _ i p _ wx2 HRF).mono ?_
              rintro en wx3 ⟨rfl, hbc⟩
              have HA3 := Lib.hid (HA2.out.below hbc HA2.out.lt)
              have HB3 := Lib.hid (HB2.out.trans (hbc.mono HB2.out.size))
              clear hbc
              go_wp2_with (refine wpList_loadS rfl _ rfl _ rfl _ _ HA3.out ?_)
              refine (data_t _ _ i i _ wx3 HSE).mono ?_
              rintro en wx4 ⟨rfl, hbc⟩
              have HA4 := Lib.hid (HA3.out.below hbc HA3.out.lt)
              have HB4 := Lib.hid (HB3.out.trans (hbc.mono HB3.out.size))
              clear hbc
              go_wp2
              go_ret
              exact ⟨rfl, HB4.out⟩
          · have H01 := Lib.hid (show rgF true b 0 1 = false by exact rg_shut rfl 0 1)
            have HRF := Lib.hid (show rgF true b i p = false from rg_shut rfl i p)
            go_wp2_with fail
            refine (awake18 wr4).mono ?_
            rintro en wx1 ⟨rfl, hbc⟩
            have HA1 := Lib.hid (HA.out.below hbc HA.out.lt)
            have HB1 := Lib.hid (HB.out.trans (hbc.mono HB.out.size))
            clear hbc
            go_wp2_with (refine wpList_loadS rfl _ rfl _ rfl _ _ HA1.out ?_)
            refine (ring_t _ _ 0 1 _ wx1 H01).mono ?_
            rintro en wx2 ⟨rfl, hbc⟩
            have HA2 := Lib.hid (HA1.out.below hbc HA1.out.lt)
            have HB2 := Lib.hid (HB1.out.trans (hbc.mono HB1.out.size))
            clear hbc
            go_wp2_with (refine wpList_loadS rfl _ rfl _ rfl _ _ HA2.out ?_)
            refine (ring_t _ _ i p _ wx2 HRF).mono ?_
            rintro en wx3 ⟨rfl, hbc⟩
            have HA3 := Lib.hid (HA2.out.below hbc HA2.out.lt)
            have HB3 := Lib.hid (HB2.out.trans (hbc.mono HB2.out.size))
            clear hbc
            go_wp2_with (refine wpList_loadS rfl _ rfl _ rfl _ _ HA3.out ?_)
            refine (data_t _ _ i i _ wx3 HSE).mono ?_
            rintro en wx4 ⟨rfl, hbc⟩
            have HA4 := Lib.hid (HA3.out.below hbc HA3.out.lt)
            have HB4 := Lib.hid (HB3.out.trans (hbc.mono HB3.out.size))
            clear hbc
            go_wp2
            go_ret
            exact ⟨rfl, HB4.out⟩
        exact AllReadyH.nil
      exact AllReadyH.nil
    exact AllReadyH.nil
  exact AllReadyH.nil
end Go.Proofs.Ytnhhcjeoalldkaa.Fp
