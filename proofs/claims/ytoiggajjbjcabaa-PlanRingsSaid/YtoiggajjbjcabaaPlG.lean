/-
  Plan: the example; an argument that is a plan, opened; what is wrong with any plan is the document's.
-/
import Derived.Test.YtoiggajjbjcabaaPlF
import Derived.Test.YtoiggajjbjcabaaOpen
namespace Go.Proofs.Ytoiggajjbjcabaa.Pn
open Go.RowKit Go.Proofs.Ytoiggajjbjcabaa.Bt Go.Proofs.Ytoiggajjbjcabaa.Mm Go.Proofs.Ytoiggajjbjcabaa.Fl Go.Proofs.Ytoiggajjbjcabaa.Tg
set_option linter.unusedVariables false

set_option maxRecDepth 100000 in
set_option maxHeartbeats 2000000 in
theorem awake16 (w : World) : Calls Try.prog 6 #[] w fun x w' => x = .returned (.bool true) ∧ Below w.heap.size w w' := by
  go_enter Try.func6, Try.ntmps6
  go_wp2_with fail
  refine (ex_at w).mono ?_
  rintro x w1 ⟨rfl, hb⟩
  have HB1 := Lib.hid hb
  clear hb
  go_upto_region 2 with ((refine wpList_store_row rfl 24 _ _ rfl _ (plC pEx) rfl rfl _ _ (Blk.fresh w1 24 zP) (info_p _) rfl (one_p _) ?_))
  have HA := Lib.hid (blk_put (Blk.fresh w1 24 zP) (plC pEx))
  have HB2 := Lib.hid (below_put (HB1.out.alloc HB1.out.size (.cells zP 24)) HB1.out.size (plC pEx))
  generalize (w1.alloc (.cells zP 24)).setRow w1.heap.size (plC pEx) = w2 at HA HB2 ⊢
  go_wp2_with (refine wpList_loadG rfl 24 _ rfl _ rfl _ (plC _) _ _ HA.out Try.underlying24 rfl (info_p _) ?_)
  refine (far_at pEx 3 1 w2 pw_ex far_ex).mono ?_
  rintro x w3 ⟨rfl, hb⟩
  have HA3 := Lib.hid (HA.out.below hb HA.out.lt)
  have HB3 := Lib.hid (HB2.out.trans (hb.mono HB2.out.size))
  clear hb
  go_wp2_with fail
  refine (Mc.awake2 w3).mono ?_
  rintro x w4 ⟨rfl, hb⟩
  have HA4 := Lib.hid (HA3.out.below hb HA3.out.lt)
  have HB4 := Lib.hid (HB3.out.trans (hb.mono HB3.out.size))
  clear hb
  go_wp2_with fail
  refine (Cc.awake6 w4).mono ?_
  rintro x w5 ⟨rfl, hb⟩
  have HA5 := Lib.hid (HA4.out.below hb HA4.out.lt)
  have HB5 := Lib.hid (HB4.out.trans (hb.mono HB4.out.size))
  clear hb
  go_wp2_with (refine wpList_loadG rfl 24 _ rfl _ rfl _ (plC _) _ _ HA5.out Try.underlying24 rfl (info_p _) ?_)
  refine (check_0 pEx w5 pw_ex chk_ex).mono ?_
  rintro x w6 ⟨rfl, hb⟩
  have HB6 := Lib.hid (HB5.out.trans (hb.mono HB5.out.size))
  clear hb
  go_wp2
  go_ret
  exact ⟨rfl, HB6.out⟩
set_option maxRecDepth 100000 in
set_option maxHeartbeats 2000000 in
theorem checks_walk (p : Pl) (w : World) (hp : Pw p) : Calls Try.prog 3 #[plV p] w fun x w' => x = .returned (.bool true) ∧ Below w.heap.size w w' := by
  have HP := Lib.hid hp
  clear hp
  obtain ⟨c, hc⟩ : ∃ c, chk p = c := ⟨_, rfl⟩
  have HC := Lib.hid hc
  clear hc
  have HA := Lib.hid (Blk.fresh w 24 (plC p))
  have HB := Lib.hid ((Below.refl w.heap.size w).alloc (Nat.le_refl _) (.cells (plC p) 24))
  go_enter Try.func3, Try.ntmps3
  go_upto_region 1 with (fail)
  generalize w.alloc (.cells (plC p) 24) = w0 at HA HB ⊢
  obtain ⟨wa, hwa⟩ : ∃ wa, wa = w0.drew := ⟨_, rfl⟩
  have HBR := Lib.hid (show Below w.heap.size w wa by rw [hwa]; exact HB.out.drew)
  have KS := Lib.hid (Rg.Keeps.one w.heap.size 24 (plC p))
  refine wp_region_held_drew (S := fun wz => Blk wz w.heap.size 24 (plC p)) (by kernel_rfl) HA.out (fun hHeld => ?_)
  rw [← hwa] at hHeld ⊢
  clear hwa
  refine wpAnyH_ready (rs := [0]) (by kernel_rfl) (by simp) ?_
  refine .cons (o := _) rfl (fun K hK => ?_) ?_
  · go_simp
    refine (awake16 wa).mono ?_
    rintro en wr1 ⟨rfl, hbc⟩
    go_wp2_with fail
    refine Rg.st_call hK hHeld KS.out HBR.out hbc ?_
    clear hK K
    intro hHeld hbr
    have HBR := Lib.hid hbr
    clear hbr hbc
    try simp only [Rg.e1, Rg.e2, Rg.e3]
    refine Rg.tk 1 (v := ?_) ?_ ?_
    rotate_left
    · (intro wx hSx; go_simp; all_goals with_reducible rfl)
    simp only [Act.put, Rg.e1, Rg.e2, Rg.e3, Rg.e4, Rg.e5, Rg.e6]
    refine wpAnyH_take (i := 2) (oi := _) (v := .agg (plC p)) rfl (by kernel_rfl) (by kernel_rfl) (by kernel_rfl) (fun _ _ _ h => h) (ld_p (by rfl) (.tmp 1) rfl w.heap.size rfl (fun _ hSx => hSx)) (by assumption) ?_
    simp only [Act.put, Rg.e1, Rg.e2, Rg.e3, Rg.e4, Rg.e5, Rg.e6]
    refine wpAnyH_take (i := 4) (oi := _) (v := .agg (plC p)) rfl (by kernel_rfl) (by kernel_rfl) (by kernel_rfl) (fun _ _ _ h => h) (ld_p (by rfl) (.tmp 1) rfl w.heap.size rfl (fun _ hSx => hSx)) (by assumption) ?_
    simp only [Act.put, Rg.e1, Rg.e2, Rg.e3, Rg.e4, Rg.e5, Rg.e6]
    refine wpAnyH_ready (rs := [3]) (by kernel_rfl) (by simp) ?_
    refine .cons (o := _) rfl (fun K hK => ?_) ?_
    · go_simp
      refine (check_at p wr1 HC.out).mono ?_
      rintro en wr2 ⟨rfl, hbc⟩
      go_wp2_with fail
      refine Rg.st_call hK hHeld KS.out HBR.out hbc ?_
      clear hK K
      intro hHeld hbr
      have HBR := Lib.hid hbr
      clear hbr hbc
      try simp only [Rg.e1, Rg.e2, Rg.e3]
      refine wpAnyH_ready (rs := [5]) (by kernel_rfl) (by simp) ?_
      refine .cons (o := _) rfl (fun K hK => ?_) ?_
      · go_simp
        refine (of_at p wr2).mono ?_
        rintro en wr3 ⟨rfl, hbc⟩
        go_wp2_with fail
        refine Rg.st_call hK hHeld KS.out HBR.out hbc ?_
        clear hK K
        intro hHeld hbr
        have HBR := Lib.hid hbr
        clear hbr hbc
        try simp only [Rg.e1, Rg.e2, Rg.e3]
        refine wpAnyH_ready (rs := [6]) (by kernel_rfl) (by simp) ?_
        refine .cons (o := _) rfl (fun K hK => ?_) ?_
        · go_simp
          refine (rcheck_at p wr3 HP.out HC.out).mono ?_
          rintro en wr4 ⟨rfl, hbc⟩
          go_wp2_with fail
          refine Rg.st_call hK hHeld KS.out HBR.out hbc ?_
          clear hK K
          intro hHeld hbr
          have HBR := Lib.hid hbr
          clear hbr hbc
          try simp only [Rg.e1, Rg.e2, Rg.e3]
          refine Rg.tk 7 (v := ?_) ?_ ?_
          rotate_left
          · (intro wx hSx; go_simp; all_goals with_reducible rfl)
          simp only [Act.put, Rg.e1, Rg.e2, Rg.e3, Rg.e4, Rg.e5, Rg.e6]
          refine Rg.tk 8 (v := ?_) ?_ ?_
          rotate_left
          · (intro wx hSx; go_simp; all_goals with_reducible rfl)
          simp only [Act.put, Rg.e1, Rg.e2, Rg.e3, Rg.e4, Rg.e5, Rg.e6]
          refine Rg.tk 9 (v := ?_) ?_ ?_
          rotate_left
          · (intro wx hSx; go_simp; all_goals with_reducible rfl)
          simp only [Act.put, Rg.e1, Rg.e2, Rg.e3, Rg.e4, Rg.e5, Rg.e6]
          refine wpAnyH_done (by kernel_rfl) ?_ _
          go_wp2
          go_ret
          exact ⟨rfl, HBR.out⟩
        exact AllReadyH.nil
      exact AllReadyH.nil
    exact AllReadyH.nil
  exact AllReadyH.nil
end Go.Proofs.Ytoiggajjbjcabaa.Pn
