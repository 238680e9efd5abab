/-
  Plan: addresses, roles, far ends and ends of any plan are the document's: the walk.
-/
import Derived.Test.YtoiggajjbjcabaaPlG
namespace Go.Proofs.Ytoiggajjbjcabaa.Pn
open Go.RowKit Go.Proofs.Ytoiggajjbjcabaa.Bt Go.Proofs.Ytoiggajjbjcabaa.Mm Go.Proofs.Ytoiggajjbjcabaa.Fl Go.Proofs.Ytoiggajjbjcabaa.Tg
set_option linter.unusedVariables false

set_option maxRecDepth 100000 in
set_option maxHeartbeats 2000000 in
theorem tells_walk (p : Pl) (i port : Int) (w : World) (hp : Pw p) (hi : (Lit.int .i64 i).wf = true) (hq : (Lit.int .i64 port).wf = true) : Calls Try.prog 4 #[plV p, .int .i64 i, .int .i64 port] w fun x w' => x = .returned (.bool true) ∧ Below w.heap.size w w' := by
  clear hi hq
  have HP := Lib.hid hp
  clear hp
  obtain ⟨a1, a2, ha⟩ : ∃ x y, roleR p i = (x, y) := ⟨_, _, rfl⟩
  have HHA := Lib.hid ha
  clear ha
  obtain ⟨b1, b2, hb⟩ : ∃ x y, farR p i port = (x, y) := ⟨_, _, rfl⟩
  have HHB := Lib.hid hb
  clear hb
  obtain ⟨nd, hnd⟩ : ∃ x, addR 2199023255553 p i = x := ⟨_, rfl⟩
  have HND := Lib.hid hnd
  clear hnd
  obtain ⟨hs, hhs⟩ : ∃ x, addR 6597069766657 p i = x := ⟨_, rfl⟩
  have HHS := Lib.hid hhs
  clear hhs
  obtain ⟨en, hen⟩ : ∃ x, endR p i port = x := ⟨_, rfl⟩
  have HEN := Lib.hid hen
  clear hen
  have HA := Lib.hid (Blk.fresh w 24 (plC p))
  have HB := Lib.hid ((Below.refl w.heap.size w).alloc (Nat.le_refl _) (.cells (plC p) 24))
  go_enter Try.func4, Try.ntmps4
  go_upto_region 1 with (fail)
  generalize w.alloc (.cells (plC p) 24) = w0 at HA HB ⊢
  go_wp2_with (refine wpList_loadG rfl 24 _ rfl _ rfl _ (plC _) _ _ HA.out Try.underlying24 rfl (info_p _) ?_)
  refine (of_at p w0).mono ?_
  rintro x w1 ⟨rfl, hb⟩
  have HA1 := Lib.hid (HA.out.below hb HA.out.lt)
  have HB1 := Lib.hid (HB.out.trans (hb.mono HB.out.size))
  clear hb
  go_upto_region 2 with ((refine wpList_store_row rfl 29 _ _ rfl _ (plC p) rfl rfl _ _ (Blk.fresh w1 29 zP) (info_rp _) rfl (one_p _) ?_))
  have HR2 := Lib.hid (blk_put (Blk.fresh w1 29 zP) (plC p))
  have HA2 := Lib.hid (blk_other (HA1.out.alloc (.cells zP 29)) (Nat.ne_of_lt HA1.out.lt) (plC p))
  have HB2 := Lib.hid (below_put (HB1.out.alloc HB1.out.size (.cells zP 29)) HB1.out.size (plC p))
  have hg := HA1.out.lt
  generalize (w1.alloc (.cells zP 29)).setRow w1.heap.size (plC p) = w2 at HA2 HR2 HB2 ⊢
  go_wp2_with (refine wpList_loadG rfl 24 _ rfl _ rfl _ (plC _) _ _ HA2.out Try.underlying24 rfl (info_p _) ?_)
  refine (role_at p i w2 HP.out HHA.out).mono ?_
  rintro x w3 ⟨rfl, hb⟩
  have HA3 := Lib.hid (HA2.out.below hb HA2.out.lt)
  have HR3 := Lib.hid (HR2.out.below hb HR2.out.lt)
  have HB3 := Lib.hid (HB2.out.trans (hb.mono HB2.out.size))
  clear hb
  go_wp2_with (refine wpList_loadG rfl 29 _ rfl _ rfl _ (plC _) _ _ HR3.out Try.underlying29 rfl (info_rp _) ?_)
  refine (rrole_at p i w3 HP.out HHA.out).mono ?_
  rintro x w4 ⟨rfl, hb⟩
  have HA4 := Lib.hid (HA3.out.below hb HA3.out.lt)
  have HR4 := Lib.hid (HR3.out.below hb HR3.out.lt)
  have HB4 := Lib.hid (HB3.out.trans (hb.mono HB3.out.size))
  clear hb
  go_wp2_with (refine wpList_loadG rfl 24 _ rfl _ rfl _ (plC _) _ _ HA4.out Try.underlying24 rfl (info_p _) ?_)
  refine (far_at p i port w4 HP.out HHB.out).mono ?_
  rintro x w5 ⟨rfl, hb⟩
  have HA5 := Lib.hid (HA4.out.below hb HA4.out.lt)
  have HR5 := Lib.hid (HR4.out.below hb HR4.out.lt)
  have HB5 := Lib.hid (HB4.out.trans (hb.mono HB4.out.size))
  clear hb
  go_wp2_with (refine wpList_loadG rfl 29 _ rfl _ rfl _ (plC _) _ _ HR5.out Try.underlying29 rfl (info_rp _) ?_)
  refine (rfar_at p i port w5 HP.out HHB.out).mono ?_
  rintro x w6 ⟨rfl, hb⟩
  have HA6 := Lib.hid (HA5.out.below hb HA5.out.lt)
  have HR6 := Lib.hid (HR5.out.below hb HR5.out.lt)
  have HB6 := Lib.hid (HB5.out.trans (hb.mono HB5.out.size))
  clear hb
  go_upto_region 6 with (fail)
  obtain ⟨wa, hwa⟩ : ∃ wa, wa = w6.drew := ⟨_, rfl⟩
  have HBR := Lib.hid (show Below w.heap.size w wa by rw [hwa]; exact HB6.out.drew)
  have KS := Lib.hid ((Rg.Keeps.one w.heap.size 24 (plC p)).blk w1.heap.size 29 (plC p))
  refine wp_region_held_drew (S := fun wz => Blk wz w.heap.size 24 (plC p) ∧ Blk wz w1.heap.size 29 (plC p)) (by kernel_rfl) ⟨HA6.out, HR6.out⟩ (fun hHeld => ?_)
  rw [← hwa] at hHeld ⊢
  clear hwa
  refine wpAnyH_ready (rs := [0]) (by kernel_rfl) (by simp) ?_
  refine .cons (o := _) rfl (fun K hK => ?_) ?_
  · go_simp
    refine (awake16 wa).mono ?_
    rintro en wr1 ⟨rfl, hbc⟩
    go_wp2_with fail
    refine Rg.st_call hK hHeld KS.out HBR.out hbc ?_
    clear hK K
    intro hHeld hbr
    have HBR := Lib.hid hbr
    clear hbr hbc
    try simp only [Rg.e1, Rg.e2, Rg.e3]
    refine Rg.tk 1 (v := ?_) ?_ ?_
    rotate_left
    · (intro wx hSx; go_simp; all_goals with_reducible rfl)
    simp only [Act.put, Rg.e1, Rg.e2, Rg.e3, Rg.e4, Rg.e5, Rg.e6]
    refine wpAnyH_take (i := 2) (oi := _) (v := .agg (plC p)) rfl (by kernel_rfl) (by kernel_rfl) (by kernel_rfl) (fun _ _ _ h => h) (ld_p (by rfl) (.tmp 3) rfl w.heap.size rfl (fun _ hSx => hSx.1)) (by assumption) ?_
    simp only [Act.put, Rg.e1, Rg.e2, Rg.e3, Rg.e4, Rg.e5, Rg.e6]
    refine Rg.tk 3 (v := ?_) ?_ ?_
    rotate_left
    · (intro wx hSx; go_simp; all_goals with_reducible rfl)
    simp only [Act.put, Rg.e1, Rg.e2, Rg.e3, Rg.e4, Rg.e5, Rg.e6]
    refine wpAnyH_take (i := 5) (oi := _) (v := .agg (plC p)) rfl (by kernel_rfl) (by kernel_rfl) (by kernel_rfl) (fun _ _ _ h => h) (ld_rp (by rfl) (.tmp 7) rfl w1.heap.size rfl (fun _ hSx => hSx.2)) (by assumption) ?_
    simp only [Act.put, Rg.e1, Rg.e2, Rg.e3, Rg.e4, Rg.e5, Rg.e6]
    refine Rg.tk 6 (v := ?_) ?_ ?_
    rotate_left
    · (intro wx hSx; go_simp; all_goals with_reducible rfl)
    simp only [Act.put, Rg.e1, Rg.e2, Rg.e3, Rg.e4, Rg.e5, Rg.e6]
    refine wpAnyH_ready (rs := [4]) (by kernel_rfl) (by simp) ?_
    refine .cons (o := _) rfl (fun K hK => ?_) ?_
    · go_simp
      refine (node_at p i wr1 HP.out HND.out).mono ?_
      rintro en wr2 ⟨rfl, hbc⟩
      go_wp2_with fail
      refine Rg.st_call hK hHeld KS.out HBR.out hbc ?_
      clear hK K
      intro hHeld hbr
      have HBR := Lib.hid hbr
      clear hbr hbc
      try simp only [Rg.e1, Rg.e2, Rg.e3]
      refine wpAnyH_ready (rs := [7]) (by kernel_rfl) (by simp) ?_
      refine .cons (o := _) rfl (fun K hK => ?_) ?_
      · go_simp
        refine (rnode_at p i wr2 HP.out HND.out).mono ?_
        rintro en wr3 ⟨rfl, hbc⟩
        go_wp2_with fail
        refine Rg.st_call hK hHeld KS.out HBR.out hbc ?_
        clear hK K
        intro hHeld hbr
        have HBR := Lib.hid hbr
        clear hbr hbc
        try simp only [Rg.e1, Rg.e2, Rg.e3]
        refine Rg.tk 8 (v := ?_) ?_ ?_
        rotate_left
        · (intro wx hSx; go_simp; all_goals with_reducible rfl)
        simp only [Act.put, Rg.e1, Rg.e2, Rg.e3, Rg.e4, Rg.e5, Rg.e6]
        refine Rg.tk 9 (v := ?_) ?_ ?_
        rotate_left
        · (intro wx hSx; go_simp; all_goals with_reducible rfl)
        simp only [Act.put, Rg.e1, Rg.e2, Rg.e3, Rg.e4, Rg.e5, Rg.e6]
        refine Rg.tk 10 (v := ?_) ?_ ?_
        rotate_left
        · (intro wx hSx; go_simp; all_goals with_reducible rfl)
        simp only [Act.put, Rg.e1, Rg.e2, Rg.e3, Rg.e4, Rg.e5, Rg.e6]
        refine wpAnyH_take (i := 11) (oi := _) (v := .agg (plC p)) rfl (by kernel_rfl) (by kernel_rfl) (by kernel_rfl) (fun _ _ _ h => h) (ld_p (by rfl) (.tmp 3) rfl w.heap.size rfl (fun _ hSx => hSx.1)) (by assumption) ?_
        simp only [Act.put, Rg.e1, Rg.e2, Rg.e3, Rg.e4, Rg.e5, Rg.e6]
        refine Rg.tk 12 (v := ?_) ?_ ?_
        rotate_left
        · (intro wx hSx; go_simp; all_goals with_reducible rfl)
        simp only [Act.put, Rg.e1, Rg.e2, Rg.e3, Rg.e4, Rg.e5, Rg.e6]
        refine wpAnyH_take (i := 14) (oi := _) (v := .agg (plC p)) rfl (by kernel_rfl) (by kernel_rfl) (by kernel_rfl) (fun _ _ _ h => h) (ld_rp (by rfl) (.tmp 7) rfl w1.heap.size rfl (fun _ hSx => hSx.2)) (by assumption) ?_
        simp only [Act.put, Rg.e1, Rg.e2, Rg.e3, Rg.e4, Rg.e5, Rg.e6]
        refine Rg.tk 15 (v := ?_) ?_ ?_
        rotate_left
        · (intro wx hSx; go_simp; all_goals with_reducible rfl)
        simp only [Act.put, Rg.e1, Rg.e2, Rg.e3, Rg.e4, Rg.e5, Rg.e6]
        refine wpAnyH_ready (rs := [13]) (by kernel_rfl) (by simp) ?_
        refine .cons (o := _) rfl (fun K hK => ?_) ?_
        · go_simp
          refine (host_at p i wr3 HP.out HHS.out).mono ?_
          rintro en wr4 ⟨rfl, hbc⟩
          go_wp2_with fail
          refine Rg.st_call hK hHeld KS.out HBR.out hbc ?_
          clear hK K
          intro hHeld hbr
          have HBR := Lib.hid hbr
          clear hbr hbc
          try simp only [Rg.e1, Rg.e2, Rg.e3]
          refine wpAnyH_ready (rs := [16]) (by kernel_rfl) (by simp) ?_
          refine .cons (o := _) rfl (fun K hK => ?_) ?_
          · go_simp
            refine (rhost_at p i wr4 HP.out HHS.out).mono ?_
            rintro en wr5 ⟨rfl, hbc⟩
            go_wp2_with fail
            refine Rg.st_call hK hHeld KS.out HBR.out hbc ?_
            clear hK K
            intro hHeld hbr
            have HBR := Lib.hid hbr
            clear hbr hbc
            try simp only [Rg.e1, Rg.e2, Rg.e3]
            refine Rg.tk 17 (v := ?_) ?_ ?_
            rotate_left
            · (intro wx hSx; go_simp; all_goals with_reducible rfl)
            simp only [Act.put, Rg.e1, Rg.e2, Rg.e3, Rg.e4, Rg.e5, Rg.e6]
            refine Rg.tk 18 (v := ?_) ?_ ?_
            rotate_left
            · (intro wx hSx; go_simp; all_goals with_reducible rfl)
            simp only [Act.put, Rg.e1, Rg.e2, Rg.e3, Rg.e4, Rg.e5, Rg.e6]
            refine Rg.tk 19 (v := ?_) ?_ ?_
            rotate_left
            · (intro wx hSx; go_simp; all_goals with_reducible rfl)
            simp only [Act.put, Rg.e1, Rg.e2, Rg.e3, Rg.e4, Rg.e5, Rg.e6]
            refine Rg.tk 20 (v := ?_) ?_ ?_
            rotate_left
            · (intro wx hSx; go_simp; all_goals with_reducible rfl)
            simp only [Act.put, Rg.e1, Rg.e2, Rg.e3, Rg.e4, Rg.e5, Rg.e6]
            refine Rg.tk 21 (v := ?_) ?_ ?_
            rotate_left
            · (intro wx hSx; go_simp; all_goals with_reducible rfl)
            simp only [Act.put, Rg.e1, Rg.e2, Rg.e3, Rg.e4, Rg.e5, Rg.e6]
            refine Rg.tk 22 (v := ?_) ?_ ?_
            rotate_left
            · (intro wx hSx; go_simp; all_goals with_reducible rfl)
            simp only [Act.put, Rg.e1, Rg.e2, Rg.e3, Rg.e4, Rg.e5, Rg.e6]
            refine Rg.tk 23 (v := ?_) ?_ ?_
            rotate_left
            · (intro wx hSx; go_simp; all_goals with_reducible rfl)
            simp only [Act.put, Rg.e1, Rg.e2, Rg.e3, Rg.e4, Rg.e5, Rg.e6]
            refine Rg.tk 24 (v := ?_) ?_ ?_
            rotate_left
            · (intro wx hSx; go_simp; all_goals with_reducible rfl)
            simp only [Act.put, Rg.e1, Rg.e2, Rg.e3, Rg.e4, Rg.e5, Rg.e6]
            refine Rg.tk 25 (v := ?_) ?_ ?_
            rotate_left
            · (intro wx hSx; go_simp; all_goals with_reducible rfl)
            simp only [Act.put, Rg.e1, Rg.e2, Rg.e3, Rg.e4, Rg.e5, Rg.e6]
            refine Rg.tk 26 (v := ?_) ?_ ?_
            rotate_left
            · (intro wx hSx; go_simp; all_goals with_reducible rfl)
            simp only [Act.put, Rg.e1, Rg.e2, Rg.e3, Rg.e4, Rg.e5, Rg.e6]
            refine Rg.tk 27 (v := ?_) ?_ ?_
            rotate_left
            · (intro wx hSx; go_simp; all_goals with_reducible rfl)
            simp only [Act.put, Rg.e1, Rg.e2, Rg.e3, Rg.e4, Rg.e5, Rg.e6]
            refine Rg.tk 28 (v := ?_) ?_ ?_
            rotate_left
            · (intro wx hSx; go_simp; all_goals with_reducible rfl)
            simp only [Act.put, Rg.e1, Rg.e2, Rg.e3, Rg.e4, Rg.e5, Rg.e6]
            refine Rg.tk 29 (v := ?_) ?_ ?_
            rotate_left
            · (intro wx hSx; go_simp; all_goals with_reducible rfl)
            simp only [Act.put, Rg.e1, Rg.e2, Rg.e3, Rg.e4, Rg.e5, Rg.e6]
            refine Rg.tk 30 (v := ?_) ?_ ?_
            rotate_left
            · (intro wx hSx; go_simp; all_goals with_reducible rfl)
            simp only [Act.put, Rg.e1, Rg.e2, Rg.e3, Rg.e4, Rg.e5, Rg.e6]
            refine Rg.tk 31 (v := ?_) ?_ ?_
            rotate_left
            · (intro wx hSx; go_simp; all_goals with_reducible rfl)
            simp only [Act.put, Rg.e1, Rg.e2, Rg.e3, Rg.e4, Rg.e5, Rg.e6]
            refine Rg.tk 32 (v := ?_) ?_ ?_
            rotate_left
            · (intro wx hSx; go_simp; all_goals with_reducible rfl)
            simp only [Act.put, Rg.e1, Rg.e2, Rg.e3, Rg.e4, Rg.e5, Rg.e6]
            refine Rg.tk 33 (v := ?_) ?_ ?_
            rotate_left
            · (intro wx hSx; go_simp; all_goals with_reducible rfl)
            simp only [Act.put, Rg.e1, Rg.e2, Rg.e3, Rg.e4, Rg.e5, Rg.e6]
            refine Rg.tk 34 (v := ?_) ?_ ?_
            rotate_left
            · (intro wx hSx; go_simp; all_goals with_reducible rfl)
            simp only [Act.put, Rg.e1, Rg.e2, Rg.e3, Rg.e4, Rg.e5, Rg.e6]
            refine Rg.tk 35 (v := ?_) ?_ ?_
            rotate_left
            · (intro wx hSx; go_simp; all_goals with_reducible rfl)
            simp only [Act.put, Rg.e1, Rg.e2, Rg.e3, Rg.e4, Rg.e5, Rg.e6]
            refine Rg.tk 36 (v := ?_) ?_ ?_
            rotate_left
            · (intro wx hSx; go_simp; all_goals with_reducible rfl)
            simp only [Act.put, Rg.e1, Rg.e2, Rg.e3, Rg.e4, Rg.e5, Rg.e6]
            refine Rg.tk 37 (v := ?_) ?_ ?_
            rotate_left
            · (intro wx hSx; go_simp; all_goals with_reducible rfl)
            simp only [Act.put, Rg.e1, Rg.e2, Rg.e3, Rg.e4, Rg.e5, Rg.e6]
            refine Rg.tk 38 (v := ?_) ?_ ?_
            rotate_left
            · (intro wx hSx; go_simp; all_goals with_reducible rfl)
            simp only [Act.put, Rg.e1, Rg.e2, Rg.e3, Rg.e4, Rg.e5, Rg.e6]
            refine Rg.tk 39 (v := ?_) ?_ ?_
            rotate_left
            · (intro wx hSx; go_simp; all_goals with_reducible rfl)
            simp only [Act.put, Rg.e1, Rg.e2, Rg.e3, Rg.e4, Rg.e5, Rg.e6]
            refine wpAnyH_take (i := 40) (oi := _) (v := .agg (plC p)) rfl (by kernel_rfl) (by kernel_rfl) (by kernel_rfl) (fun _ _ _ h => h) (ld_p (by rfl) (.tmp 3) rfl w.heap.size rfl (fun _ hSx => hSx.1)) (by assumption) ?_
            simp only [Act.put, Rg.e1, Rg.e2, Rg.e3, Rg.e4, Rg.e5, Rg.e6]
            refine Rg.tk 41 (v := ?_) ?_ ?_
            rotate_left
            · (intro wx hSx; go_simp; all_goals with_reducible rfl)
            simp only [Act.put, Rg.e1, Rg.e2, Rg.e3, Rg.e4, Rg.e5, Rg.e6]
            refine Rg.tk 42 (v := ?_) ?_ ?_
            rotate_left
            · (intro wx hSx; go_simp; all_goals with_reducible rfl)
            simp only [Act.put, Rg.e1, Rg.e2, Rg.e3, Rg.e4, Rg.e5, Rg.e6]
            refine wpAnyH_take (i := 44) (oi := _) (v := .agg (plC p)) rfl (by kernel_rfl) (by kernel_rfl) (by kernel_rfl) (fun _ _ _ h => h) (ld_rp (by rfl) (.tmp 7) rfl w1.heap.size rfl (fun _ hSx => hSx.2)) (by assumption) ?_
            simp only [Act.put, Rg.e1, Rg.e2, Rg.e3, Rg.e4, Rg.e5, Rg.e6]
            refine Rg.tk 45 (v := ?_) ?_ ?_
            rotate_left
            · (intro wx hSx; go_simp; all_goals with_reducible rfl)
            simp only [Act.put, Rg.e1, Rg.e2, Rg.e3, Rg.e4, Rg.e5, Rg.e6]
            refine Rg.tk 46 (v := ?_) ?_ ?_
            rotate_left
            · (intro wx hSx; go_simp; all_goals with_reducible rfl)
            simp only [Act.put, Rg.e1, Rg.e2, Rg.e3, Rg.e4, Rg.e5, Rg.e6]
            refine wpAnyH_ready (rs := [43]) (by kernel_rfl) (by simp) ?_
            refine .cons (o := _) rfl (fun K hK => ?_) ?_
            · go_simp
              refine (end_at p i port wr5 HP.out HEN.out).mono ?_
              rintro en wr6 ⟨rfl, hbc⟩
              go_wp2_with fail
              refine Rg.st_call hK hHeld KS.out HBR.out hbc ?_
              clear hK K
              intro hHeld hbr
              have HBR := Lib.hid hbr
              clear hbr hbc
              try simp only [Rg.e1, Rg.e2, Rg.e3]
              refine wpAnyH_ready (rs := [47]) (by kernel_rfl) (by simp) ?_
              refine .cons (o := _) rfl (fun K hK => ?_) ?_
              · go_simp
                refine (rend_at p i port wr6 HP.out HEN.out).mono ?_
                rintro en wr7 ⟨rfl, hbc⟩
                go_wp2_with fail
                refine Rg.st_call hK hHeld KS.out HBR.out hbc ?_
                clear hK K
                intro hHeld hbr
                have HBR := Lib.hid hbr
                clear hbr hbc
                try simp only [Rg.e1, Rg.e2, Rg.e3]
                refine Rg.tk 48 (v := ?_) ?_ ?_
                rotate_left
                · (intro wx hSx; go_simp; all_goals with_reducible rfl)
                simp only [Act.put, Rg.e1, Rg.e2, Rg.e3, Rg.e4, Rg.e5, Rg.e6]
                refine Rg.tk 49 (v := ?_) ?_ ?_
                rotate_left
                · (intro wx hSx; go_simp; all_goals with_reducible rfl)
                simp only [Act.put, Rg.e1, Rg.e2, Rg.e3, Rg.e4, Rg.e5, Rg.e6]
                refine Rg.tk 50 (v := ?_) ?_ ?_
                rotate_left
                · (intro wx hSx; go_simp; all_goals with_reducible rfl)
                simp only [Act.put, Rg.e1, Rg.e2, Rg.e3, Rg.e4, Rg.e5, Rg.e6]
                refine wpAnyH_take (i := 51) (oi := _) (v := .agg (plC p)) rfl (by kernel_rfl) (by kernel_rfl) (by kernel_rfl) (fun _ _ _ h => h) (ld_p (by rfl) (.tmp 3) rfl w.heap.size rfl (fun _ hSx => hSx.1)) (by assumption) ?_
                simp only [Act.put, Rg.e1, Rg.e2, Rg.e3, Rg.e4, Rg.e5, Rg.e6]
                refine wpAnyH_ready (rs := [52]) (by kernel_rfl) (by simp) ?_
                refine .cons (o := _) rfl (fun K hK => ?_) ?_
                · go_simp
                  refine (group_at p wr7).mono ?_
                  rintro en wr8 ⟨rfl, hbc⟩
                  go_wp2_with fail
                  refine Rg.st_call hK hHeld KS.out HBR.out hbc ?_
                  clear hK K
                  intro hHeld hbr
                  have HBR := Lib.hid hbr
                  clear hbr hbc
                  try simp only [Rg.e1, Rg.e2, Rg.e3]
                  refine wpAnyH_ready (rs := [53]) (by kernel_rfl) (by simp) ?_
                  refine .cons (o := _) rfl (fun K hK => ?_) ?_
                  · go_simp
                    refine (rgroup_at wr8).mono ?_
                    rintro en wr9 ⟨rfl, hbc⟩
                    go_wp2_with fail
                    refine Rg.st_call hK hHeld KS.out HBR.out hbc ?_
                    clear hK K
                    intro hHeld hbr
                    have HBR := Lib.hid hbr
                    clear hbr hbc
                    try simp only [Rg.e1, Rg.e2, Rg.e3]
                    refine Rg.tk 54 (v := ?_) ?_ ?_
                    rotate_left
                    · (intro wx hSx; go_simp; all_goals with_reducible rfl)
                    simp only [Act.put, Rg.e1, Rg.e2, Rg.e3, Rg.e4, Rg.e5, Rg.e6]
                    refine Rg.tk 55 (v := ?_) ?_ ?_
                    rotate_left
                    · (intro wx hSx; go_simp; all_goals with_reducible rfl)
                    simp only [Act.put, Rg.e1, Rg.e2, Rg.e3, Rg.e4, Rg.e5, Rg.e6]
                    refine Rg.tk 56 (v := ?_) ?_ ?_
                    rotate_left
                    · (intro wx hSx; go_simp; all_goals with_reducible rfl)
                    simp only [Act.put, Rg.e1, Rg.e2, Rg.e3, Rg.e4, Rg.e5, Rg.e6]
                    refine wpAnyH_done (by kernel_rfl) ?_ _
                    go_wp2
                    go_ret
                    exact ⟨rfl, HBR.out⟩
                  exact AllReadyH.nil
                exact AllReadyH.nil
              exact AllReadyH.nil
            exact AllReadyH.nil
          exact AllReadyH.nil
        exact AllReadyH.nil
      exact AllReadyH.nil
    exact AllReadyH.nil
  exact AllReadyH.nil
end Go.Proofs.Ytoiggajjbjcabaa.Pn
