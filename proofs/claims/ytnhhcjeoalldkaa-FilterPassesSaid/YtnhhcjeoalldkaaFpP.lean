/-
  Filter: the walk of FilterPasses.
-/
import Derived.Test.YtnhhcjeoalldkaaFpB
namespace Go.Proofs.Ytnhhcjeoalldkaa.Fp
open Go.RowKit Go.Proofs.Ytnhhcjeoalldkaa.Bt Go.Proofs.Ytnhhcjeoalldkaa.Mm Go.Proofs.Ytnhhcjeoalldkaa.Fl Go.Proofs.Ytnhhcjeoalldkaa.Rf Go.Proofs.Ytnhhcjeoalldkaa.Tg
set_option linter.unusedVariables false
set_option linter.unusedSimpArgs false

theorem rg_q (a b : Bool) (i p : Int) : rgF a b i p = (decide (0 ≤ i ∧ i ≤ 1 ∧ 0 ≤ p ∧ p ≤ 1) && daF a b i p) := by
  have h : ∀ x : Int, rpF x = decide (0 ≤ x ∧ x ≤ 1) := by
    intro x
    unfold rpF
    by_cases h0 : x = 0
    · subst h0; rfl
    · by_cases h1 : x = 1
      · subst h1; rfl
      · rw [decide_eq_false h0, decide_eq_false h1, decide_eq_false (by omega)]; rfl
  unfold rgF
  rw [h, h, ← Bool.and_assoc]
  congr 1
  by_cases h1 : 0 ≤ i ∧ i ≤ 1
  · by_cases h2 : 0 ≤ p ∧ p ≤ 1
    · rw [decide_eq_true h1, decide_eq_true h2, decide_eq_true (show 0 ≤ i ∧ i ≤ 1 ∧ 0 ≤ p ∧ p ≤ 1 from ⟨h1.1, h1.2, h2⟩)]; rfl
    · rw [decide_eq_false h2, decide_eq_false (show ¬ (0 ≤ i ∧ i ≤ 1 ∧ 0 ≤ p ∧ p ≤ 1) from fun h => h2 h.2.2), Bool.and_false]
  · rw [decide_eq_false h1, decide_eq_false (show ¬ (0 ≤ i ∧ i ≤ 1 ∧ 0 ≤ p ∧ p ≤ 1) from fun h => h1 ⟨h.1, h.2.1⟩), Bool.false_and]
theorem keeps_rd (B : Nat) (A : Option Addr) (xs : List Value) : Rg.Keeps (fun w => Rd w B A xs ∧ B ≤ w.heap.size) := fun w w' hs hb => ⟨hs.1.keep fun p hp => hb.cell (Nat.lt_of_lt_of_le hp hs.2), Nat.le_trans hs.2 hb.size⟩

set_option maxRecDepth 100000 in
set_option maxHeartbeats 4000000 in
theorem passes_walk (a b : Bool) (i p : Int) (w : World) (hi : (Lit.int .i64 i).wf = true) (hp : (Lit.int .i64 p).wf = true) : Calls Try.prog 3 #[.bool a, .bool b, .int .i64 i, .int .i64 p] w fun e w' => e = .returned (.bool true) ∧ Below w.heap.size w w' := by
  clear hi hp
  obtain ⟨L, hL⟩ : ∃ y, outL a b i 3 = y := ⟨_, rfl⟩
  obtain ⟨x, hx⟩ : ∃ y, opF a b i = y := ⟨_, rfl⟩
  obtain ⟨d, hd⟩ : ∃ y, daF a b i p = y := ⟨_, rfl⟩
  obtain ⟨q, hq⟩ : ∃ y, decide (0 ≤ i ∧ i ≤ 1 ∧ 0 ≤ p ∧ p ≤ 1) = y := ⟨_, rfl⟩
  obtain ⟨n, hn⟩ : ∃ n, L.length = n := ⟨_, rfl⟩
  have hn3 : n ≤ 3 := by rw [← hn, ← hL]; exact out_len a b i 3
  have hh : decide (p ∈ L) = d := by rw [← hL, ← hd]; exact out_has a b i p
  have hr : rgF a b i p = (q && d) := by rw [← hq, ← hd]; exact rg_q a b i p
  have HL := Lib.hid hL
  have HX := Lib.hid hx
  have HD := Lib.hid hd
  have HN := Lib.hid hn
  have HH := Lib.hid hh
  have HR := Lib.hid hr
  clear hL hx hd hn hh hr
  have HA0 := Lib.hid (blk_put (Blk.fresh w 22 (shC false false)) (shC a b))
  have HB0 := Lib.hid (below_put ((Below.refl w.heap.size w).alloc (Nat.le_refl _) (.cells (shC false false) 22)) (Nat.le_refl _) (shC a b))
  go_enter Try.func3, Try.ntmps3
  go_upto_region 2 with ((refine wpList_store_row rfl 22 _ _ rfl _ (shC a b) rfl rfl _ _ (Blk.fresh w 22 (shC false false)) (info_sh a b) rfl (one_sh a b) ?_))
  generalize (w.alloc (.cells (shC false false) 22)).setRow w.heap.size (shC a b) = w0 at HA0 HB0 ⊢
  obtain ⟨wa, hwa⟩ : ∃ wa, wa = w0.drew := ⟨_, rfl⟩
  have HBR := Lib.hid (show Below w.heap.size w wa by rw [hwa]; exact HB0.out.drew)
  have KS := Lib.hid (Rg.Keeps.one w.heap.size 22 (shC a b))
  refine wp_region_held_drew (S := fun wz => Blk wz w.heap.size 22 (shC a b)) (by kernel_rfl) HA0.out (fun hHeld => ?_)
  rw [← hwa] at hHeld ⊢
  clear hwa
  refine wpAnyH_take (i := 0) (oi := _) (v := shV a b) rfl (by kernel_rfl) (by kernel_rfl) (by kernel_rfl) (fun _ _ _ h => h) (ld_sh (by rfl) (.tmp 9) rfl w.heap.size rfl (fun _ hSx => hSx)) (by assumption) ?_
  simp only [Act.put, Rg.e1, Rg.e2, Rg.e3, Rg.e4, Rg.e5, Rg.e6]
  refine Rg.tk 1 (v := ?_) ?_ ?_
  rotate_left
  · (intro wx hSx; go_simp; all_goals with_reducible rfl)
  simp only [Act.put, Rg.e1, Rg.e2, Rg.e3, Rg.e4, Rg.e5, Rg.e6]
  refine wpAnyH_take (i := 3) (oi := _) (v := shV a b) rfl (by kernel_rfl) (by kernel_rfl) (by kernel_rfl) (fun _ _ _ h => h) (ld_sh (by rfl) (.tmp 9) rfl w.heap.size rfl (fun _ hSx => hSx)) (by assumption) ?_
  simp only [Act.put, Rg.e1, Rg.e2, Rg.e3, Rg.e4, Rg.e5, Rg.e6]
  refine Rg.tk 4 (v := ?_) ?_ ?_
  rotate_left
  · (intro wx hSx; go_simp; all_goals with_reducible rfl)
  simp only [Act.put, Rg.e1, Rg.e2, Rg.e3, Rg.e4, Rg.e5, Rg.e6]
  refine wpAnyH_ready (rs := [2]) (by kernel_rfl) (by simp) ?_
  refine .cons (o := _) rfl (fun K hK => ?_) ?_
  · go_simp
    refine (outs_n a b i L n wa HL HN).mono ?_
    rintro en wr1 ⟨A1, c1, rfl, hr1, hbc⟩
    have HR1 := Lib.hid hr1
    clear hr1
    go_wp2_with fail
    refine Rg.st_call hK hHeld KS.out HBR.out hbc ?_
    clear hK K
    intro hHeld hbr
    have HBR := Lib.hid hbr
    clear hbr hbc
    try simp only [Rg.e1, Rg.e2, Rg.e3]
    refine wpAnyH_ready (rs := [5]) (by kernel_rfl) (by simp) ?_
    refine .cons (o := _) rfl (fun K hK => ?_) ?_
    · go_simp
      refine (routs_n a b i L n wr1 HL HN).mono ?_
      rintro en wr2 ⟨A2, c2, rfl, hr2, hbc⟩
      have HR2 := Lib.hid hr2
      have HR3 := Lib.hid (HR1.out.below hbc)
      clear hr2
      go_wp2_with fail
      have B12 := Lib.hid (show wr1.heap.size ≤ wr2.heap.size from hbc.size)
      refine Rg.st_call hK hHeld KS.out HBR.out hbc ?_
      clear hK K
      intro hHeld hbr
      have HBR := Lib.hid hbr
      clear hbr hbc
      try simp only [Rg.e1, Rg.e2, Rg.e3]
      refine Rg.tk 6 (v := ?_) ?_ ?_
      rotate_left
      · (intro wx hSx; go_simp; all_goals with_reducible rfl)
      simp only [Act.put, Rg.e1, Rg.e2, Rg.e3, Rg.e4, Rg.e5, Rg.e6]
      refine Rg.tk 7 (v := ?_) ?_ ?_
      rotate_left
      · (intro wx hSx; go_simp; all_goals with_reducible rfl)
      simp only [Act.put, Rg.e1, Rg.e2, Rg.e3, Rg.e4, Rg.e5, Rg.e6]
      refine wpAnyH_done (by kernel_rfl) ?_ _
      have HW := Lib.hid hHeld
      have HRA := Lib.hid (HR3.out.more (B' := wr2.heap.size) B12.out)
      clear hHeld KS HR3 HR1
      go_wp2_with fail
      go_loopw [30] (fun z wr => ∃ k : Nat, k ≤ n ∧ z = .int .i64 k ∧ Blk wr w.heap.size 22 (shC a b) ∧ Rd wr wr2.heap.size A1 (ints L) ∧ Rd wr wr2.heap.size A2 (ints L) ∧ wr2.heap.size ≤ wr.heap.size ∧ Below w.heap.size w wr) (fun z _ => n - (intOf z).toNat)
      case atStart => exact ⟨0, Nat.zero_le _, rfl, HW.out, HRA.out, HR2.out, Nat.le_refl _, HBR.out⟩
      case round =>
        obtain ⟨k, hk, rfl, ha, hr1, hr2, hsz, hb⟩ := hrel
        have HA := Lib.hid ha
        have H1 := Lib.hid hr1
        have H2 := Lib.hid hr2
        have HB := Lib.hid hb
        clear ha hr1 hr2 hb
        by_cases hlt : k < n
        · have hkl : k < L.length := by rw [HN.out]; exact hlt
          obtain ⟨ad1, rfl, hb1, hcell1⟩ := H1.out (by rw [length_ints, HN.out]; omega)
          obtain ⟨ad2, rfl, hb2, hcell2⟩ := H2.out (by rw [length_ints, HN.out]; omega)
          have c1 := hcell1 k _ (get_ints L k hkl)
          have c2 := hcell2 k _ (get_ints L k hkl)
          clear hcell1 hcell2
          generalize L[k] = z at c1 c2
          have ez : (z != z) = false := by simp
          clear hkl
          go_wp2
          go_quiet (fail)
          go_wp2
          go_roundw
          case rel => exact ⟨k + 1, by omega, by go_num, HA.out, H1.out, H2.out, hsz, below_drewN HB.out nq⟩
          case measure => simp [intOf]; omega
        · obtain rfl : n = k := by omega
          go_upto_region 11 with (fail)
          go_cut [13] (fun s wx => s = .bool q ∧ wx = wr)
          case first =>
            by_cases h1 : 0 ≤ i
            · by_cases h2 : i ≤ 1
              · by_cases h3 : 0 ≤ p
                · by_cases h4 : p ≤ 1
                  · obtain rfl : true = q := (decide_eq_true ⟨h1, h2, h3, h4⟩).symm.trans hq
                    go_wp2_with fail
                    go_meet
                    exact ⟨rfl, rfl⟩
                  · obtain rfl : false = q := (decide_eq_false (by omega)).symm.trans hq
                    go_wp2_with fail
                    go_meet
                    exact ⟨rfl, rfl⟩
                · obtain rfl : false = q := (decide_eq_false (by omega)).symm.trans hq
                  go_wp2_with fail
                  go_meet
                  exact ⟨rfl, rfl⟩
              · obtain rfl : false = q := (decide_eq_false (by omega)).symm.trans hq
                go_wp2_with fail
                go_meet
                exact ⟨rfl, rfl⟩
            · obtain rfl : false = q := (decide_eq_false (by omega)).symm.trans hq
              go_wp2_with fail
              go_meet
              exact ⟨rfl, rfl⟩
          case rest =>
            obtain ⟨rfl, rfl⟩ := hcut
            obtain ⟨B, hB⟩ : ∃ B, B = wr2.heap.size := ⟨_, rfl⟩
            rw [← hB] at H2 hsz
            clear hB H1 HR2 HRA HW
            go_upto_region 12 with (fail)
            obtain ⟨wa, hwa⟩ : ∃ wa, wa = wc.drew := ⟨_, rfl⟩
            have HBR := Lib.hid (show Below w.heap.size w wa by rw [hwa]; exact HB.out.drew)
            have KS := Lib.hid ((Rg.Keeps.one w.heap.size 22 (shC a b)).and (keeps_rd B A2 (ints L)))
            refine wp_region_held_drew (S := fun wz => Blk wz w.heap.size 22 (shC a b) ∧ (Rd wz B A2 (ints L) ∧ B ≤ wz.heap.size)) (by kernel_rfl) ⟨HA.out, H2.out, hsz⟩ (fun hHeld => ?_)
            rw [← hwa] at hHeld ⊢
            clear hwa
            cases q
            · have HR0 := Lib.hid (show rgF a b i p = false from HR.out)
              refine wpAnyH_ready (rs := [0]) (by kernel_rfl) (by simp) ?_
              refine .cons (o := _) rfl (fun K hK => ?_) ?_
              · go_simp
                refine (awake18 wa).mono ?_
                rintro en wr1 ⟨rfl, hbc⟩
                go_wp2_with fail
                refine Rg.st_call hK hHeld KS.out HBR.out hbc ?_
                clear hK K
                intro hHeld hbr
                have HBR := Lib.hid hbr
                clear hbr hbc
                try simp only [Rg.e1, Rg.e2, Rg.e3]
                refine Rg.tk 1 (v := ?_) ?_ ?_
                rotate_left
                · (intro wx hSx; go_simp; all_goals with_reducible rfl)
                simp only [Act.put, Rg.e1, Rg.e2, Rg.e3, Rg.e4, Rg.e5, Rg.e6]
                refine wpAnyH_take (i := 2) (oi := _) (v := shV a b) rfl (by kernel_rfl) (by kernel_rfl) (by kernel_rfl) (fun _ _ _ h => h) (ld_sh (by rfl) (.tmp 9) rfl w.heap.size rfl (fun _ hSx => hSx.1)) (by assumption) ?_
                simp only [Act.put, Rg.e1, Rg.e2, Rg.e3, Rg.e4, Rg.e5, Rg.e6]
                refine Rg.tk 3 (v := ?_) ?_ ?_
                rotate_left
                · (intro wx hSx; go_simp; all_goals with_reducible rfl)
                simp only [Act.put, Rg.e1, Rg.e2, Rg.e3, Rg.e4, Rg.e5, Rg.e6]
                refine wpAnyH_take (i := 5) (oi := _) (v := shV a b) rfl (by kernel_rfl) (by kernel_rfl) (by kernel_rfl) (fun _ _ _ h => h) (ld_sh (by rfl) (.tmp 9) rfl w.heap.size rfl (fun _ hSx => hSx.1)) (by assumption) ?_
                simp only [Act.put, Rg.e1, Rg.e2, Rg.e3, Rg.e4, Rg.e5, Rg.e6]
                refine Rg.tk 6 (v := ?_) ?_ ?_
                rotate_left
                · (intro wx hSx; go_simp; all_goals with_reducible rfl)
                simp only [Act.put, Rg.e1, Rg.e2, Rg.e3, Rg.e4, Rg.e5, Rg.e6]
                refine wpAnyH_ready (rs := [4]) (by kernel_rfl) (by simp) ?_
                refine .cons (o := _) rfl (fun K hK => ?_) ?_
                · go_simp
                  refine (open_t a b i x wr1 HX).mono ?_
                  rintro en wr2 ⟨rfl, hbc⟩
                  go_wp2_with fail
                  refine Rg.st_call hK hHeld KS.out HBR.out hbc ?_
                  clear hK K
                  intro hHeld hbr
                  have HBR := Lib.hid hbr
                  clear hbr hbc
                  try simp only [Rg.e1, Rg.e2, Rg.e3]
                  refine wpAnyH_ready (rs := [7]) (by kernel_rfl) (by simp) ?_
                  refine .cons (o := _) rfl (fun K hK => ?_) ?_
                  · go_simp
                    refine (ropen_t a b i x wr2 HX).mono ?_
                    rintro en wr3 ⟨rfl, hbc⟩
                    go_wp2_with fail
                    refine Rg.st_call hK hHeld KS.out HBR.out hbc ?_
                    clear hK K
                    intro hHeld hbr
                    have HBR := Lib.hid hbr
                    clear hbr hbc
                    try simp only [Rg.e1, Rg.e2, Rg.e3]
                    refine Rg.tk 8 (v := ?_) ?_ ?_
                    rotate_left
                    · (intro wx hSx; go_simp; all_goals with_reducible rfl)
                    simp only [Act.put, Rg.e1, Rg.e2, Rg.e3, Rg.e4, Rg.e5, Rg.e6]
                    refine Rg.tk 9 (v := ?_) ?_ ?_
                    rotate_left
                    · (intro wx hSx; go_simp; all_goals with_reducible rfl)
                    simp only [Act.put, Rg.e1, Rg.e2, Rg.e3, Rg.e4, Rg.e5, Rg.e6]
                    refine Rg.tk 10 (v := ?_) ?_ ?_
                    rotate_left
                    · (intro wx hSx; go_simp; all_goals with_reducible rfl)
                    simp only [Act.put, Rg.e1, Rg.e2, Rg.e3, Rg.e4, Rg.e5, Rg.e6]
                    refine wpAnyH_take (i := 11) (oi := _) (v := shV a b) rfl (by kernel_rfl) (by kernel_rfl) (by kernel_rfl) (fun _ _ _ h => h) (ld_sh (by rfl) (.tmp 9) rfl w.heap.size rfl (fun _ hSx => hSx.1)) (by assumption) ?_
                    simp only [Act.put, Rg.e1, Rg.e2, Rg.e3, Rg.e4, Rg.e5, Rg.e6]
                    refine Rg.tk 12 (v := ?_) ?_ ?_
                    rotate_left
                    · (intro wx hSx; go_simp; all_goals with_reducible rfl)
                    simp only [Act.put, Rg.e1, Rg.e2, Rg.e3, Rg.e4, Rg.e5, Rg.e6]
                    refine Rg.tk 13 (v := ?_) ?_ ?_
                    rotate_left
                    · (intro wx hSx; go_simp; all_goals with_reducible rfl)
                    simp only [Act.put, Rg.e1, Rg.e2, Rg.e3, Rg.e4, Rg.e5, Rg.e6]
                    refine Rg.tk 15 (v := ?_) ?_ ?_
                    rotate_left
                    · (intro wx hSx; go_simp; all_goals with_reducible rfl)
                    simp only [Act.put, Rg.e1, Rg.e2, Rg.e3, Rg.e4, Rg.e5, Rg.e6]
                    refine Rg.tk 16 (v := ?_) ?_ ?_
                    rotate_left
                    · (intro wx hSx; go_simp; all_goals with_reducible rfl)
                    simp only [Act.put, Rg.e1, Rg.e2, Rg.e3, Rg.e4, Rg.e5, Rg.e6]
                    refine wpAnyH_ready (rs := [14]) (by kernel_rfl) (by simp) ?_
                    refine .cons (o := _) rfl (fun K hK => ?_) ?_
                    · go_simp
                      refine (data_t a b i p d wr3 HD).mono ?_
                      rintro en wr4 ⟨rfl, hbc⟩
                      go_wp2_with fail
                      refine Rg.st_call hK hHeld KS.out HBR.out hbc ?_
                      clear hK K
                      intro hHeld hbr
                      have HBR := Lib.hid hbr
                      clear hbr hbc
                      try simp only [Rg.e1, Rg.e2, Rg.e3]
                      refine wpAnyH_ready (rs := [17]) (by kernel_rfl) (by simp) ?_
                      refine .cons (o := _) rfl (fun K hK => ?_) ?_
                      · go_simp
                        refine (has_n L n p d A2 c2 B wr4 hHeld.2.1 hn3 HN HH).mono ?_
                        rintro en wq ⟨rfl, rfl⟩
                        have hbc := Below.refl wr4.heap.size wr4
                        go_wp2_with fail
                        refine Rg.st_call hK hHeld KS.out HBR.out hbc ?_
                        clear hK K
                        intro hHeld hbr
                        have HBR := Lib.hid hbr
                        clear hbr hbc
                        try simp only [Rg.e1, Rg.e2, Rg.e3]
                        refine Rg.tk 18 (v := ?_) ?_ ?_
                        rotate_left
                        · (intro wx hSx; go_simp; all_goals with_reducible rfl)
                        simp only [Act.put, Rg.e1, Rg.e2, Rg.e3, Rg.e4, Rg.e5, Rg.e6]
                        refine Rg.tk 19 (v := ?_) ?_ ?_
                        rotate_left
                        · (intro wx hSx; go_simp; all_goals with_reducible rfl)
                        simp only [Act.put, Rg.e1, Rg.e2, Rg.e3, Rg.e4, Rg.e5, Rg.e6]
                        refine Rg.tk 20 (v := ?_) ?_ ?_
                        rotate_left
                        · (intro wx hSx; go_simp; all_goals with_reducible rfl)
                        simp only [Act.put, Rg.e1, Rg.e2, Rg.e3, Rg.e4, Rg.e5, Rg.e6]
                        refine wpAnyH_take (i := 21) (oi := _) (v := shV a b) rfl (by kernel_rfl) (by kernel_rfl) (by kernel_rfl) (fun _ _ _ h => h) (ld_sh (by rfl) (.tmp 9) rfl w.heap.size rfl (fun _ hSx => hSx.1)) (by assumption) ?_
                        simp only [Act.put, Rg.e1, Rg.e2, Rg.e3, Rg.e4, Rg.e5, Rg.e6]
                        refine Rg.tk 22 (v := ?_) ?_ ?_
                        rotate_left
                        · (intro wx hSx; go_simp; all_goals with_reducible rfl)
                        simp only [Act.put, Rg.e1, Rg.e2, Rg.e3, Rg.e4, Rg.e5, Rg.e6]
                        refine Rg.tk 23 (v := ?_) ?_ ?_
                        rotate_left
                        · (intro wx hSx; go_simp; all_goals with_reducible rfl)
                        simp only [Act.put, Rg.e1, Rg.e2, Rg.e3, Rg.e4, Rg.e5, Rg.e6]
                        refine Rg.tk 25 (v := ?_) ?_ ?_
                        rotate_left
                        · (intro wx hSx; go_simp; all_goals with_reducible rfl)
                        simp only [Act.put, Rg.e1, Rg.e2, Rg.e3, Rg.e4, Rg.e5, Rg.e6]
                        refine wpAnyH_ready (rs := [24]) (by kernel_rfl) (by simp) ?_
                        refine .cons (o := _) rfl (fun K hK => ?_) ?_
                        · go_simp
                          refine (ring_t a b i p false wr4 HR0).mono ?_
                          rintro en wr6 ⟨rfl, hbc⟩
                          go_wp2_with fail
                          refine Rg.st_call hK hHeld KS.out HBR.out hbc ?_
                          clear hK K
                          intro hHeld hbr
                          have HBR := Lib.hid hbr
                          clear hbr hbc
                          try simp only [Rg.e1, Rg.e2, Rg.e3]
                          refine Rg.tk 26 (v := ?_) ?_ ?_
                          rotate_left
                          · (intro wx hSx; go_simp; all_goals with_reducible rfl)
                          simp only [Act.put, Rg.e1, Rg.e2, Rg.e3, Rg.e4, Rg.e5, Rg.e6]
                          refine Rg.sk 27 ?_
                          simp only [Act.put, Rg.e1, Rg.e2, Rg.e3, Rg.e4, Rg.e5, Rg.e6]
                          refine Rg.sk 28 ?_
                          simp only [Act.put, Rg.e1, Rg.e2, Rg.e3, Rg.e4, Rg.e5, Rg.e6]
                          refine Rg.sk 29 ?_
                          simp only [Act.put, Rg.e1, Rg.e2, Rg.e3, Rg.e4, Rg.e5, Rg.e6]
                          refine Rg.tk 30 (v := ?_) ?_ ?_
                          rotate_left
                          · (intro wx hSx; go_simp; all_goals with_reducible rfl)
                          simp only [Act.put, Rg.e1, Rg.e2, Rg.e3, Rg.e4, Rg.e5, Rg.e6]
                          refine Rg.tk 31 (v := ?_) ?_ ?_
                          rotate_left
                          · (intro wx hSx; go_simp; all_goals with_reducible rfl)
                          simp only [Act.put, Rg.e1, Rg.e2, Rg.e3, Rg.e4, Rg.e5, Rg.e6]
                          refine Rg.tk 32 (v := ?_) ?_ ?_
                          rotate_left
                          · (intro wx hSx; go_simp; all_goals with_reducible rfl)
                          simp only [Act.put, Rg.e1, Rg.e2, Rg.e3, Rg.e4, Rg.e5, Rg.e6]
                          refine Rg.tk 33 (v := ?_) ?_ ?_
                          rotate_left
                          · (intro wx hSx; go_simp; all_goals with_reducible rfl)
                          simp only [Act.put, Rg.e1, Rg.e2, Rg.e3, Rg.e4, Rg.e5, Rg.e6]
                          refine wpAnyH_done (by kernel_rfl) ?_ _
                          go_wp2
                          go_ret
                          exact ⟨rfl, HBR.out⟩
                        exact AllReadyH.nil
                      exact AllReadyH.nil
                    exact AllReadyH.nil
                  exact AllReadyH.nil
                exact AllReadyH.nil
              exact AllReadyH.nil
            · have HR0 := Lib.hid (show rgF a b i p = d from HR.out)
              refine wpAnyH_ready (rs := [0]) (by kernel_rfl) (by simp) ?_
              refine .cons (o := _) rfl (fun K hK => ?_) ?_
              · go_simp
                refine (awake18 wa).mono ?_
                rintro en wr1 ⟨rfl, hbc⟩
                go_wp2_with fail
                refine Rg.st_call hK hHeld KS.out HBR.out hbc ?_
                clear hK K
                intro hHeld hbr
                have HBR := Lib.hid hbr
                clear hbr hbc
                try simp only [Rg.e1, Rg.e2, Rg.e3]
                refine Rg.tk 1 (v := ?_) ?_ ?_
                rotate_left
                · (intro wx hSx; go_simp; all_goals with_reducible rfl)
                simp only [Act.put, Rg.e1, Rg.e2, Rg.e3, Rg.e4, Rg.e5, Rg.e6]
                refine wpAnyH_take (i := 2) (oi := _) (v := shV a b) rfl (by kernel_rfl) (by kernel_rfl) (by kernel_rfl) (fun _ _ _ h => h) (ld_sh (by rfl) (.tmp 9) rfl w.heap.size rfl (fun _ hSx => hSx.1)) (by assumption) ?_
                simp only [Act.put, Rg.e1, Rg.e2, Rg.e3, Rg.e4, Rg.e5, Rg.e6]
                refine Rg.tk 3 (v := ?_) ?_ ?_
                rotate_left
                · (intro wx hSx; go_simp; all_goals with_reducible rfl)
                simp only [Act.put, Rg.e1, Rg.e2, Rg.e3, Rg.e4, Rg.e5, Rg.e6]
                refine wpAnyH_take (i := 5) (oi := _) (v := shV a b) rfl (by kernel_rfl) (by kernel_rfl) (by kernel_rfl) (fun _ _ _ h => h) (ld_sh (by rfl) (.tmp 9) rfl w.heap.size rfl (fun _ hSx => hSx.1)) (by assumption) ?_
                simp only [Act.put, Rg.e1, Rg.e2, Rg.e3, Rg.e4, Rg.e5, Rg.e6]
                refine Rg.tk 6 (v := ?_) ?_ ?_
                rotate_left
                · (intro wx hSx; go_simp; all_goals with_reducible rfl)
                simp only [Act.put, Rg.e1, Rg.e2, Rg.e3, Rg.e4, Rg.e5, Rg.e6]
                refine wpAnyH_ready (rs := [4]) (by kernel_rfl) (by simp) ?_
                refine .cons (o := _) rfl (fun K hK => ?_) ?_
                · go_simp
                  refine (open_t a b i x wr1 HX).mono ?_
                  rintro en wr2 ⟨rfl, hbc⟩
                  go_wp2_with fail
                  refine Rg.st_call hK hHeld KS.out HBR.out hbc ?_
                  clear hK K
                  intro hHeld hbr
                  have HBR := Lib.hid hbr
                  clear hbr hbc
                  try simp only [Rg.e1, Rg.e2, Rg.e3]
                  refine wpAnyH_ready (rs := [7]) (by kernel_rfl) (by simp) ?_
                  refine .cons (o := _) rfl (fun K hK => ?_) ?_
                  · go_simp
                    refine (ropen_t a b i x wr2 HX).mono ?_
                    rintro en wr3 ⟨rfl, hbc⟩
                    go_wp2_with fail
                    refine Rg.st_call hK hHeld KS.out HBR.out hbc ?_
                    clear hK K
                    intro hHeld hbr
                    have HBR := Lib.hid hbr
                    clear hbr hbc
                    try simp only [Rg.e1, Rg.e2, Rg.e3]
                    refine Rg.tk 8 (v := ?_) ?_ ?_
                    rotate_left
                    · (intro wx hSx; go_simp; all_goals with_reducible rfl)
                    simp only [Act.put, Rg.e1, Rg.e2, Rg.e3, Rg.e4, Rg.e5, Rg.e6]
                    refine Rg.tk 9 (v := ?_) ?_ ?_
                    rotate_left
                    · (intro wx hSx; go_simp; all_goals with_reducible rfl)
                    simp only [Act.put, Rg.e1, Rg.e2, Rg.e3, Rg.e4, Rg.e5, Rg.e6]
                    refine Rg.tk 10 (v := ?_) ?_ ?_
                    rotate_left
                    · (intro wx hSx; go_simp; all_goals with_reducible rfl)
                    simp only [Act.put, Rg.e1, Rg.e2, Rg.e3, Rg.e4, Rg.e5, Rg.e6]
                    refine wpAnyH_take (i := 11) (oi := _) (v := shV a b) rfl (by kernel_rfl) (by kernel_rfl) (by kernel_rfl) (fun _ _ _ h => h) (ld_sh (by rfl) (.tmp 9) rfl w.heap.size rfl (fun _ hSx => hSx.1)) (by assumption) ?_
                    simp only [Act.put, Rg.e1, Rg.e2, Rg.e3, Rg.e4, Rg.e5, Rg.e6]
                    refine Rg.tk 12 (v := ?_) ?_ ?_
                    rotate_left
                    · (intro wx hSx; go_simp; all_goals with_reducible rfl)
                    simp only [Act.put, Rg.e1, Rg.e2, Rg.e3, Rg.e4, Rg.e5, Rg.e6]
                    refine Rg.tk 13 (v := ?_) ?_ ?_
                    rotate_left
                    · (intro wx hSx; go_simp; all_goals with_reducible rfl)
                    simp only [Act.put, Rg.e1, Rg.e2, Rg.e3, Rg.e4, Rg.e5, Rg.e6]
                    refine Rg.tk 15 (v := ?_) ?_ ?_
                    rotate_left
                    · (intro wx hSx; go_simp; all_goals with_reducible rfl)
                    simp only [Act.put, Rg.e1, Rg.e2, Rg.e3, Rg.e4, Rg.e5, Rg.e6]
                    refine Rg.tk 16 (v := ?_) ?_ ?_
                    rotate_left
                    · (intro wx hSx; go_simp; all_goals with_reducible rfl)
                    simp only [Act.put, Rg.e1, Rg.e2, Rg.e3, Rg.e4, Rg.e5, Rg.e6]
                    refine wpAnyH_ready (rs := [14]) (by kernel_rfl) (by simp) ?_
                    refine .cons (o := _) rfl (fun K hK => ?_) ?_
                    · go_simp
                      refine (data_t a b i p d wr3 HD).mono ?_
                      rintro en wr4 ⟨rfl, hbc⟩
                      go_wp2_with fail
                      refine Rg.st_call hK hHeld KS.out HBR.out hbc ?_
                      clear hK K
                      intro hHeld hbr
                      have HBR := Lib.hid hbr
                      clear hbr hbc
                      try simp only [Rg.e1, Rg.e2, Rg.e3]
                      refine wpAnyH_ready (rs := [17]) (by kernel_rfl) (by simp) ?_
                      refine .cons (o := _) rfl (fun K hK => ?_) ?_
                      · go_simp
                        refine (has_n L n p d A2 c2 B wr4 hHeld.2.1 hn3 HN HH).mono ?_
                        rintro en wq ⟨rfl, rfl⟩
                        have hbc := Below.refl wr4.heap.size wr4
                        go_wp2_with fail
                        refine Rg.st_call hK hHeld KS.out HBR.out hbc ?_
                        clear hK K
                        intro hHeld hbr
                        have HBR := Lib.hid hbr
                        clear hbr hbc
                        try simp only [Rg.e1, Rg.e2, Rg.e3]
                        refine Rg.tk 18 (v := ?_) ?_ ?_
                        rotate_left
                        · (intro wx hSx; go_simp; all_goals with_reducible rfl)
                        simp only [Act.put, Rg.e1, Rg.e2, Rg.e3, Rg.e4, Rg.e5, Rg.e6]
                        refine Rg.tk 19 (v := ?_) ?_ ?_
                        rotate_left
                        · (intro wx hSx; go_simp; all_goals with_reducible rfl)
                        simp only [Act.put, Rg.e1, Rg.e2, Rg.e3, Rg.e4, Rg.e5, Rg.e6]
                        refine Rg.tk 20 (v := ?_) ?_ ?_
                        rotate_left
                        · (intro wx hSx; go_simp; all_goals with_reducible rfl)
                        simp only [Act.put, Rg.e1, Rg.e2, Rg.e3, Rg.e4, Rg.e5, Rg.e6]
                        refine wpAnyH_take (i := 21) (oi := _) (v := shV a b) rfl (by kernel_rfl) (by kernel_rfl) (by kernel_rfl) (fun _ _ _ h => h) (ld_sh (by rfl) (.tmp 9) rfl w.heap.size rfl (fun _ hSx => hSx.1)) (by assumption) ?_
                        simp only [Act.put, Rg.e1, Rg.e2, Rg.e3, Rg.e4, Rg.e5, Rg.e6]
                        refine Rg.tk 22 (v := ?_) ?_ ?_
                        rotate_left
                        · (intro wx hSx; go_simp; all_goals with_reducible rfl)
                        simp only [Act.put, Rg.e1, Rg.e2, Rg.e3, Rg.e4, Rg.e5, Rg.e6]
                        refine Rg.tk 23 (v := ?_) ?_ ?_
                        rotate_left
                        · (intro wx hSx; go_simp; all_goals with_reducible rfl)
                        simp only [Act.put, Rg.e1, Rg.e2, Rg.e3, Rg.e4, Rg.e5, Rg.e6]
                        refine Rg.tk 25 (v := ?_) ?_ ?_
                        rotate_left
                        · (intro wx hSx; go_simp; all_goals with_reducible rfl)
                        simp only [Act.put, Rg.e1, Rg.e2, Rg.e3, Rg.e4, Rg.e5, Rg.e6]
                        refine wpAnyH_ready (rs := [24]) (by kernel_rfl) (by simp) ?_
                        refine .cons (o := _) rfl (fun K hK => ?_) ?_
                        · go_simp
                          refine (ring_t a b i p d wr4 HR0).mono ?_
                          rintro en wr6 ⟨rfl, hbc⟩
                          go_wp2_with fail
                          refine Rg.st_call hK hHeld KS.out HBR.out hbc ?_
                          clear hK K
                          intro hHeld hbr
                          have HBR := Lib.hid hbr
                          clear hbr hbc
                          try simp only [Rg.e1, Rg.e2, Rg.e3]
                          refine Rg.tk 26 (v := ?_) ?_ ?_
                          rotate_left
                          · (intro wx hSx; go_simp; all_goals with_reducible rfl)
                          simp only [Act.put, Rg.e1, Rg.e2, Rg.e3, Rg.e4, Rg.e5, Rg.e6]
                          refine Rg.tk 27 (v := ?_) ?_ ?_
                          rotate_left
                          · (intro wx hSx; go_simp; all_goals with_reducible rfl)
                          simp only [Act.put, Rg.e1, Rg.e2, Rg.e3, Rg.e4, Rg.e5, Rg.e6]
                          refine Rg.tk 28 (v := ?_) ?_ ?_
                          rotate_left
                          · (intro wx hSx; go_simp; all_goals with_reducible rfl)
                          simp only [Act.put, Rg.e1, Rg.e2, Rg.e3, Rg.e4, Rg.e5, Rg.e6]
                          refine wpAnyH_ready (rs := [29]) (by kernel_rfl) (by simp) ?_
                          refine .cons (o := _) rfl (fun K hK => ?_) ?_
                          · go_simp
                            refine (has_n L n p d A2 c2 B wr6 hHeld.2.1 hn3 HN HH).mono ?_
                            rintro en wq ⟨rfl, rfl⟩
                            have hbc := Below.refl wr6.heap.size wr6
                            go_wp2_with fail
                            refine Rg.st_call hK hHeld KS.out HBR.out hbc ?_
                            clear hK K
                            intro hHeld hbr
                            have HBR := Lib.hid hbr
                            clear hbr hbc
                            try simp only [Rg.e1, Rg.e2, Rg.e3]
                            refine Rg.tk 30 (v := ?_) ?_ ?_
                            rotate_left
                            · (intro wx hSx; go_simp; all_goals with_reducible rfl)
                            simp only [Act.put, Rg.e1, Rg.e2, Rg.e3, Rg.e4, Rg.e5, Rg.e6]
                            refine Rg.tk 31 (v := ?_) ?_ ?_
                            rotate_left
                            · (intro wx hSx; go_simp; all_goals with_reducible rfl)
                            simp only [Act.put, Rg.e1, Rg.e2, Rg.e3, Rg.e4, Rg.e5, Rg.e6]
                            refine Rg.tk 32 (v := ?_) ?_ ?_
                            rotate_left
                            · (intro wx hSx; go_simp; all_goals with_reducible rfl)
                            simp only [Act.put, Rg.e1, Rg.e2, Rg.e3, Rg.e4, Rg.e5, Rg.e6]
                            refine Rg.tk 33 (v := ?_) ?_ ?_
                            rotate_left
                            · (intro wx hSx; go_simp; all_goals with_reducible rfl)
                            simp only [Act.put, Rg.e1, Rg.e2, Rg.e3, Rg.e4, Rg.e5, Rg.e6]
                            refine wpAnyH_done (by kernel_rfl) ?_ _
                            go_wp2
                            go_ret
                            exact ⟨rfl, HBR.out⟩
                          exact AllReadyH.nil
                        exact AllReadyH.nil
                      exact AllReadyH.nil
                    exact AllReadyH.nil
                  exact AllReadyH.nil
                exact AllReadyH.nil
              exact AllReadyH.nil
    exact AllReadyH.nil
  exact AllReadyH.nil
end Go.Proofs.Ytnhhcjeoalldkaa.Fp
