/-
  Flush: the program's Hear.
-/
import Derived.Test.YthhiagdncjpdcaaFlA
import Derived.Deep.CutBlock
namespace Go.Proofs.Ythhiagdncjpdcaa.Fh
open Go.RowKit Go.Proofs.Ythhiagdncjpdcaa.Mm Go.Proofs.Ythhiagdncjpdcaa.Tg Go.Proofs.Ythhiagdncjpdcaa.Rp
set_option linter.unusedVariables false
set_option linter.unusedSimpArgs false

theorem three (w : World) (x y z : Array Value) (t u v : TypeId) : Blk (((w.alloc (.cells x t)).alloc (.cells y u)).alloc (.cells z v)) w.heap.size t x ∧ Blk (((w.alloc (.cells x t)).alloc (.cells y u)).alloc (.cells z v)) (w.heap.size + 1) u y ∧
    Blk (((w.alloc (.cells x t)).alloc (.cells y u)).alloc (.cells z v)) (w.heap.size + 1 + 1) v z ∧ Below w.heap.size w (((w.alloc (.cells x t)).alloc (.cells y u)).alloc (.cells z v)) := by
  have o0 := fresh_second (w.alloc (.cells x t)) (.cells y u) v z
  rw [show (w.alloc (.cells x t)).heap.size = w.heap.size + 1 by simp] at o0
  exact ⟨((Blk.fresh w t x).alloc _).alloc _, (fresh_second w _ u y).alloc _, o0, (((Below.refl w.heap.size w).alloc (Nat.le_refl _) _).alloc (by simp) _).alloc (by simp; omega) _⟩

set_option maxRecDepth 100000 in
set_option maxHeartbeats 2000000 in
theorem hear_bad (p : Int) (h0 : ¬ p = 0) (h1 : ¬ p = 1) (s0 e0 : Bool) (n0 : Nat) (s1 e1 : Bool) (n1 q : Nat) (b k e : Bool) (n : Nat) (w : World) :
    Calls Try.prog 8 #[psV s0 e0 n0 s1 e1 n1, .int .i64 p, msV q b k e n] w fun x w' => x = .returned (.tuple #[psV s0 e0 n0 s1 e1 n1, .bool false]) ∧ Below w.heap.size w w' := by
  have q0 : (p != 0) = true := bne_iff_ne.2 h0
  have q1 : (p != 1) = true := bne_iff_ne.2 h1
  clear h0 h1
  go_enter Try.func8, Try.ntmps8
  go_upto_region 1 with (fail)
  obtain ⟨h1, h2, h3, h4⟩ := three w (psC s0 e0 n0 s1 e1 n1) (msC q b k e n) (psC false false 0 false false 0) 29 35 29
  have HP := Lib.hid h1; have HM := Lib.hid h2; have HR := Lib.hid h3; have HB := Lib.hid h4
  clear h1 h2 h3 h4
  generalize ((w.alloc (.cells (psC s0 e0 n0 s1 e1 n1) 29)).alloc (.cells (msC q b k e n) 35)).alloc (.cells (psC false false 0 false false 0) 29) = w3 at HP HM HR HB ⊢
  obtain ⟨g, hg⟩ : ∃ g, g = w.heap.size := ⟨_, rfl⟩
  have hgw : w.heap.size ≤ g := by omega
  rw [← hg] at HP HM HR ⊢
  clear hg
  cases Rw6.row HP.out
  cases Rw5.row HM.out
  cases Rw6.row HR.out
  go_wp2
  (try simp only [Exit.inBlock, Exit.then]); refine bodyPost_ret (results_row2 rfl _ _ (g + 1 + 1) 29 _ (0, 0) _ rfl (Rw6.blk_set HR.out _ _ _ _ _ _) Try.underlying29 rfl info_ps) rfl ?_
  exact ⟨rfl, Rw6.below_set HB.out (by omega) _ _ _ _ _ _⟩

set_option maxRecDepth 100000 in
set_option maxHeartbeats 2000000 in
theorem hear_nr0 (s0 e0 : Bool) (n0 : Nat) (s1 e1 : Bool) (n1 q : Nat) (b k e : Bool) (n : Nat) (w : World) (hq : q = 0) (hb : b = false) :
    Calls Try.prog 8 #[psV s0 e0 n0 s1 e1 n1, .int .i64 0, msV q b k e n] w fun x w' => x = .returned (.tuple #[psV false false 0 s1 e1 n1, .bool false]) ∧ Below w.heap.size w w' := by
  subst hq hb
  go_enter Try.func8, Try.ntmps8
  go_upto_region 1 with (fail)
  obtain ⟨h1, h2, h3, h4⟩ := three w (psC s0 e0 n0 s1 e1 n1) (msC 0 false k e n) (psC false false 0 false false 0) 29 35 29
  have HP := Lib.hid h1; have HM := Lib.hid h2; have HR := Lib.hid h3; have HB := Lib.hid h4
  clear h1 h2 h3 h4
  generalize ((w.alloc (.cells (psC s0 e0 n0 s1 e1 n1) 29)).alloc (.cells (msC 0 false k e n) 35)).alloc (.cells (psC false false 0 false false 0) 29) = w3 at HP HM HR HB ⊢
  obtain ⟨g, hg⟩ : ∃ g, g = w.heap.size := ⟨_, rfl⟩
  have hgw : w.heap.size ≤ g := by omega
  rw [← hg] at HP HM HR ⊢
  clear hg
  cases Rw6.row HP.out
  cases Rw5.row HM.out
  cases Rw6.row HR.out
  go_wp2
  (try simp only [Exit.inBlock, Exit.then]); refine bodyPost_ret (results_row2 rfl _ _ (g + 1 + 1) 29 _ (0, 0) _ rfl (Rw6.blk_set (far_lo HR.out (by omega) _ _ _) _ _ _ _ _ _) Try.underlying29 rfl info_ps) rfl ?_
  exact ⟨rfl, Rw6.below_set (below_lo HB.out (by omega) _ _ _) (by omega) _ _ _ _ _ _⟩

set_option maxRecDepth 100000 in
set_option maxHeartbeats 2000000 in
theorem hear_nr1 (s0 e0 : Bool) (n0 : Nat) (s1 e1 : Bool) (n1 q : Nat) (b k e : Bool) (n : Nat) (w : World) (hq : q = 0) (hb : b = false) :
    Calls Try.prog 8 #[psV s0 e0 n0 s1 e1 n1, .int .i64 1, msV q b k e n] w fun x w' => x = .returned (.tuple #[psV s0 e0 n0 false false 0, .bool false]) ∧ Below w.heap.size w w' := by
  subst hq hb
  go_enter Try.func8, Try.ntmps8
  go_upto_region 1 with (fail)
  obtain ⟨h1, h2, h3, h4⟩ := three w (psC s0 e0 n0 s1 e1 n1) (msC 0 false k e n) (psC false false 0 false false 0) 29 35 29
  have HP := Lib.hid h1; have HM := Lib.hid h2; have HR := Lib.hid h3; have HB := Lib.hid h4
  clear h1 h2 h3 h4
  generalize ((w.alloc (.cells (psC s0 e0 n0 s1 e1 n1) 29)).alloc (.cells (msC 0 false k e n) 35)).alloc (.cells (psC false false 0 false false 0) 29) = w3 at HP HM HR HB ⊢
  obtain ⟨g, hg⟩ : ∃ g, g = w.heap.size := ⟨_, rfl⟩
  have hgw : w.heap.size ≤ g := by omega
  rw [← hg] at HP HM HR ⊢
  clear hg
  cases Rw6.row HP.out
  cases Rw5.row HM.out
  cases Rw6.row HR.out
  go_wp2
  (try simp only [Exit.inBlock, Exit.then]); refine bodyPost_ret (results_row2 rfl _ _ (g + 1 + 1) 29 _ (0, 0) _ rfl (Rw6.blk_set (far_hi HR.out (by omega) _ _ _) _ _ _ _ _ _) Try.underlying29 rfl info_ps) rfl ?_
  exact ⟨rfl, Rw6.below_set (below_hi HB.out (by omega) _ _ _) (by omega) _ _ _ _ _ _⟩

set_option maxRecDepth 100000 in
set_option maxHeartbeats 2000000 in
theorem hear_e0 (s0 e0 : Bool) (n0 : Nat) (s1 e1 : Bool) (n1 q : Nat) (b k e : Bool) (n : Nat) (w : World) (hx : ¬ (q = 0 ∧ b = false)) (hz : eqP s0 e0 n0 e n = true) :
    Calls Try.prog 8 #[psV s0 e0 n0 s1 e1 n1, .int .i64 0, msV q b k e n] w fun x w' => x = .returned (.tuple #[psV s0 e0 n0 s1 e1 n1, .bool false]) ∧ Below w.heap.size w w' := by
  obtain ⟨z1, z2, z3⟩ : s0 = true ∧ e0 = e ∧ n0 = n := by
    rcases eqP_cases s0 e0 n0 e n with ⟨h1, h2, h3, h4⟩ | ⟨h4, _⟩
    · exact ⟨h1, h2, h3⟩
    · rw [h4] at hz; cases hz
  clear hz
  subst s0 e0 n0
  have f1 : (e == e) = true := beq_iff_eq.2 rfl
  have f2 : ((n : Int) == (n : Int)) = true := beq_iff_eq.2 rfl
  go_enter Try.func8, Try.ntmps8
  go_upto_region 1 with (fail)
  obtain ⟨h1, h2, h3, h4⟩ := three w (psC true e n s1 e1 n1) (msC q b k e n) (psC false false 0 false false 0) 29 35 29
  have HP := Lib.hid h1; have HM := Lib.hid h2; have HR := Lib.hid h3; have HB := Lib.hid h4
  clear h1 h2 h3 h4
  generalize ((w.alloc (.cells (psC true e n s1 e1 n1) 29)).alloc (.cells (msC q b k e n) 35)).alloc (.cells (psC false false 0 false false 0) 29) = w3 at HP HM HR HB ⊢
  obtain ⟨g, hg⟩ : ∃ g, g = w.heap.size := ⟨_, rfl⟩
  have hgw : w.heap.size ≤ g := by omega
  rw [← hg] at HP HM HR ⊢
  clear hg
  cases Rw6.row HP.out
  cases Rw5.row HM.out
  cases Rw6.row HR.out
  go_upto_region 3 with (fail)
  go_cut [23] (fun s wx => s = .bool false ∧ wx = w3)
  case first =>
    by_cases hq : q = 0
    · subst hq
      cases b with
      | false => exact absurd ⟨rfl, rfl⟩ hx
      | true =>
        clear hx
        go_wp2_with fail
        go_meet
        exact ⟨rfl, rfl⟩
    · have e : ((q : Int) == 0) = false := by simp only [beq_eq_false_iff_ne]; omega
      clear hx hq
      go_wp2_with fail
      go_meet
      exact ⟨rfl, rfl⟩
  case rest =>
    obtain ⟨rfl, rfl⟩ := hcut
    clear hx
    go_upto_region 7 with (fail)
    obtain ⟨w5, hw5, b1, b2, b3, b4, b5⟩ : ∃ w5 : World, w5 = wc.alloc (.cells (prC true e n) 27) ∧ Blk w5 g 29 (psC true e n s1 e1 n1) ∧ Blk w5 (g + 1) 35 (msC q b k e n) ∧ Blk w5 (g + 1 + 1) 29 (psC false false 0 false false 0) ∧ Blk w5 wc.heap.size 27 (prC true e n) ∧ Below w.heap.size w w5 := ⟨_, rfl, HP.out.alloc _, HM.out.alloc _, HR.out.alloc _, Blk.fresh _ _ _, HB.out.alloc HB.out.size _⟩
    rw [← hw5]
    have hgd : g + 1 + 1 < wc.heap.size := HR.out.lt
    generalize wc.heap.size = d at b4 hgd ⊢
    clear hw5 HP HM HR HB
    have HP := Lib.hid b1; have HM := Lib.hid b2; have HR := Lib.hid b3; have HT := Lib.hid b4; have HB := Lib.hid b5
    clear b1 b2 b3 b4 b5
    cases Rw6.row HP.out
    cases Rw5.row HM.out
    cases Rw6.row HR.out
    cases Rw3.row HT.out
    go_quiet (fail)
    go_wp2
    (try simp only [Exit.inBlock, Exit.then]); refine bodyPost_ret (results_row2 rfl _ _ (g + 1 + 1) 29 _ (0, 0) _ rfl (Rw6.blk_set (HR.out.drewN nq) _ _ _ _ _ _) Try.underlying29 rfl info_ps) rfl ?_
    exact ⟨rfl, Rw6.below_set (below_drewN HB.out nq) (by omega) _ _ _ _ _ _⟩

set_option maxRecDepth 100000 in
set_option maxHeartbeats 2000000 in
theorem hear_d0 (s0 e0 : Bool) (n0 : Nat) (s1 e1 : Bool) (n1 q : Nat) (b k e : Bool) (n : Nat) (w : World) (y : Bool) (hx : ¬ (q = 0 ∧ b = false)) (hz : eqP s0 e0 n0 e n = false) (hy : eqP s1 e1 n1 e n = y) :
    Calls Try.prog 8 #[psV s0 e0 n0 s1 e1 n1, .int .i64 0, msV q b k e n] w fun x w' => x = .returned (.tuple #[psV true e n s1 e1 n1, .bool (!k && !y)]) ∧ Below w.heap.size w w' := by
  have HZ := Lib.hid hz; have HY := Lib.hid hy
  clear hz hy
  go_enter Try.func8, Try.ntmps8
  go_upto_region 1 with (fail)
  obtain ⟨h1, h2, h3, h4⟩ := three w (psC s0 e0 n0 s1 e1 n1) (msC q b k e n) (psC false false 0 false false 0) 29 35 29
  have HP := Lib.hid h1; have HM := Lib.hid h2; have HR := Lib.hid h3; have HB := Lib.hid h4
  clear h1 h2 h3 h4
  generalize ((w.alloc (.cells (psC s0 e0 n0 s1 e1 n1) 29)).alloc (.cells (msC q b k e n) 35)).alloc (.cells (psC false false 0 false false 0) 29) = w3 at HP HM HR HB ⊢
  obtain ⟨g, hg⟩ : ∃ g, g = w.heap.size := ⟨_, rfl⟩
  have hgw : w.heap.size ≤ g := by omega
  rw [← hg] at HP HM HR ⊢
  clear hg
  cases Rw6.row HP.out
  cases Rw5.row HM.out
  cases Rw6.row HR.out
  go_upto_region 3 with (fail)
  go_cut [23] (fun s wx => s = .bool false ∧ wx = w3)
  case first =>
    by_cases hq : q = 0
    · subst hq
      cases b with
      | false => exact absurd ⟨rfl, rfl⟩ hx
      | true =>
        clear hx
        go_wp2_with fail
        go_meet
        exact ⟨rfl, rfl⟩
    · have e0 : ((q : Int) == 0) = false := by simp only [beq_eq_false_iff_ne]; omega
      clear hx hq
      go_wp2_with fail
      go_meet
      exact ⟨rfl, rfl⟩
  case rest =>
    obtain ⟨rfl, rfl⟩ := hcut
    clear hx
    go_upto_region 7 with (fail)
    obtain ⟨w5, hw5, b1, b2, b3, b4, b5⟩ : ∃ w5 : World, w5 = wc.alloc (.cells (prC true e n) 27) ∧ Blk w5 g 29 (psC s0 e0 n0 s1 e1 n1) ∧ Blk w5 (g + 1) 35 (msC q b k e n) ∧ Blk w5 (g + 1 + 1) 29 (psC false false 0 false false 0) ∧ Blk w5 wc.heap.size 27 (prC true e n) ∧ Below w.heap.size w w5 := ⟨_, rfl, HP.out.alloc _, HM.out.alloc _, HR.out.alloc _, Blk.fresh _ _ _, HB.out.alloc HB.out.size _⟩
    rw [← hw5]
    have hgd : g + 1 + 1 < wc.heap.size := HR.out.lt
    generalize wc.heap.size = d at b4 hgd ⊢
    clear hw5 HP HM HR HB
    have HP := Lib.hid b1; have HM := Lib.hid b2; have HR := Lib.hid b3; have HT := Lib.hid b4; have HB := Lib.hid b5
    clear b1 b2 b3 b4 b5
    go_cut [37] (fun s wx => s = .bool false ∧ Blk wx g 29 (psC s0 e0 n0 s1 e1 n1) ∧ Blk wx (g + 1) 35 (msC q b k e n) ∧ Blk wx (g + 1 + 1) 29 (psC false false 0 false false 0) ∧ Blk wx d 27 (prC true e n) ∧ Below w.heap.size w wx)
    case first =>
      rcases eqP_cases s0 e0 n0 e n with ⟨h1, h2, h3, h4⟩ | ⟨h4, h1 | ⟨h1, h2⟩ | ⟨h1, h2, h3⟩⟩
      · exact absurd HZ.out (by rw [h4]; decide)
      · clear h4 HZ HY
        subst s0
        cases Rw6.row HP.out
        cases Rw5.row HM.out
        cases Rw6.row HR.out
        cases Rw3.row HT.out
        go_quiet (fail)
        go_wp2_with fail
        go_meet
        exact ⟨rfl, HP.out.drewN nq, HM.out.drewN nq, HR.out.drewN nq, HT.out.drewN nq, below_drewN HB.out nq⟩
      · clear h4 HZ HY
        subst s0
        cases Rw6.row HP.out
        cases Rw5.row HM.out
        cases Rw6.row HR.out
        cases Rw3.row HT.out
        go_quiet (fail)
        go_wp2_with fail
        go_meet
        exact ⟨rfl, HP.out.drewN nq, HM.out.drewN nq, HR.out.drewN nq, HT.out.drewN nq, below_drewN HB.out nq⟩
      · clear h4 HZ HY
        subst s0 h2
        have f1 : (e0 == e0) = true := beq_iff_eq.2 rfl
        have f2 : ((n0 : Int) == (n : Int)) = false := by simp only [beq_eq_false_iff_ne]; omega
        clear h3
        cases Rw6.row HP.out
        cases Rw5.row HM.out
        cases Rw6.row HR.out
        cases Rw3.row HT.out
        go_quiet (fail)
        go_wp2_with fail
        go_meet
        exact ⟨rfl, HP.out.drewN nq, HM.out.drewN nq, HR.out.drewN nq, HT.out.drewN nq, below_drewN HB.out nq⟩
    case rest =>
      obtain ⟨rfl, hP, hM, hR, hT, hB⟩ := hcut
      clear HP HM HR HT HB
      have HP := Lib.hid hP; have HM := Lib.hid hM; have HR := Lib.hid hR; have HT := Lib.hid hT; have HB := Lib.hid hB
      clear hP hM hR hT hB
      cases Rw6.row HP.out
      cases Rw5.row HM.out
      cases Rw6.row HR.out
      cases Rw3.row HT.out
      go_upto_region 10 with (fail)
      obtain ⟨w6, hw6, b1, b2, b3, b4, b5⟩ : ∃ w6 : World, w6 = setLo wc g (.bool true) (.bool e) (.int .u64 (n : Int)) ∧ Blk w6 g 29 (psC true e n s1 e1 n1) ∧ Blk w6 (g + 1) 35 (msC q b k e n) ∧ Blk w6 (g + 1 + 1) 29 (psC false false 0 false false 0) ∧ Blk w6 d 27 (prC true e n) ∧ Below w.heap.size w w6 := ⟨_, rfl, put_lo HP.out _ _ _, far_lo HM.out (by omega) _ _ _, far_lo HR.out (by omega) _ _ _, far_lo HT.out (by omega) _ _ _, below_lo HB.out hgw _ _ _⟩
      dsimp only [setLo] at hw6
      rw [← hw6]
      clear hw6 HP HM HR HT HB
      have HR := Lib.hid b3.drew; have HB := Lib.hid b5.drew; have HS := Lib.hid (And.intro b1 (And.intro b2 b4))
      clear b1 b2 b3 b4 b5
      cases k with
      | true =>
        clear HZ HY
        refine wp_region_held_drew (S := fun wx => Blk wx g 29 (psC true e n s1 e1 n1) ∧ Blk wx (g + 1) 35 (msC q b true e n) ∧ Blk wx d 27 (prC true e n)) (by kernel_rfl) ⟨HS.out.1.drew, HS.out.2.1.drew, HS.out.2.2.drew⟩ (fun hHeld => ?_)
        generalize w6.drew = wd at hHeld HR HB ⊢
        refine Rg.tk 0 (v := ?_) ?_ ?_
        rotate_left
        · intro wx hSx
          cases Rw6.row hSx.1; cases Rw5.row hSx.2.1; cases Rw3.row hSx.2.2; go_simp
          all_goals with_reducible rfl
        simp only [Act.put, Rg.e1, Rg.e2, Rg.e3, Rg.e4, Rg.e5, Rg.e6]
        refine Rg.tk 1 (v := ?_) ?_ ?_
        rotate_left
        · (intro wx hSx; go_simp; all_goals with_reducible rfl)
        simp only [Act.put, Rg.e1, Rg.e2, Rg.e3, Rg.e4, Rg.e5, Rg.e6]
        refine Rg.tk 2 (v := ?_) ?_ ?_
        rotate_left
        · intro wx hSx
          cases Rw6.row hSx.1; cases Rw5.row hSx.2.1; cases Rw3.row hSx.2.2; go_simp
          all_goals with_reducible rfl
        simp only [Act.put, Rg.e1, Rg.e2, Rg.e3, Rg.e4, Rg.e5, Rg.e6]
        refine Rg.tk 3 (v := ?_) ?_ ?_
        rotate_left
        · (intro wx hSx; go_simp; all_goals with_reducible rfl)
        simp only [Act.put, Rg.e1, Rg.e2, Rg.e3, Rg.e4, Rg.e5, Rg.e6]
        refine Rg.tk 4 (v := ?_) ?_ ?_
        rotate_left
        · (intro wx hSx; go_simp; all_goals with_reducible rfl)
        simp only [Act.put, Rg.e1, Rg.e2, Rg.e3, Rg.e4, Rg.e5, Rg.e6]
        refine Rg.sk 5 ?_
        simp only [Act.put, Rg.e1, Rg.e2, Rg.e3, Rg.e4, Rg.e5, Rg.e6]
        refine Rg.sk 6 ?_
        simp only [Act.put, Rg.e1, Rg.e2, Rg.e3, Rg.e4, Rg.e5, Rg.e6]
        refine Rg.sk 7 ?_
        simp only [Act.put, Rg.e1, Rg.e2, Rg.e3, Rg.e4, Rg.e5, Rg.e6]
        refine Rg.sk 8 ?_
        simp only [Act.put, Rg.e1, Rg.e2, Rg.e3, Rg.e4, Rg.e5, Rg.e6]
        refine Rg.sk 9 ?_
        simp only [Act.put, Rg.e1, Rg.e2, Rg.e3, Rg.e4, Rg.e5, Rg.e6]
        refine Rg.sk 10 ?_
        simp only [Act.put, Rg.e1, Rg.e2, Rg.e3, Rg.e4, Rg.e5, Rg.e6]
        refine Rg.tk 11 (v := ?_) ?_ ?_
        rotate_left
        · (intro wx hSx; go_simp; all_goals with_reducible rfl)
        simp only [Act.put, Rg.e1, Rg.e2, Rg.e3, Rg.e4, Rg.e5, Rg.e6]
        refine wpAnyH_ready (rs := [12]) (by kernel_rfl) (by simp) ?_
        refine .cons (o := _) rfl (fun K hK => ?_) ?_
        · cases Rw6.row HR.out
          go_simp
          refine Rg.st_same hK ⟨Rw6.far hHeld.1 (by omega) _ _ _ _ _ _, Rw6.far hHeld.2.1 (by omega) _ _ _ _ _ _, Rw6.far hHeld.2.2 (by omega) _ _ _ _ _ _⟩ (fun hHeld => ?_)
          clear hK K
          obtain ⟨W2, hw9⟩ : ∃ W2, W2 = Rw6.set wd (g + 1 + 1) (.bool true) (.bool e) (.int .u64 (n : Int)) (.bool s1) (.bool e1) (.int .u64 (n1 : Int)) := ⟨_, rfl⟩
          have HR2 : Hid (Blk W2 (g + 1 + 1) 29 (psC true e n s1 e1 n1)) := Lib.hid (by rw [hw9]; exact Rw6.blk_set HR.out _ _ _ _ _ _)
          have HB2 : Hid (Below w.heap.size w W2) := Lib.hid (by rw [hw9]; exact Rw6.below_set HB.out (by omega) _ _ _ _ _ _)
          dsimp only [Rw6.set] at hw9
          rw [← hw9] at hHeld ⊢
          clear hw9
          try simp only [Rg.e1, Rg.e2, Rg.e3]
          refine Rg.tk 13 (v := ?_) ?_ ?_
          rotate_left
          · (intro wx hSx; go_simp; all_goals with_reducible rfl)
          simp only [Act.put, Rg.e1, Rg.e2, Rg.e3, Rg.e4, Rg.e5, Rg.e6]
          refine wpAnyH_done (by kernel_rfl) ?_ _
          go_wp2
          (try simp only [Exit.inBlock, Exit.then]); refine bodyPost_ret (results_row2 rfl _ _ (g + 1 + 1) 29 _ (0, 0) _ rfl HR2.out Try.underlying29 rfl info_ps) rfl ?_
          exact ⟨rfl, HB2.out⟩
        exact AllReadyH.nil
      | false =>
        rcases eqP_cases s1 e1 n1 e n with ⟨h1, h2, h3, h4⟩ | ⟨h4, h1 | ⟨h1, h2⟩ | ⟨h1, h2, h3⟩⟩
        · have hy := HY.out
          rw [h4] at hy
          subst hy
          clear HY HZ h4
          subst s1 e1 n1
          have f1 : (e == e) = true := beq_iff_eq.2 rfl
          have f2 : ((n : Int) == (n : Int)) = true := beq_iff_eq.2 rfl
          refine wp_region_held_drew (S := fun wx => Blk wx g 29 (psC true e n true e n) ∧ Blk wx (g + 1) 35 (msC q b false e n) ∧ Blk wx d 27 (prC true e n)) (by kernel_rfl) ⟨HS.out.1.drew, HS.out.2.1.drew, HS.out.2.2.drew⟩ (fun hHeld => ?_)
          generalize w6.drew = wd at hHeld HR HB ⊢
          refine Rg.tk 0 (v := ?_) ?_ ?_
          rotate_left
          · intro wx hSx
            cases Rw6.row hSx.1; cases Rw5.row hSx.2.1; cases Rw3.row hSx.2.2; go_simp
            all_goals with_reducible rfl
          simp only [Act.put, Rg.e1, Rg.e2, Rg.e3, Rg.e4, Rg.e5, Rg.e6]
          refine Rg.tk 1 (v := ?_) ?_ ?_
          rotate_left
          · (intro wx hSx; go_simp; all_goals with_reducible rfl)
          simp only [Act.put, Rg.e1, Rg.e2, Rg.e3, Rg.e4, Rg.e5, Rg.e6]
          refine Rg.tk 2 (v := ?_) ?_ ?_
          rotate_left
          · intro wx hSx
            cases Rw6.row hSx.1; cases Rw5.row hSx.2.1; cases Rw3.row hSx.2.2; go_simp
            all_goals with_reducible rfl
          simp only [Act.put, Rg.e1, Rg.e2, Rg.e3, Rg.e4, Rg.e5, Rg.e6]
          refine Rg.tk 3 (v := ?_) ?_ ?_
          rotate_left
          · (intro wx hSx; go_simp; all_goals with_reducible rfl)
          simp only [Act.put, Rg.e1, Rg.e2, Rg.e3, Rg.e4, Rg.e5, Rg.e6]
          refine Rg.tk 4 (v := ?_) ?_ ?_
          rotate_left
          · (intro wx hSx; go_simp; all_goals with_reducible rfl)
          simp only [Act.put, Rg.e1, Rg.e2, Rg.e3, Rg.e4, Rg.e5, Rg.e6]
          refine Rg.tk 5 (v := ?_) ?_ ?_
          rotate_left
          · (intro wx hSx; go_simp; all_goals with_reducible rfl)
          simp only [Act.put, Rg.e1, Rg.e2, Rg.e3, Rg.e4, Rg.e5, Rg.e6]
          refine Rg.tk 9 (v := ?_) ?_ ?_
          rotate_left
          · intro wx hSx
            cases Rw6.row hSx.1; cases Rw5.row hSx.2.1; cases Rw3.row hSx.2.2; go_simp
            all_goals with_reducible rfl
          simp only [Act.put, Rg.e1, Rg.e2, Rg.e3, Rg.e4, Rg.e5, Rg.e6]
          refine wpAnyH_ready (rs := [6]) (by kernel_rfl) (by simp) ?_
          refine .cons (o := _) rfl (fun K hK => ?_) ?_
          · go_simp
            refine (other_a wd).mono ?_
            rintro x wz ⟨rfl, rfl⟩
            go_wp2_with fail
            refine Rg.st_same hK hHeld (fun hHeld => ?_)
            clear hK K
            try simp only [Rg.e1, Rg.e2, Rg.e3]
            refine Rg.tk 7 (v := ?_) ?_ ?_
            rotate_left
            · (intro wx hSx; go_simp; all_goals with_reducible rfl)
            simp only [Act.put, Rg.e1, Rg.e2, Rg.e3, Rg.e4, Rg.e5, Rg.e6]
            refine Rg.tk 8 (v := ?_) ?_ ?_
            rotate_left
            · intro wx hSx
              cases Rw6.row hSx.1; cases Rw5.row hSx.2.1; cases Rw3.row hSx.2.2; go_simp
              all_goals with_reducible rfl
            simp only [Act.put, Rg.e1, Rg.e2, Rg.e3, Rg.e4, Rg.e5, Rg.e6]
            refine Rg.tk 10 (v := ?_) ?_ ?_
            rotate_left
            · (intro wx hSx; go_simp; all_goals with_reducible rfl)
            simp only [Act.put, Rg.e1, Rg.e2, Rg.e3, Rg.e4, Rg.e5, Rg.e6]
            refine Rg.tk 11 (v := ?_) ?_ ?_
            rotate_left
            · (intro wx hSx; go_simp; all_goals with_reducible rfl)
            simp only [Act.put, Rg.e1, Rg.e2, Rg.e3, Rg.e4, Rg.e5, Rg.e6]
            refine wpAnyH_ready (rs := [12]) (by kernel_rfl) (by simp) ?_
            refine .cons (o := _) rfl (fun K hK => ?_) ?_
            · cases Rw6.row HR.out
              go_simp
              refine Rg.st_same hK ⟨Rw6.far hHeld.1 (by omega) _ _ _ _ _ _, Rw6.far hHeld.2.1 (by omega) _ _ _ _ _ _, Rw6.far hHeld.2.2 (by omega) _ _ _ _ _ _⟩ (fun hHeld => ?_)
              clear hK K
              obtain ⟨W2, hw9⟩ : ∃ W2, W2 = Rw6.set wd (g + 1 + 1) (.bool true) (.bool e) (.int .u64 (n : Int)) (.bool true) (.bool e) (.int .u64 (n : Int)) := ⟨_, rfl⟩
              have HR2 : Hid (Blk W2 (g + 1 + 1) 29 (psC true e n true e n)) := Lib.hid (by rw [hw9]; exact Rw6.blk_set HR.out _ _ _ _ _ _)
              have HB2 : Hid (Below w.heap.size w W2) := Lib.hid (by rw [hw9]; exact Rw6.below_set HB.out (by omega) _ _ _ _ _ _)
              dsimp only [Rw6.set] at hw9
              rw [← hw9] at hHeld ⊢
              clear hw9
              try simp only [Rg.e1, Rg.e2, Rg.e3]
              refine Rg.tk 13 (v := ?_) ?_ ?_
              rotate_left
              · (intro wx hSx; go_simp; all_goals with_reducible rfl)
              simp only [Act.put, Rg.e1, Rg.e2, Rg.e3, Rg.e4, Rg.e5, Rg.e6]
              refine wpAnyH_done (by kernel_rfl) ?_ _
              go_wp2
              (try simp only [Exit.inBlock, Exit.then]); refine bodyPost_ret (results_row2 rfl _ _ (g + 1 + 1) 29 _ (0, 0) _ rfl HR2.out Try.underlying29 rfl info_ps) rfl ?_
              exact ⟨rfl, HB2.out⟩
            exact AllReadyH.nil
          exact AllReadyH.nil
        · have hy := HY.out
          rw [h4] at hy
          subst hy
          clear HY HZ h4
          subst s1
          refine wp_region_held_drew (S := fun wx => Blk wx g 29 (psC true e n false e1 n1) ∧ Blk wx (g + 1) 35 (msC q b false e n) ∧ Blk wx d 27 (prC true e n)) (by kernel_rfl) ⟨HS.out.1.drew, HS.out.2.1.drew, HS.out.2.2.drew⟩ (fun hHeld => ?_)
          generalize w6.drew = wd at hHeld HR HB ⊢
          refine Rg.tk 0 (v := ?_) ?_ ?_
          rotate_left
          · intro wx hSx
            cases Rw6.row hSx.1; cases Rw5.row hSx.2.1; cases Rw3.row hSx.2.2; go_simp
            all_goals with_reducible rfl
          simp only [Act.put, Rg.e1, Rg.e2, Rg.e3, Rg.e4, Rg.e5, Rg.e6]
          refine Rg.tk 1 (v := ?_) ?_ ?_
          rotate_left
          · (intro wx hSx; go_simp; all_goals with_reducible rfl)
          simp only [Act.put, Rg.e1, Rg.e2, Rg.e3, Rg.e4, Rg.e5, Rg.e6]
          refine Rg.tk 2 (v := ?_) ?_ ?_
          rotate_left
          · intro wx hSx
            cases Rw6.row hSx.1; cases Rw5.row hSx.2.1; cases Rw3.row hSx.2.2; go_simp
            all_goals with_reducible rfl
          simp only [Act.put, Rg.e1, Rg.e2, Rg.e3, Rg.e4, Rg.e5, Rg.e6]
          refine Rg.tk 3 (v := ?_) ?_ ?_
          rotate_left
          · (intro wx hSx; go_simp; all_goals with_reducible rfl)
          simp only [Act.put, Rg.e1, Rg.e2, Rg.e3, Rg.e4, Rg.e5, Rg.e6]
          refine Rg.tk 4 (v := ?_) ?_ ?_
          rotate_left
          · (intro wx hSx; go_simp; all_goals with_reducible rfl)
          simp only [Act.put, Rg.e1, Rg.e2, Rg.e3, Rg.e4, Rg.e5, Rg.e6]
          refine Rg.tk 5 (v := ?_) ?_ ?_
          rotate_left
          · (intro wx hSx; go_simp; all_goals with_reducible rfl)
          simp only [Act.put, Rg.e1, Rg.e2, Rg.e3, Rg.e4, Rg.e5, Rg.e6]
          refine Rg.tk 9 (v := ?_) ?_ ?_
          rotate_left
          · intro wx hSx
            cases Rw6.row hSx.1; cases Rw5.row hSx.2.1; cases Rw3.row hSx.2.2; go_simp
            all_goals with_reducible rfl
          simp only [Act.put, Rg.e1, Rg.e2, Rg.e3, Rg.e4, Rg.e5, Rg.e6]
          refine wpAnyH_ready (rs := [6]) (by kernel_rfl) (by simp) ?_
          refine .cons (o := _) rfl (fun K hK => ?_) ?_
          · go_simp
            refine (other_a wd).mono ?_
            rintro x wz ⟨rfl, rfl⟩
            go_wp2_with fail
            refine Rg.st_same hK hHeld (fun hHeld => ?_)
            clear hK K
            try simp only [Rg.e1, Rg.e2, Rg.e3]
            refine Rg.tk 7 (v := ?_) ?_ ?_
            rotate_left
            · (intro wx hSx; go_simp; all_goals with_reducible rfl)
            simp only [Act.put, Rg.e1, Rg.e2, Rg.e3, Rg.e4, Rg.e5, Rg.e6]
            refine Rg.tk 8 (v := ?_) ?_ ?_
            rotate_left
            · intro wx hSx
              cases Rw6.row hSx.1; cases Rw5.row hSx.2.1; cases Rw3.row hSx.2.2; go_simp
              all_goals with_reducible rfl
            simp only [Act.put, Rg.e1, Rg.e2, Rg.e3, Rg.e4, Rg.e5, Rg.e6]
            refine Rg.tk 10 (v := ?_) ?_ ?_
            rotate_left
            · (intro wx hSx; go_simp; all_goals with_reducible rfl)
            simp only [Act.put, Rg.e1, Rg.e2, Rg.e3, Rg.e4, Rg.e5, Rg.e6]
            refine Rg.tk 11 (v := ?_) ?_ ?_
            rotate_left
            · (intro wx hSx; go_simp; all_goals with_reducible rfl)
            simp only [Act.put, Rg.e1, Rg.e2, Rg.e3, Rg.e4, Rg.e5, Rg.e6]
            refine wpAnyH_ready (rs := [12]) (by kernel_rfl) (by simp) ?_
            refine .cons (o := _) rfl (fun K hK => ?_) ?_
            · cases Rw6.row HR.out
              go_simp
              refine Rg.st_same hK ⟨Rw6.far hHeld.1 (by omega) _ _ _ _ _ _, Rw6.far hHeld.2.1 (by omega) _ _ _ _ _ _, Rw6.far hHeld.2.2 (by omega) _ _ _ _ _ _⟩ (fun hHeld => ?_)
              clear hK K
              obtain ⟨W2, hw9⟩ : ∃ W2, W2 = Rw6.set wd (g + 1 + 1) (.bool true) (.bool e) (.int .u64 (n : Int)) (.bool false) (.bool e1) (.int .u64 (n1 : Int)) := ⟨_, rfl⟩
              have HR2 : Hid (Blk W2 (g + 1 + 1) 29 (psC true e n false e1 n1)) := Lib.hid (by rw [hw9]; exact Rw6.blk_set HR.out _ _ _ _ _ _)
              have HB2 : Hid (Below w.heap.size w W2) := Lib.hid (by rw [hw9]; exact Rw6.below_set HB.out (by omega) _ _ _ _ _ _)
              dsimp only [Rw6.set] at hw9
              rw [← hw9] at hHeld ⊢
              clear hw9
              try simp only [Rg.e1, Rg.e2, Rg.e3]
              refine Rg.tk 13 (v := ?_) ?_ ?_
              rotate_left
              · (intro wx hSx; go_simp; all_goals with_reducible rfl)
              simp only [Act.put, Rg.e1, Rg.e2, Rg.e3, Rg.e4, Rg.e5, Rg.e6]
              refine wpAnyH_done (by kernel_rfl) ?_ _
              go_wp2
              (try simp only [Exit.inBlock, Exit.then]); refine bodyPost_ret (results_row2 rfl _ _ (g + 1 + 1) 29 _ (0, 0) _ rfl HR2.out Try.underlying29 rfl info_ps) rfl ?_
              exact ⟨rfl, HB2.out⟩
            exact AllReadyH.nil
          exact AllReadyH.nil
        · have hy := HY.out
          rw [h4] at hy
          subst hy
          clear HY HZ h4
          subst s1
          refine wp_region_held_drew (S := fun wx => Blk wx g 29 (psC true e n true e1 n1) ∧ Blk wx (g + 1) 35 (msC q b false e n) ∧ Blk wx d 27 (prC true e n)) (by kernel_rfl) ⟨HS.out.1.drew, HS.out.2.1.drew, HS.out.2.2.drew⟩ (fun hHeld => ?_)
          generalize w6.drew = wd at hHeld HR HB ⊢
          refine Rg.tk 0 (v := ?_) ?_ ?_
          rotate_left
          · intro wx hSx
            cases Rw6.row hSx.1; cases Rw5.row hSx.2.1; cases Rw3.row hSx.2.2; go_simp
            all_goals with_reducible rfl
          simp only [Act.put, Rg.e1, Rg.e2, Rg.e3, Rg.e4, Rg.e5, Rg.e6]
          refine Rg.tk 1 (v := ?_) ?_ ?_
          rotate_left
          · (intro wx hSx; go_simp; all_goals with_reducible rfl)
          simp only [Act.put, Rg.e1, Rg.e2, Rg.e3, Rg.e4, Rg.e5, Rg.e6]
          refine Rg.tk 2 (v := ?_) ?_ ?_
          rotate_left
          · intro wx hSx
            cases Rw6.row hSx.1; cases Rw5.row hSx.2.1; cases Rw3.row hSx.2.2; go_simp
            all_goals with_reducible rfl
          simp only [Act.put, Rg.e1, Rg.e2, Rg.e3, Rg.e4, Rg.e5, Rg.e6]
          refine Rg.tk 3 (v := ?_) ?_ ?_
          rotate_left
          · (intro wx hSx; go_simp; all_goals with_reducible rfl)
          simp only [Act.put, Rg.e1, Rg.e2, Rg.e3, Rg.e4, Rg.e5, Rg.e6]
          refine Rg.tk 4 (v := ?_) ?_ ?_
          rotate_left
          · (intro wx hSx; go_simp; all_goals with_reducible rfl)
          simp only [Act.put, Rg.e1, Rg.e2, Rg.e3, Rg.e4, Rg.e5, Rg.e6]
          refine Rg.tk 5 (v := ?_) ?_ ?_
          rotate_left
          · (intro wx hSx; go_simp; all_goals with_reducible rfl)
          simp only [Act.put, Rg.e1, Rg.e2, Rg.e3, Rg.e4, Rg.e5, Rg.e6]
          refine Rg.tk 9 (v := ?_) ?_ ?_
          rotate_left
          · intro wx hSx
            cases Rw6.row hSx.1; cases Rw5.row hSx.2.1; cases Rw3.row hSx.2.2; go_simp
            all_goals with_reducible rfl
          simp only [Act.put, Rg.e1, Rg.e2, Rg.e3, Rg.e4, Rg.e5, Rg.e6]
          refine wpAnyH_ready (rs := [6]) (by kernel_rfl) (by simp) ?_
          refine .cons (o := _) rfl (fun K hK => ?_) ?_
          · go_simp
            refine (other_a wd).mono ?_
            rintro x wz ⟨rfl, rfl⟩
            go_wp2_with fail
            refine Rg.st_same hK hHeld (fun hHeld => ?_)
            clear hK K
            try simp only [Rg.e1, Rg.e2, Rg.e3]
            refine Rg.tk 7 (v := ?_) ?_ ?_
            rotate_left
            · (intro wx hSx; go_simp; all_goals with_reducible rfl)
            simp only [Act.put, Rg.e1, Rg.e2, Rg.e3, Rg.e4, Rg.e5, Rg.e6]
            refine Rg.tk 8 (v := ?_) ?_ ?_
            rotate_left
            · intro wx hSx
              cases Rw6.row hSx.1; cases Rw5.row hSx.2.1; cases Rw3.row hSx.2.2; go_simp
              all_goals with_reducible rfl
            simp only [Act.put, Rg.e1, Rg.e2, Rg.e3, Rg.e4, Rg.e5, Rg.e6]
            refine Rg.tk 10 (v := ?_) ?_ ?_
            rotate_left
            · (intro wx hSx; go_simp; all_goals with_reducible rfl)
            simp only [Act.put, Rg.e1, Rg.e2, Rg.e3, Rg.e4, Rg.e5, Rg.e6]
            refine Rg.tk 11 (v := ?_) ?_ ?_
            rotate_left
            · (intro wx hSx; go_simp; all_goals with_reducible rfl)
            simp only [Act.put, Rg.e1, Rg.e2, Rg.e3, Rg.e4, Rg.e5, Rg.e6]
            refine wpAnyH_ready (rs := [12]) (by kernel_rfl) (by simp) ?_
            refine .cons (o := _) rfl (fun K hK => ?_) ?_
            · cases Rw6.row HR.out
              go_simp
              refine Rg.st_same hK ⟨Rw6.far hHeld.1 (by omega) _ _ _ _ _ _, Rw6.far hHeld.2.1 (by omega) _ _ _ _ _ _, Rw6.far hHeld.2.2 (by omega) _ _ _ _ _ _⟩ (fun hHeld => ?_)
              clear hK K
              obtain ⟨W2, hw9⟩ : ∃ W2, W2 = Rw6.set wd (g + 1 + 1) (.bool true) (.bool e) (.int .u64 (n : Int)) (.bool true) (.bool e1) (.int .u64 (n1 : Int)) := ⟨_, rfl⟩
              have HR2 : Hid (Blk W2 (g + 1 + 1) 29 (psC true e n true e1 n1)) := Lib.hid (by rw [hw9]; exact Rw6.blk_set HR.out _ _ _ _ _ _)
              have HB2 : Hid (Below w.heap.size w W2) := Lib.hid (by rw [hw9]; exact Rw6.below_set HB.out (by omega) _ _ _ _ _ _)
              dsimp only [Rw6.set] at hw9
              rw [← hw9] at hHeld ⊢
              clear hw9
              try simp only [Rg.e1, Rg.e2, Rg.e3]
              refine Rg.tk 13 (v := ?_) ?_ ?_
              rotate_left
              · (intro wx hSx; go_simp; all_goals with_reducible rfl)
              simp only [Act.put, Rg.e1, Rg.e2, Rg.e3, Rg.e4, Rg.e5, Rg.e6]
              refine wpAnyH_done (by kernel_rfl) ?_ _
              go_wp2
              (try simp only [Exit.inBlock, Exit.then]); refine bodyPost_ret (results_row2 rfl _ _ (g + 1 + 1) 29 _ (0, 0) _ rfl HR2.out Try.underlying29 rfl info_ps) rfl ?_
              exact ⟨rfl, HB2.out⟩
            exact AllReadyH.nil
          exact AllReadyH.nil
        · have hy := HY.out
          rw [h4] at hy
          subst hy
          clear HY HZ h4
          subst s1 h2
          have f1 : (e1 == e1) = true := beq_iff_eq.2 rfl
          have f2 : ((n1 : Int) == (n : Int)) = false := by simp only [beq_eq_false_iff_ne]; omega
          clear h3
          refine wp_region_held_drew (S := fun wx => Blk wx g 29 (psC true e1 n true e1 n1) ∧ Blk wx (g + 1) 35 (msC q b false e1 n) ∧ Blk wx d 27 (prC true e1 n)) (by kernel_rfl) ⟨HS.out.1.drew, HS.out.2.1.drew, HS.out.2.2.drew⟩ (fun hHeld => ?_)
          generalize w6.drew = wd at hHeld HR HB ⊢
          refine Rg.tk 0 (v := ?_) ?_ ?_
          rotate_left
          · intro wx hSx
            cases Rw6.row hSx.1; cases Rw5.row hSx.2.1; cases Rw3.row hSx.2.2; go_simp
            all_goals with_reducible rfl
          simp only [Act.put, Rg.e1, Rg.e2, Rg.e3, Rg.e4, Rg.e5, Rg.e6]
          refine Rg.tk 1 (v := ?_) ?_ ?_
          rotate_left
          · (intro wx hSx; go_simp; all_goals with_reducible rfl)
          simp only [Act.put, Rg.e1, Rg.e2, Rg.e3, Rg.e4, Rg.e5, Rg.e6]
          refine Rg.tk 2 (v := ?_) ?_ ?_
          rotate_left
          · intro wx hSx
            cases Rw6.row hSx.1; cases Rw5.row hSx.2.1; cases Rw3.row hSx.2.2; go_simp
            all_goals with_reducible rfl
          simp only [Act.put, Rg.e1, Rg.e2, Rg.e3, Rg.e4, Rg.e5, Rg.e6]
          refine Rg.tk 3 (v := ?_) ?_ ?_
          rotate_left
          · (intro wx hSx; go_simp; all_goals with_reducible rfl)
          simp only [Act.put, Rg.e1, Rg.e2, Rg.e3, Rg.e4, Rg.e5, Rg.e6]
          refine Rg.tk 4 (v := ?_) ?_ ?_
          rotate_left
          · (intro wx hSx; go_simp; all_goals with_reducible rfl)
          simp only [Act.put, Rg.e1, Rg.e2, Rg.e3, Rg.e4, Rg.e5, Rg.e6]
          refine Rg.tk 5 (v := ?_) ?_ ?_
          rotate_left
          · (intro wx hSx; go_simp; all_goals with_reducible rfl)
          simp only [Act.put, Rg.e1, Rg.e2, Rg.e3, Rg.e4, Rg.e5, Rg.e6]
          refine Rg.tk 9 (v := ?_) ?_ ?_
          rotate_left
          · intro wx hSx
            cases Rw6.row hSx.1; cases Rw5.row hSx.2.1; cases Rw3.row hSx.2.2; go_simp
            all_goals with_reducible rfl
          simp only [Act.put, Rg.e1, Rg.e2, Rg.e3, Rg.e4, Rg.e5, Rg.e6]
          refine wpAnyH_ready (rs := [6]) (by kernel_rfl) (by simp) ?_
          refine .cons (o := _) rfl (fun K hK => ?_) ?_
          · go_simp
            refine (other_a wd).mono ?_
            rintro x wz ⟨rfl, rfl⟩
            go_wp2_with fail
            refine Rg.st_same hK hHeld (fun hHeld => ?_)
            clear hK K
            try simp only [Rg.e1, Rg.e2, Rg.e3]
            refine Rg.tk 7 (v := ?_) ?_ ?_
            rotate_left
            · (intro wx hSx; go_simp; all_goals with_reducible rfl)
            simp only [Act.put, Rg.e1, Rg.e2, Rg.e3, Rg.e4, Rg.e5, Rg.e6]
            refine Rg.tk 8 (v := ?_) ?_ ?_
            rotate_left
            · intro wx hSx
              cases Rw6.row hSx.1; cases Rw5.row hSx.2.1; cases Rw3.row hSx.2.2; go_simp
              all_goals with_reducible rfl
            simp only [Act.put, Rg.e1, Rg.e2, Rg.e3, Rg.e4, Rg.e5, Rg.e6]
            refine Rg.tk 10 (v := ?_) ?_ ?_
            rotate_left
            · (intro wx hSx; go_simp; all_goals with_reducible rfl)
            simp only [Act.put, Rg.e1, Rg.e2, Rg.e3, Rg.e4, Rg.e5, Rg.e6]
            refine Rg.tk 11 (v := ?_) ?_ ?_
            rotate_left
            · (intro wx hSx; go_simp; all_goals with_reducible rfl)
            simp only [Act.put, Rg.e1, Rg.e2, Rg.e3, Rg.e4, Rg.e5, Rg.e6]
            refine wpAnyH_ready (rs := [12]) (by kernel_rfl) (by simp) ?_
            refine .cons (o := _) rfl (fun K hK => ?_) ?_
            · cases Rw6.row HR.out
              go_simp
              refine Rg.st_same hK ⟨Rw6.far hHeld.1 (by omega) _ _ _ _ _ _, Rw6.far hHeld.2.1 (by omega) _ _ _ _ _ _, Rw6.far hHeld.2.2 (by omega) _ _ _ _ _ _⟩ (fun hHeld => ?_)
              clear hK K
              obtain ⟨W2, hw9⟩ : ∃ W2, W2 = Rw6.set wd (g + 1 + 1) (.bool true) (.bool e1) (.int .u64 (n : Int)) (.bool true) (.bool e1) (.int .u64 (n1 : Int)) := ⟨_, rfl⟩
              have HR2 : Hid (Blk W2 (g + 1 + 1) 29 (psC true e1 n true e1 n1)) := Lib.hid (by rw [hw9]; exact Rw6.blk_set HR.out _ _ _ _ _ _)
              have HB2 : Hid (Below w.heap.size w W2) := Lib.hid (by rw [hw9]; exact Rw6.below_set HB.out (by omega) _ _ _ _ _ _)
              dsimp only [Rw6.set] at hw9
              rw [← hw9] at hHeld ⊢
              clear hw9
              try simp only [Rg.e1, Rg.e2, Rg.e3]
              refine Rg.tk 13 (v := ?_) ?_ ?_
              rotate_left
              · (intro wx hSx; go_simp; all_goals with_reducible rfl)
              simp only [Act.put, Rg.e1, Rg.e2, Rg.e3, Rg.e4, Rg.e5, Rg.e6]
              refine wpAnyH_done (by kernel_rfl) ?_ _
              go_wp2
              (try simp only [Exit.inBlock, Exit.then]); refine bodyPost_ret (results_row2 rfl _ _ (g + 1 + 1) 29 _ (0, 0) _ rfl HR2.out Try.underlying29 rfl info_ps) rfl ?_
              exact ⟨rfl, HB2.out⟩
            exact AllReadyH.nil
          exact AllReadyH.nil

set_option maxRecDepth 100000 in
set_option maxHeartbeats 2000000 in
theorem hear_e1 (s0 e0 : Bool) (n0 : Nat) (s1 e1 : Bool) (n1 q : Nat) (b k e : Bool) (n : Nat) (w : World) (hx : ¬ (q = 0 ∧ b = false)) (hz : eqP s1 e1 n1 e n = true) :
    Calls Try.prog 8 #[psV s0 e0 n0 s1 e1 n1, .int .i64 1, msV q b k e n] w fun x w' => x = .returned (.tuple #[psV s0 e0 n0 s1 e1 n1, .bool false]) ∧ Below w.heap.size w w' := by
  obtain ⟨z1, z2, z3⟩ : s1 = true ∧ e1 = e ∧ n1 = n := by
    rcases eqP_cases s1 e1 n1 e n with ⟨h1, h2, h3, h4⟩ | ⟨h4, _⟩
    · exact ⟨h1, h2, h3⟩
    · rw [h4] at hz; cases hz
  clear hz
  subst s1 e1 n1
  have f1 : (e == e) = true := beq_iff_eq.2 rfl
  have f2 : ((n : Int) == (n : Int)) = true := beq_iff_eq.2 rfl
  go_enter Try.func8, Try.ntmps8
  go_upto_region 1 with (fail)
  obtain ⟨h1, h2, h3, h4⟩ := three w (psC s0 e0 n0 true e n) (msC q b k e n) (psC false false 0 false false 0) 29 35 29
  have HP := Lib.hid h1; have HM := Lib.hid h2; have HR := Lib.hid h3; have HB := Lib.hid h4
  clear h1 h2 h3 h4
  generalize ((w.alloc (.cells (psC s0 e0 n0 true e n) 29)).alloc (.cells (msC q b k e n) 35)).alloc (.cells (psC false false 0 false false 0) 29) = w3 at HP HM HR HB ⊢
  obtain ⟨g, hg⟩ : ∃ g, g = w.heap.size := ⟨_, rfl⟩
  have hgw : w.heap.size ≤ g := by omega
  rw [← hg] at HP HM HR ⊢
  clear hg
  cases Rw6.row HP.out
  cases Rw5.row HM.out
  cases Rw6.row HR.out
  go_upto_region 3 with (fail)
  go_cut [23] (fun s wx => s = .bool false ∧ wx = w3)
  case first =>
    by_cases hq : q = 0
    · subst hq
      cases b with
      | false => exact absurd ⟨rfl, rfl⟩ hx
      | true =>
        clear hx
        go_wp2_with fail
        go_meet
        exact ⟨rfl, rfl⟩
    · have e0 : ((q : Int) == 0) = false := by simp only [beq_eq_false_iff_ne]; omega
      clear hx hq
      go_wp2_with fail
      go_meet
      exact ⟨rfl, rfl⟩
  case rest =>
    obtain ⟨rfl, rfl⟩ := hcut
    clear hx
    go_upto_region 7 with (fail)
    obtain ⟨w5, hw5, b1, b2, b3, b4, b5⟩ : ∃ w5 : World, w5 = wc.alloc (.cells (prC true e n) 27) ∧ Blk w5 g 29 (psC s0 e0 n0 true e n) ∧ Blk w5 (g + 1) 35 (msC q b k e n) ∧ Blk w5 (g + 1 + 1) 29 (psC false false 0 false false 0) ∧ Blk w5 wc.heap.size 27 (prC true e n) ∧ Below w.heap.size w w5 := ⟨_, rfl, HP.out.alloc _, HM.out.alloc _, HR.out.alloc _, Blk.fresh _ _ _, HB.out.alloc HB.out.size _⟩
    rw [← hw5]
    have hgd : g + 1 + 1 < wc.heap.size := HR.out.lt
    generalize wc.heap.size = d at b4 hgd ⊢
    clear hw5 HP HM HR HB
    have HP := Lib.hid b1; have HM := Lib.hid b2; have HR := Lib.hid b3; have HT := Lib.hid b4; have HB := Lib.hid b5
    clear b1 b2 b3 b4 b5
    cases Rw6.row HP.out
    cases Rw5.row HM.out
    cases Rw6.row HR.out
    cases Rw3.row HT.out
    go_quiet (fail)
    go_wp2
    (try simp only [Exit.inBlock, Exit.then]); refine bodyPost_ret (results_row2 rfl _ _ (g + 1 + 1) 29 _ (0, 0) _ rfl (Rw6.blk_set (HR.out.drewN nq) _ _ _ _ _ _) Try.underlying29 rfl info_ps) rfl ?_
    exact ⟨rfl, Rw6.below_set (below_drewN HB.out nq) (by omega) _ _ _ _ _ _⟩

set_option maxRecDepth 100000 in
set_option maxHeartbeats 2000000 in
theorem hear_d1 (s0 e0 : Bool) (n0 : Nat) (s1 e1 : Bool) (n1 q : Nat) (b k e : Bool) (n : Nat) (w : World) (y : Bool) (hx : ¬ (q = 0 ∧ b = false)) (hz : eqP s1 e1 n1 e n = false) (hy : eqP s0 e0 n0 e n = y) :
    Calls Try.prog 8 #[psV s0 e0 n0 s1 e1 n1, .int .i64 1, msV q b k e n] w fun x w' => x = .returned (.tuple #[psV s0 e0 n0 true e n, .bool (!k && !y)]) ∧ Below w.heap.size w w' := by
  have HZ := Lib.hid hz; have HY := Lib.hid hy
  clear hz hy
  go_enter Try.func8, Try.ntmps8
  go_upto_region 1 with (fail)
  obtain ⟨h1, h2, h3, h4⟩ := three w (psC s0 e0 n0 s1 e1 n1) (msC q b k e n) (psC false false 0 false false 0) 29 35 29
  have HP := Lib.hid h1; have HM := Lib.hid h2; have HR := Lib.hid h3; have HB := Lib.hid h4
  clear h1 h2 h3 h4
  generalize ((w.alloc (.cells (psC s0 e0 n0 s1 e1 n1) 29)).alloc (.cells (msC q b k e n) 35)).alloc (.cells (psC false false 0 false false 0) 29) = w3 at HP HM HR HB ⊢
  obtain ⟨g, hg⟩ : ∃ g, g = w.heap.size := ⟨_, rfl⟩
  have hgw : w.heap.size ≤ g := by omega
  rw [← hg] at HP HM HR ⊢
  clear hg
  cases Rw6.row HP.out
  cases Rw5.row HM.out
  cases Rw6.row HR.out
  go_upto_region 3 with (fail)
  go_cut [23] (fun s wx => s = .bool false ∧ wx = w3)
  case first =>
    by_cases hq : q = 0
    · subst hq
      cases b with
      | false => exact absurd ⟨rfl, rfl⟩ hx
      | true =>
        clear hx
        go_wp2_with fail
        go_meet
        exact ⟨rfl, rfl⟩
    · have e0 : ((q : Int) == 0) = false := by simp only [beq_eq_false_iff_ne]; omega
      clear hx hq
      go_wp2_with fail
      go_meet
      exact ⟨rfl, rfl⟩
  case rest =>
    obtain ⟨rfl, rfl⟩ := hcut
    clear hx
    go_upto_region 7 with (fail)
    obtain ⟨w5, hw5, b1, b2, b3, b4, b5⟩ : ∃ w5 : World, w5 = wc.alloc (.cells (prC true e n) 27) ∧ Blk w5 g 29 (psC s0 e0 n0 s1 e1 n1) ∧ Blk w5 (g + 1) 35 (msC q b k e n) ∧ Blk w5 (g + 1 + 1) 29 (psC false false 0 false false 0) ∧ Blk w5 wc.heap.size 27 (prC true e n) ∧ Below w.heap.size w w5 := ⟨_, rfl, HP.out.alloc _, HM.out.alloc _, HR.out.alloc _, Blk.fresh _ _ _, HB.out.alloc HB.out.size _⟩
    rw [← hw5]
    have hgd : g + 1 + 1 < wc.heap.size := HR.out.lt
    generalize wc.heap.size = d at b4 hgd ⊢
    clear hw5 HP HM HR HB
    have HP := Lib.hid b1; have HM := Lib.hid b2; have HR := Lib.hid b3; have HT := Lib.hid b4; have HB := Lib.hid b5
    clear b1 b2 b3 b4 b5
    go_cut [37] (fun s wx => s = .bool false ∧ Blk wx g 29 (psC s0 e0 n0 s1 e1 n1) ∧ Blk wx (g + 1) 35 (msC q b k e n) ∧ Blk wx (g + 1 + 1) 29 (psC false false 0 false false 0) ∧ Blk wx d 27 (prC true e n) ∧ Below w.heap.size w wx)
    case first =>
      rcases eqP_cases s1 e1 n1 e n with ⟨h1, h2, h3, h4⟩ | ⟨h4, h1 | ⟨h1, h2⟩ | ⟨h1, h2, h3⟩⟩
      · exact absurd HZ.out (by rw [h4]; decide)
      · clear h4 HZ HY
        subst s1
        cases Rw6.row HP.out
        cases Rw5.row HM.out
        cases Rw6.row HR.out
        cases Rw3.row HT.out
        go_quiet (fail)
        go_wp2_with fail
        go_meet
        exact ⟨rfl, HP.out.drewN nq, HM.out.drewN nq, HR.out.drewN nq, HT.out.drewN nq, below_drewN HB.out nq⟩
      · clear h4 HZ HY
        subst s1
        cases Rw6.row HP.out
        cases Rw5.row HM.out
        cases Rw6.row HR.out
        cases Rw3.row HT.out
        go_quiet (fail)
        go_wp2_with fail
        go_meet
        exact ⟨rfl, HP.out.drewN nq, HM.out.drewN nq, HR.out.drewN nq, HT.out.drewN nq, below_drewN HB.out nq⟩
      · clear h4 HZ HY
        subst s1 h2
        have f1 : (e1 == e1) = true := beq_iff_eq.2 rfl
        have f2 : ((n1 : Int) == (n : Int)) = false := by simp only [beq_eq_false_iff_ne]; omega
        clear h3
        cases Rw6.row HP.out
        cases Rw5.row HM.out
        cases Rw6.row HR.out
        cases Rw3.row HT.out
        go_quiet (fail)
        go_wp2_with fail
        go_meet
        exact ⟨rfl, HP.out.drewN nq, HM.out.drewN nq, HR.out.drewN nq, HT.out.drewN nq, below_drewN HB.out nq⟩
    case rest =>
      obtain ⟨rfl, hP, hM, hR, hT, hB⟩ := hcut
      clear HP HM HR HT HB
      have HP := Lib.hid hP; have HM := Lib.hid hM; have HR := Lib.hid hR; have HT := Lib.hid hT; have HB := Lib.hid hB
      clear hP hM hR hT hB
      cases Rw6.row HP.out
      cases Rw5.row HM.out
      cases Rw6.row HR.out
      cases Rw3.row HT.out
      go_upto_region 10 with (fail)
      obtain ⟨w6, hw6, b1, b2, b3, b4, b5⟩ : ∃ w6 : World, w6 = setHi wc g (.bool true) (.bool e) (.int .u64 (n : Int)) ∧ Blk w6 g 29 (psC s0 e0 n0 true e n) ∧ Blk w6 (g + 1) 35 (msC q b k e n) ∧ Blk w6 (g + 1 + 1) 29 (psC false false 0 false false 0) ∧ Blk w6 d 27 (prC true e n) ∧ Below w.heap.size w w6 := ⟨_, rfl, put_hi HP.out _ _ _, far_hi HM.out (by omega) _ _ _, far_hi HR.out (by omega) _ _ _, far_hi HT.out (by omega) _ _ _, below_hi HB.out hgw _ _ _⟩
      dsimp only [setHi] at hw6
      rw [← hw6]
      clear hw6 HP HM HR HT HB
      have HR := Lib.hid b3.drew; have HB := Lib.hid b5.drew; have HS := Lib.hid (And.intro b1 (And.intro b2 b4))
      clear b1 b2 b3 b4 b5
      cases k with
      | true =>
        clear HZ HY
        refine wp_region_held_drew (S := fun wx => Blk wx g 29 (psC s0 e0 n0 true e n) ∧ Blk wx (g + 1) 35 (msC q b true e n) ∧ Blk wx d 27 (prC true e n)) (by kernel_rfl) ⟨HS.out.1.drew, HS.out.2.1.drew, HS.out.2.2.drew⟩ (fun hHeld => ?_)
        generalize w6.drew = wd at hHeld HR HB ⊢
        refine Rg.tk 0 (v := ?_) ?_ ?_
        rotate_left
        · intro wx hSx
          cases Rw6.row hSx.1; cases Rw5.row hSx.2.1; cases Rw3.row hSx.2.2; go_simp
          all_goals with_reducible rfl
        simp only [Act.put, Rg.e1, Rg.e2, Rg.e3, Rg.e4, Rg.e5, Rg.e6]
        refine Rg.tk 1 (v := ?_) ?_ ?_
        rotate_left
        · (intro wx hSx; go_simp; all_goals with_reducible rfl)
        simp only [Act.put, Rg.e1, Rg.e2, Rg.e3, Rg.e4, Rg.e5, Rg.e6]
        refine Rg.tk 2 (v := ?_) ?_ ?_
        rotate_left
        · intro wx hSx
          cases Rw6.row hSx.1; cases Rw5.row hSx.2.1; cases Rw3.row hSx.2.2; go_simp
          all_goals with_reducible rfl
        simp only [Act.put, Rg.e1, Rg.e2, Rg.e3, Rg.e4, Rg.e5, Rg.e6]
        refine Rg.tk 3 (v := ?_) ?_ ?_
        rotate_left
        · (intro wx hSx; go_simp; all_goals with_reducible rfl)
        simp only [Act.put, Rg.e1, Rg.e2, Rg.e3, Rg.e4, Rg.e5, Rg.e6]
        refine Rg.tk 4 (v := ?_) ?_ ?_
        rotate_left
        · (intro wx hSx; go_simp; all_goals with_reducible rfl)
        simp only [Act.put, Rg.e1, Rg.e2, Rg.e3, Rg.e4, Rg.e5, Rg.e6]
        refine Rg.sk 5 ?_
        simp only [Act.put, Rg.e1, Rg.e2, Rg.e3, Rg.e4, Rg.e5, Rg.e6]
        refine Rg.sk 6 ?_
        simp only [Act.put, Rg.e1, Rg.e2, Rg.e3, Rg.e4, Rg.e5, Rg.e6]
        refine Rg.sk 7 ?_
        simp only [Act.put, Rg.e1, Rg.e2, Rg.e3, Rg.e4, Rg.e5, Rg.e6]
        refine Rg.sk 8 ?_
        simp only [Act.put, Rg.e1, Rg.e2, Rg.e3, Rg.e4, Rg.e5, Rg.e6]
        refine Rg.sk 9 ?_
        simp only [Act.put, Rg.e1, Rg.e2, Rg.e3, Rg.e4, Rg.e5, Rg.e6]
        refine Rg.sk 10 ?_
        simp only [Act.put, Rg.e1, Rg.e2, Rg.e3, Rg.e4, Rg.e5, Rg.e6]
        refine Rg.tk 11 (v := ?_) ?_ ?_
        rotate_left
        · (intro wx hSx; go_simp; all_goals with_reducible rfl)
        simp only [Act.put, Rg.e1, Rg.e2, Rg.e3, Rg.e4, Rg.e5, Rg.e6]
        refine wpAnyH_ready (rs := [12]) (by kernel_rfl) (by simp) ?_
        refine .cons (o := _) rfl (fun K hK => ?_) ?_
        · cases Rw6.row HR.out
          go_simp
          refine Rg.st_same hK ⟨Rw6.far hHeld.1 (by omega) _ _ _ _ _ _, Rw6.far hHeld.2.1 (by omega) _ _ _ _ _ _, Rw6.far hHeld.2.2 (by omega) _ _ _ _ _ _⟩ (fun hHeld => ?_)
          clear hK K
          obtain ⟨W2, hw9⟩ : ∃ W2, W2 = Rw6.set wd (g + 1 + 1) (.bool s0) (.bool e0) (.int .u64 (n0 : Int)) (.bool true) (.bool e) (.int .u64 (n : Int)) := ⟨_, rfl⟩
          have HR2 : Hid (Blk W2 (g + 1 + 1) 29 (psC s0 e0 n0 true e n)) := Lib.hid (by rw [hw9]; exact Rw6.blk_set HR.out _ _ _ _ _ _)
          have HB2 : Hid (Below w.heap.size w W2) := Lib.hid (by rw [hw9]; exact Rw6.below_set HB.out (by omega) _ _ _ _ _ _)
          dsimp only [Rw6.set] at hw9
          rw [← hw9] at hHeld ⊢
          clear hw9
          try simp only [Rg.e1, Rg.e2, Rg.e3]
          refine Rg.tk 13 (v := ?_) ?_ ?_
          rotate_left
          · (intro wx hSx; go_simp; all_goals with_reducible rfl)
          simp only [Act.put, Rg.e1, Rg.e2, Rg.e3, Rg.e4, Rg.e5, Rg.e6]
          refine wpAnyH_done (by kernel_rfl) ?_ _
          go_wp2
          (try simp only [Exit.inBlock, Exit.then]); refine bodyPost_ret (results_row2 rfl _ _ (g + 1 + 1) 29 _ (0, 0) _ rfl HR2.out Try.underlying29 rfl info_ps) rfl ?_
          exact ⟨rfl, HB2.out⟩
        exact AllReadyH.nil
      | false =>
        rcases eqP_cases s0 e0 n0 e n with ⟨h1, h2, h3, h4⟩ | ⟨h4, h1 | ⟨h1, h2⟩ | ⟨h1, h2, h3⟩⟩
        · have hy := HY.out
          rw [h4] at hy
          subst hy
          clear HY HZ h4
          subst s0 e0 n0
          have f1 : (e == e) = true := beq_iff_eq.2 rfl
          have f2 : ((n : Int) == (n : Int)) = true := beq_iff_eq.2 rfl
          refine wp_region_held_drew (S := fun wx => Blk wx g 29 (psC true e n true e n) ∧ Blk wx (g + 1) 35 (msC q b false e n) ∧ Blk wx d 27 (prC true e n)) (by kernel_rfl) ⟨HS.out.1.drew, HS.out.2.1.drew, HS.out.2.2.drew⟩ (fun hHeld => ?_)
          generalize w6.drew = wd at hHeld HR HB ⊢
          refine Rg.tk 0 (v := ?_) ?_ ?_
          rotate_left
          · intro wx hSx
            cases Rw6.row hSx.1; cases Rw5.row hSx.2.1; cases Rw3.row hSx.2.2; go_simp
            all_goals with_reducible rfl
          simp only [Act.put, Rg.e1, Rg.e2, Rg.e3, Rg.e4, Rg.e5, Rg.e6]
          refine Rg.tk 1 (v := ?_) ?_ ?_
          rotate_left
          · (intro wx hSx; go_simp; all_goals with_reducible rfl)
          simp only [Act.put, Rg.e1, Rg.e2, Rg.e3, Rg.e4, Rg.e5, Rg.e6]
          refine Rg.tk 2 (v := ?_) ?_ ?_
          rotate_left
          · intro wx hSx
            cases Rw6.row hSx.1; cases Rw5.row hSx.2.1; cases Rw3.row hSx.2.2; go_simp
            all_goals with_reducible rfl
          simp only [Act.put, Rg.e1, Rg.e2, Rg.e3, Rg.e4, Rg.e5, Rg.e6]
          refine Rg.tk 3 (v := ?_) ?_ ?_
          rotate_left
          · (intro wx hSx; go_simp; all_goals with_reducible rfl)
          simp only [Act.put, Rg.e1, Rg.e2, Rg.e3, Rg.e4, Rg.e5, Rg.e6]
          refine Rg.tk 4 (v := ?_) ?_ ?_
          rotate_left
          · (intro wx hSx; go_simp; all_goals with_reducible rfl)
          simp only [Act.put, Rg.e1, Rg.e2, Rg.e3, Rg.e4, Rg.e5, Rg.e6]
          refine Rg.tk 5 (v := ?_) ?_ ?_
          rotate_left
          · (intro wx hSx; go_simp; all_goals with_reducible rfl)
          simp only [Act.put, Rg.e1, Rg.e2, Rg.e3, Rg.e4, Rg.e5, Rg.e6]
          refine Rg.tk 9 (v := ?_) ?_ ?_
          rotate_left
          · intro wx hSx
            cases Rw6.row hSx.1; cases Rw5.row hSx.2.1; cases Rw3.row hSx.2.2; go_simp
            all_goals with_reducible rfl
          simp only [Act.put, Rg.e1, Rg.e2, Rg.e3, Rg.e4, Rg.e5, Rg.e6]
          refine wpAnyH_ready (rs := [6]) (by kernel_rfl) (by simp) ?_
          refine .cons (o := _) rfl (fun K hK => ?_) ?_
          · go_simp
            refine (other_b wd).mono ?_
            rintro x wz ⟨rfl, rfl⟩
            go_wp2_with fail
            refine Rg.st_same hK hHeld (fun hHeld => ?_)
            clear hK K
            try simp only [Rg.e1, Rg.e2, Rg.e3]
            refine Rg.tk 7 (v := ?_) ?_ ?_
            rotate_left
            · (intro wx hSx; go_simp; all_goals with_reducible rfl)
            simp only [Act.put, Rg.e1, Rg.e2, Rg.e3, Rg.e4, Rg.e5, Rg.e6]
            refine Rg.tk 8 (v := ?_) ?_ ?_
            rotate_left
            · intro wx hSx
              cases Rw6.row hSx.1; cases Rw5.row hSx.2.1; cases Rw3.row hSx.2.2; go_simp
              all_goals with_reducible rfl
            simp only [Act.put, Rg.e1, Rg.e2, Rg.e3, Rg.e4, Rg.e5, Rg.e6]
            refine Rg.tk 10 (v := ?_) ?_ ?_
            rotate_left
            · (intro wx hSx; go_simp; all_goals with_reducible rfl)
            simp only [Act.put, Rg.e1, Rg.e2, Rg.e3, Rg.e4, Rg.e5, Rg.e6]
            refine Rg.tk 11 (v := ?_) ?_ ?_
            rotate_left
            · (intro wx hSx; go_simp; all_goals with_reducible rfl)
            simp only [Act.put, Rg.e1, Rg.e2, Rg.e3, Rg.e4, Rg.e5, Rg.e6]
            refine wpAnyH_ready (rs := [12]) (by kernel_rfl) (by simp) ?_
            refine .cons (o := _) rfl (fun K hK => ?_) ?_
            · cases Rw6.row HR.out
              go_simp
              refine Rg.st_same hK ⟨Rw6.far hHeld.1 (by omega) _ _ _ _ _ _, Rw6.far hHeld.2.1 (by omega) _ _ _ _ _ _, Rw6.far hHeld.2.2 (by omega) _ _ _ _ _ _⟩ (fun hHeld => ?_)
              clear hK K
              obtain ⟨W2, hw9⟩ : ∃ W2, W2 = Rw6.set wd (g + 1 + 1) (.bool true) (.bool e) (.int .u64 (n : Int)) (.bool true) (.bool e) (.int .u64 (n : Int)) := ⟨_, rfl⟩
              have HR2 : Hid (Blk W2 (g + 1 + 1) 29 (psC true e n true e n)) := Lib.hid (by rw [hw9]; exact Rw6.blk_set HR.out _ _ _ _ _ _)
              have HB2 : Hid (Below w.heap.size w W2) := Lib.hid (by rw [hw9]; exact Rw6.below_set HB.out (by omega) _ _ _ _ _ _)
              dsimp only [Rw6.set] at hw9
              rw [← hw9] at hHeld ⊢
              clear hw9
              try simp only [Rg.e1, Rg.e2, Rg.e3]
              refine Rg.tk 13 (v := ?_) ?_ ?_
              rotate_left
              · (intro wx hSx; go_simp; all_goals with_reducible rfl)
              simp only [Act.put, Rg.e1, Rg.e2, Rg.e3, Rg.e4, Rg.e5, Rg.e6]
              refine wpAnyH_done (by kernel_rfl) ?_ _
              go_wp2
              (try simp only [Exit.inBlock, Exit.then]); refine bodyPost_ret (results_row2 rfl _ _ (g + 1 + 1) 29 _ (0, 0) _ rfl HR2.out Try.underlying29 rfl info_ps) rfl ?_
              exact ⟨rfl, HB2.out⟩
            exact AllReadyH.nil
          exact AllReadyH.nil
        · have hy := HY.out
          rw [h4] at hy
          subst hy
          clear HY HZ h4
          subst s0
          refine wp_region_held_drew (S := fun wx => Blk wx g 29 (psC false e0 n0 true e n) ∧ Blk wx (g + 1) 35 (msC q b false e n) ∧ Blk wx d 27 (prC true e n)) (by kernel_rfl) ⟨HS.out.1.drew, HS.out.2.1.drew, HS.out.2.2.drew⟩ (fun hHeld => ?_)
          generalize w6.drew = wd at hHeld HR HB ⊢
          refine Rg.tk 0 (v := ?_) ?_ ?_
          rotate_left
          · intro wx hSx
            cases Rw6.row hSx.1; cases Rw5.row hSx.2.1; cases Rw3.row hSx.2.2; go_simp
            all_goals with_reducible rfl
          simp only [Act.put, Rg.e1, Rg.e2, Rg.e3, Rg.e4, Rg.e5, Rg.e6]
          refine Rg.tk 1 (v := ?_) ?_ ?_
          rotate_left
          · (intro wx hSx; go_simp; all_goals with_reducible rfl)
          simp only [Act.put, Rg.e1, Rg.e2, Rg.e3, Rg.e4, Rg.e5, Rg.e6]
          refine Rg.tk 2 (v := ?_) ?_ ?_
          rotate_left
          · intro wx hSx
            cases Rw6.row hSx.1; cases Rw5.row hSx.2.1; cases Rw3.row hSx.2.2; go_simp
            all_goals with_reducible rfl
          simp only [Act.put, Rg.e1, Rg.e2, Rg.e3, Rg.e4, Rg.e5, Rg.e6]
          refine Rg.tk 3 (v := ?_) ?_ ?_
          rotate_left
          · (intro wx hSx; go_simp; all_goals with_reducible rfl)
          simp only [Act.put, Rg.e1, Rg.e2, Rg.e3, Rg.e4, Rg.e5, Rg.e6]
          refine Rg.tk 4 (v := ?_) ?_ ?_
          rotate_left
          · (intro wx hSx; go_simp; all_goals with_reducible rfl)
          simp only [Act.put, Rg.e1, Rg.e2, Rg.e3, Rg.e4, Rg.e5, Rg.e6]
          refine Rg.tk 5 (v := ?_) ?_ ?_
          rotate_left
          · (intro wx hSx; go_simp; all_goals with_reducible rfl)
          simp only [Act.put, Rg.e1, Rg.e2, Rg.e3, Rg.e4, Rg.e5, Rg.e6]
          refine Rg.tk 9 (v := ?_) ?_ ?_
          rotate_left
          · intro wx hSx
            cases Rw6.row hSx.1; cases Rw5.row hSx.2.1; cases Rw3.row hSx.2.2; go_simp
            all_goals with_reducible rfl
          simp only [Act.put, Rg.e1, Rg.e2, Rg.e3, Rg.e4, Rg.e5, Rg.e6]
          refine wpAnyH_ready (rs := [6]) (by kernel_rfl) (by simp) ?_
          refine .cons (o := _) rfl (fun K hK => ?_) ?_
          · go_simp
            refine (other_b wd).mono ?_
            rintro x wz ⟨rfl, rfl⟩
            go_wp2_with fail
            refine Rg.st_same hK hHeld (fun hHeld => ?_)
            clear hK K
            try simp only [Rg.e1, Rg.e2, Rg.e3]
            refine Rg.tk 7 (v := ?_) ?_ ?_
            rotate_left
            · (intro wx hSx; go_simp; all_goals with_reducible rfl)
            simp only [Act.put, Rg.e1, Rg.e2, Rg.e3, Rg.e4, Rg.e5, Rg.e6]
            refine Rg.tk 8 (v := ?_) ?_ ?_
            rotate_left
            · intro wx hSx
              cases Rw6.row hSx.1; cases Rw5.row hSx.2.1; cases Rw3.row hSx.2.2; go_simp
              all_goals with_reducible rfl
            simp only [Act.put, Rg.e1, Rg.e2, Rg.e3, Rg.e4, Rg.e5, Rg.e6]
            refine Rg.tk 10 (v := ?_) ?_ ?_
            rotate_left
            · (intro wx hSx; go_simp; all_goals with_reducible rfl)
            simp only [Act.put, Rg.e1, Rg.e2, Rg.e3, Rg.e4, Rg.e5, Rg.e6]
            refine Rg.tk 11 (v := ?_) ?_ ?_
            rotate_left
            · (intro wx hSx; go_simp; all_goals with_reducible rfl)
            simp only [Act.put, Rg.e1, Rg.e2, Rg.e3, Rg.e4, Rg.e5, Rg.e6]
            refine wpAnyH_ready (rs := [12]) (by kernel_rfl) (by simp) ?_
            refine .cons (o := _) rfl (fun K hK => ?_) ?_
            · cases Rw6.row HR.out
              go_simp
              refine Rg.st_same hK ⟨Rw6.far hHeld.1 (by omega) _ _ _ _ _ _, Rw6.far hHeld.2.1 (by omega) _ _ _ _ _ _, Rw6.far hHeld.2.2 (by omega) _ _ _ _ _ _⟩ (fun hHeld => ?_)
              clear hK K
              obtain ⟨W2, hw9⟩ : ∃ W2, W2 = Rw6.set wd (g + 1 + 1) (.bool false) (.bool e0) (.int .u64 (n0 : Int)) (.bool true) (.bool e) (.int .u64 (n : Int)) := ⟨_, rfl⟩
              have HR2 : Hid (Blk W2 (g + 1 + 1) 29 (psC false e0 n0 true e n)) := Lib.hid (by rw [hw9]; exact Rw6.blk_set HR.out _ _ _ _ _ _)
              have HB2 : Hid (Below w.heap.size w W2) := Lib.hid (by rw [hw9]; exact Rw6.below_set HB.out (by omega) _ _ _ _ _ _)
              dsimp only [Rw6.set] at hw9
              rw [← hw9] at hHeld ⊢
              clear hw9
              try simp only [Rg.e1, Rg.e2, Rg.e3]
              refine Rg.tk 13 (v := ?_) ?_ ?_
              rotate_left
              · (intro wx hSx; go_simp; all_goals with_reducible rfl)
              simp only [Act.put, Rg.e1, Rg.e2, Rg.e3, Rg.e4, Rg.e5, Rg.e6]
              refine wpAnyH_done (by kernel_rfl) ?_ _
              go_wp2
              (try simp only [Exit.inBlock, Exit.then]); refine bodyPost_ret (results_row2 rfl _ _ (g + 1 + 1) 29 _ (0, 0) _ rfl HR2.out Try.underlying29 rfl info_ps) rfl ?_
              exact ⟨rfl, HB2.out⟩
            exact AllReadyH.nil
          exact AllReadyH.nil
        · have hy := HY.out
          rw [h4] at hy
          subst hy
          clear HY HZ h4
          subst s0
          refine wp_region_held_drew (S := fun wx => Blk wx g 29 (psC true e0 n0 true e n) ∧ Blk wx (g + 1) 35 (msC q b false e n) ∧ Blk wx d 27 (prC true e n)) (by kernel_rfl) ⟨HS.out.1.drew, HS.out.2.1.drew, HS.out.2.2.drew⟩ (fun hHeld => ?_)
          generalize w6.drew = wd at hHeld HR HB ⊢
          refine Rg.tk 0 (v := ?_) ?_ ?_
          rotate_left
          · intro wx hSx
            cases Rw6.row hSx.1; cases Rw5.row hSx.2.1; cases Rw3.row hSx.2.2; go_simp
            all_goals with_reducible rfl
          simp only [Act.put, Rg.e1, Rg.e2, Rg.e3, Rg.e4, Rg.e5, Rg.e6]
          refine Rg.tk 1 (v := ?_) ?_ ?_
          rotate_left
          · (intro wx hSx; go_simp; all_goals with_reducible rfl)
          simp only [Act.put, Rg.e1, Rg.e2, Rg.e3, Rg.e4, Rg.e5, Rg.e6]
          refine Rg.tk 2 (v := ?_) ?_ ?_
          rotate_left
          · intro wx hSx
            cases Rw6.row hSx.1; cases Rw5.row hSx.2.1; cases Rw3.row hSx.2.2; go_simp
            all_goals with_reducible rfl
          simp only [Act.put, Rg.e1, Rg.e2, Rg.e3, Rg.e4, Rg.e5, Rg.e6]
          refine Rg.tk 3 (v := ?_) ?_ ?_
          rotate_left
          · (intro wx hSx; go_simp; all_goals with_reducible rfl)
          simp only [Act.put, Rg.e1, Rg.e2, Rg.e3, Rg.e4, Rg.e5, Rg.e6]
          refine Rg.tk 4 (v := ?_) ?_ ?_
          rotate_left
          · (intro wx hSx; go_simp; all_goals with_reducible rfl)
          simp only [Act.put, Rg.e1, Rg.e2, Rg.e3, Rg.e4, Rg.e5, Rg.e6]
          refine Rg.tk 5 (v := ?_) ?_ ?_
          rotate_left
          · (intro wx hSx; go_simp; all_goals with_reducible rfl)
          simp only [Act.put, Rg.e1, Rg.e2, Rg.e3, Rg.e4, Rg.e5, Rg.e6]
          refine Rg.tk 9 (v := ?_) ?_ ?_
          rotate_left
          · intro wx hSx
            cases Rw6.row hSx.1; cases Rw5.row hSx.2.1; cases Rw3.row hSx.2.2; go_simp
            all_goals with_reducible rfl
          simp only [Act.put, Rg.e1, Rg.e2, Rg.e3, Rg.e4, Rg.e5, Rg.e6]
          refine wpAnyH_ready (rs := [6]) (by kernel_rfl) (by simp) ?_
          refine .cons (o := _) rfl (fun K hK => ?_) ?_
          · go_simp
            refine (other_b wd).mono ?_
            rintro x wz ⟨rfl, rfl⟩
            go_wp2_with fail
            refine Rg.st_same hK hHeld (fun hHeld => ?_)
            clear hK K
            try simp only [Rg.e1, Rg.e2, Rg.e3]
            refine Rg.tk 7 (v := ?_) ?_ ?_
            rotate_left
            · (intro wx hSx; go_simp; all_goals with_reducible rfl)
            simp only [Act.put, Rg.e1, Rg.e2, Rg.e3, Rg.e4, Rg.e5, Rg.e6]
            refine Rg.tk 8 (v := ?_) ?_ ?_
            rotate_left
            · intro wx hSx
              cases Rw6.row hSx.1; cases Rw5.row hSx.2.1; cases Rw3.row hSx.2.2; go_simp
              all_goals with_reducible rfl
            simp only [Act.put, Rg.e1, Rg.e2, Rg.e3, Rg.e4, Rg.e5, Rg.e6]
            refine Rg.tk 10 (v := ?_) ?_ ?_
            rotate_left
            · (intro wx hSx; go_simp; all_goals with_reducible rfl)
            simp only [Act.put, Rg.e1, Rg.e2, Rg.e3, Rg.e4, Rg.e5, Rg.e6]
            refine Rg.tk 11 (v := ?_) ?_ ?_
            rotate_left
            · (intro wx hSx; go_simp; all_goals with_reducible rfl)
            simp only [Act.put, Rg.e1, Rg.e2, Rg.e3, Rg.e4, Rg.e5, Rg.e6]
            refine wpAnyH_ready (rs := [12]) (by kernel_rfl) (by simp) ?_
            refine .cons (o := _) rfl (fun K hK => ?_) ?_
            · cases Rw6.row HR.out
              go_simp
              refine Rg.st_same hK ⟨Rw6.far hHeld.1 (by omega) _ _ _ _ _ _, Rw6.far hHeld.2.1 (by omega) _ _ _ _ _ _, Rw6.far hHeld.2.2 (by omega) _ _ _ _ _ _⟩ (fun hHeld => ?_)
              clear hK K
              obtain ⟨W2, hw9⟩ : ∃ W2, W2 = Rw6.set wd (g + 1 + 1) (.bool true) (.bool e0) (.int .u64 (n0 : Int)) (.bool true) (.bool e) (.int .u64 (n : Int)) := ⟨_, rfl⟩
              have HR2 : Hid (Blk W2 (g + 1 + 1) 29 (psC true e0 n0 true e n)) := Lib.hid (by rw [hw9]; exact Rw6.blk_set HR.out _ _ _ _ _ _)
              have HB2 : Hid (Below w.heap.size w W2) := Lib.hid (by rw [hw9]; exact Rw6.below_set HB.out (by omega) _ _ _ _ _ _)
              dsimp only [Rw6.set] at hw9
              rw [← hw9] at hHeld ⊢
              clear hw9
              try simp only [Rg.e1, Rg.e2, Rg.e3]
              refine Rg.tk 13 (v := ?_) ?_ ?_
              rotate_left
              · (intro wx hSx; go_simp; all_goals with_reducible rfl)
              simp only [Act.put, Rg.e1, Rg.e2, Rg.e3, Rg.e4, Rg.e5, Rg.e6]
              refine wpAnyH_done (by kernel_rfl) ?_ _
              go_wp2
              (try simp only [Exit.inBlock, Exit.then]); refine bodyPost_ret (results_row2 rfl _ _ (g + 1 + 1) 29 _ (0, 0) _ rfl HR2.out Try.underlying29 rfl info_ps) rfl ?_
              exact ⟨rfl, HB2.out⟩
            exact AllReadyH.nil
          exact AllReadyH.nil
        · have hy := HY.out
          rw [h4] at hy
          subst hy
          clear HY HZ h4
          subst s0 h2
          have f1 : (e0 == e0) = true := beq_iff_eq.2 rfl
          have f2 : ((n0 : Int) == (n : Int)) = false := by simp only [beq_eq_false_iff_ne]; omega
          clear h3
          refine wp_region_held_drew (S := fun wx => Blk wx g 29 (psC true e0 n0 true e0 n) ∧ Blk wx (g + 1) 35 (msC q b false e0 n) ∧ Blk wx d 27 (prC true e0 n)) (by kernel_rfl) ⟨HS.out.1.drew, HS.out.2.1.drew, HS.out.2.2.drew⟩ (fun hHeld => ?_)
          generalize w6.drew = wd at hHeld HR HB ⊢
          refine Rg.tk 0 (v := ?_) ?_ ?_
          rotate_left
          · intro wx hSx
            cases Rw6.row hSx.1; cases Rw5.row hSx.2.1; cases Rw3.row hSx.2.2; go_simp
            all_goals with_reducible rfl
          simp only [Act.put, Rg.e1, Rg.e2, Rg.e3, Rg.e4, Rg.e5, Rg.e6]
          refine Rg.tk 1 (v := ?_) ?_ ?_
          rotate_left
          · (intro wx hSx; go_simp; all_goals with_reducible rfl)
          simp only [Act.put, Rg.e1, Rg.e2, Rg.e3, Rg.e4, Rg.e5, Rg.e6]
          refine Rg.tk 2 (v := ?_) ?_ ?_
          rotate_left
          · intro wx hSx
            cases Rw6.row hSx.1; cases Rw5.row hSx.2.1; cases Rw3.row hSx.2.2; go_simp
            all_goals with_reducible rfl
          simp only [Act.put, Rg.e1, Rg.e2, Rg.e3, Rg.e4, Rg.e5, Rg.e6]
          refine Rg.tk 3 (v := ?_) ?_ ?_
          rotate_left
          · (intro wx hSx; go_simp; all_goals with_reducible rfl)
          simp only [Act.put, Rg.e1, Rg.e2, Rg.e3, Rg.e4, Rg.e5, Rg.e6]
          refine Rg.tk 4 (v := ?_) ?_ ?_
          rotate_left
          · (intro wx hSx; go_simp; all_goals with_reducible rfl)
          simp only [Act.put, Rg.e1, Rg.e2, Rg.e3, Rg.e4, Rg.e5, Rg.e6]
          refine Rg.tk 5 (v := ?_) ?_ ?_
          rotate_left
          · (intro wx hSx; go_simp; all_goals with_reducible rfl)
          simp only [Act.put, Rg.e1, Rg.e2, Rg.e3, Rg.e4, Rg.e5, Rg.e6]
          refine Rg.tk 9 (v := ?_) ?_ ?_
          rotate_left
          · intro wx hSx
            cases Rw6.row hSx.1; cases Rw5.row hSx.2.1; cases Rw3.row hSx.2.2; go_simp
            all_goals with_reducible rfl
          simp only [Act.put, Rg.e1, Rg.e2, Rg.e3, Rg.e4, Rg.e5, Rg.e6]
          refine wpAnyH_ready (rs := [6]) (by kernel_rfl) (by simp) ?_
          refine .cons (o := _) rfl (fun K hK => ?_) ?_
          · go_simp
            refine (other_b wd).mono ?_
            rintro x wz ⟨rfl, rfl⟩
            go_wp2_with fail
            refine Rg.st_same hK hHeld (fun hHeld => ?_)
            clear hK K
            try simp only [Rg.e1, Rg.e2, Rg.e3]
            refine Rg.tk 7 (v := ?_) ?_ ?_
            rotate_left
            · (intro wx hSx; go_simp; all_goals with_reducible rfl)
            simp only [Act.put, Rg.e1, Rg.e2, Rg.e3, Rg.e4, Rg.e5, Rg.e6]
            refine Rg.tk 8 (v := ?_) ?_ ?_
            rotate_left
            · intro wx hSx
              cases Rw6.row hSx.1; cases Rw5.row hSx.2.1; cases Rw3.row hSx.2.2; go_simp
              all_goals with_reducible rfl
            simp only [Act.put, Rg.e1, Rg.e2, Rg.e3, Rg.e4, Rg.e5, Rg.e6]
            refine Rg.tk 10 (v := ?_) ?_ ?_
            rotate_left
            · (intro wx hSx; go_simp; all_goals with_reducible rfl)
            simp only [Act.put, Rg.e1, Rg.e2, Rg.e3, Rg.e4, Rg.e5, Rg.e6]
            refine Rg.tk 11 (v := ?_) ?_ ?_
            rotate_left
            · (intro wx hSx; go_simp; all_goals with_reducible rfl)
            simp only [Act.put, Rg.e1, Rg.e2, Rg.e3, Rg.e4, Rg.e5, Rg.e6]
            refine wpAnyH_ready (rs := [12]) (by kernel_rfl) (by simp) ?_
            refine .cons (o := _) rfl (fun K hK => ?_) ?_
            · cases Rw6.row HR.out
              go_simp
              refine Rg.st_same hK ⟨Rw6.far hHeld.1 (by omega) _ _ _ _ _ _, Rw6.far hHeld.2.1 (by omega) _ _ _ _ _ _, Rw6.far hHeld.2.2 (by omega) _ _ _ _ _ _⟩ (fun hHeld => ?_)
              clear hK K
              obtain ⟨W2, hw9⟩ : ∃ W2, W2 = Rw6.set wd (g + 1 + 1) (.bool true) (.bool e0) (.int .u64 (n0 : Int)) (.bool true) (.bool e0) (.int .u64 (n : Int)) := ⟨_, rfl⟩
              have HR2 : Hid (Blk W2 (g + 1 + 1) 29 (psC true e0 n0 true e0 n)) := Lib.hid (by rw [hw9]; exact Rw6.blk_set HR.out _ _ _ _ _ _)
              have HB2 : Hid (Below w.heap.size w W2) := Lib.hid (by rw [hw9]; exact Rw6.below_set HB.out (by omega) _ _ _ _ _ _)
              dsimp only [Rw6.set] at hw9
              rw [← hw9] at hHeld ⊢
              clear hw9
              try simp only [Rg.e1, Rg.e2, Rg.e3]
              refine Rg.tk 13 (v := ?_) ?_ ?_
              rotate_left
              · (intro wx hSx; go_simp; all_goals with_reducible rfl)
              simp only [Act.put, Rg.e1, Rg.e2, Rg.e3, Rg.e4, Rg.e5, Rg.e6]
              refine wpAnyH_done (by kernel_rfl) ?_ _
              go_wp2
              (try simp only [Exit.inBlock, Exit.then]); refine bodyPost_ret (results_row2 rfl _ _ (g + 1 + 1) 29 _ (0, 0) _ rfl HR2.out Try.underlying29 rfl info_ps) rfl ?_
              exact ⟨rfl, HB2.out⟩
            exact AllReadyH.nil
          exact AllReadyH.nil

end Go.Proofs.Ythhiagdncjpdcaa.Fh
