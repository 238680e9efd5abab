/-
  Flush: the document's Hear.
-/
import Derived.Test.YthhiagdncjpdcaaFlB
namespace Go.Proofs.Ythhiagdncjpdcaa.Fh
open Go.RowKit Go.Proofs.Ythhiagdncjpdcaa.Mm Go.Proofs.Ythhiagdncjpdcaa.Tg Go.Proofs.Ythhiagdncjpdcaa.Rp
set_option linter.unusedVariables false
set_option linter.unusedSimpArgs false

set_option maxRecDepth 100000 in
set_option maxHeartbeats 2000000 in
theorem rhear_bad (p : Int) (h0 : ¬ p = 0) (h1 : ¬ p = 1) (s0 e0 : Bool) (n0 : Nat) (s1 e1 : Bool) (n1 q : Nat) (b k e : Bool) (n : Nat) (w : World) :
    Calls Try.prog 9 #[psV s0 e0 n0 s1 e1 n1, .int .i64 p, msV q b k e n] w fun x w' => x = .returned (.tuple #[psV s0 e0 n0 s1 e1 n1, .bool false]) ∧ Below w.heap.size w w' := by
  by_cases hp : p < 0
  · have q0 : decide (p < 0) = true := decide_eq_true hp
    clear h0 h1 hp
    go_enter Try.func9, Try.ntmps9
    go_upto_region 1 with (fail)
    obtain ⟨h1, h2, h3, h4⟩ := three w (psC s0 e0 n0 s1 e1 n1) (msC q b k e n) (psC false false 0 false false 0) 32 43 32
    have HP := Lib.hid h1; have HM := Lib.hid h2; have HR := Lib.hid h3; have HB := Lib.hid h4
    clear h1 h2 h3 h4
    generalize ((w.alloc (.cells (psC s0 e0 n0 s1 e1 n1) 32)).alloc (.cells (msC q b k e n) 43)).alloc (.cells (psC false false 0 false false 0) 32) = w3 at HP HM HR HB ⊢
    obtain ⟨g, hg⟩ : ∃ g, g = w.heap.size := ⟨_, rfl⟩
    have hgw : w.heap.size ≤ g := by omega
    rw [← hg] at HP HM HR ⊢
    clear hg
    cases Rw6.row HP.out
    cases Rw5.row HM.out
    cases Rw6.row HR.out
    go_wp2
    (try simp only [Exit.inBlock, Exit.then]); refine bodyPost_ret (results_row2 rfl _ _ (g + 1 + 1) 32 _ (0, 0) _ rfl (Rw6.blk_set HR.out _ _ _ _ _ _) Try.underlying32 rfl info_rps) rfl ?_
    exact ⟨rfl, Rw6.below_set HB.out (by omega) _ _ _ _ _ _⟩
  · have q0 : decide (p < 0) = false := decide_eq_false hp
    have q1 : decide (1 < p) = true := decide_eq_true (by omega)
    clear h0 h1 hp
    go_enter Try.func9, Try.ntmps9
    go_upto_region 1 with (fail)
    obtain ⟨h1, h2, h3, h4⟩ := three w (psC s0 e0 n0 s1 e1 n1) (msC q b k e n) (psC false false 0 false false 0) 32 43 32
    have HP := Lib.hid h1; have HM := Lib.hid h2; have HR := Lib.hid h3; have HB := Lib.hid h4
    clear h1 h2 h3 h4
    generalize ((w.alloc (.cells (psC s0 e0 n0 s1 e1 n1) 32)).alloc (.cells (msC q b k e n) 43)).alloc (.cells (psC false false 0 false false 0) 32) = w3 at HP HM HR HB ⊢
    obtain ⟨g, hg⟩ : ∃ g, g = w.heap.size := ⟨_, rfl⟩
    have hgw : w.heap.size ≤ g := by omega
    rw [← hg] at HP HM HR ⊢
    clear hg
    cases Rw6.row HP.out
    cases Rw5.row HM.out
    cases Rw6.row HR.out
    go_wp2
    (try simp only [Exit.inBlock, Exit.then]); refine bodyPost_ret (results_row2 rfl _ _ (g + 1 + 1) 32 _ (0, 0) _ rfl (Rw6.blk_set HR.out _ _ _ _ _ _) Try.underlying32 rfl info_rps) rfl ?_
    exact ⟨rfl, Rw6.below_set HB.out (by omega) _ _ _ _ _ _⟩

set_option maxRecDepth 100000 in
set_option maxHeartbeats 2000000 in
theorem rhear_nr0 (s0 e0 : Bool) (n0 : Nat) (s1 e1 : Bool) (n1 q : Nat) (b k e : Bool) (n : Nat) (w : World) (hq : q = 0) (hb : b = false) :
    Calls Try.prog 9 #[psV s0 e0 n0 s1 e1 n1, .int .i64 0, msV q b k e n] w fun x w' => x = .returned (.tuple #[psV false false 0 s1 e1 n1, .bool false]) ∧ Below w.heap.size w w' := by
  subst hq hb
  go_enter Try.func9, Try.ntmps9
  go_upto_region 1 with (fail)
  obtain ⟨h1, h2, h3, h4⟩ := three w (psC s0 e0 n0 s1 e1 n1) (msC 0 false k e n) (psC false false 0 false false 0) 32 43 32
  have HP := Lib.hid h1; have HM := Lib.hid h2; have HR := Lib.hid h3; have HB := Lib.hid h4
  clear h1 h2 h3 h4
  generalize ((w.alloc (.cells (psC s0 e0 n0 s1 e1 n1) 32)).alloc (.cells (msC 0 false k e n) 43)).alloc (.cells (psC false false 0 false false 0) 32) = w3 at HP HM HR HB ⊢
  obtain ⟨g, hg⟩ : ∃ g, g = w.heap.size := ⟨_, rfl⟩
  have hgw : w.heap.size ≤ g := by omega
  rw [← hg] at HP HM HR ⊢
  clear hg
  cases Rw6.row HP.out
  cases Rw5.row HM.out
  cases Rw6.row HR.out
  go_wp2
  (try simp only [Exit.inBlock, Exit.then]); refine bodyPost_ret (results_row2 rfl _ _ (g + 1 + 1) 32 _ (0, 0) _ rfl (Rw6.blk_set (far_lo HR.out (by omega) _ _ _) _ _ _ _ _ _) Try.underlying32 rfl info_rps) rfl ?_
  exact ⟨rfl, Rw6.below_set (below_lo HB.out (by omega) _ _ _) (by omega) _ _ _ _ _ _⟩

set_option maxRecDepth 100000 in
set_option maxHeartbeats 2000000 in
theorem rhear_nr1 (s0 e0 : Bool) (n0 : Nat) (s1 e1 : Bool) (n1 q : Nat) (b k e : Bool) (n : Nat) (w : World) (hq : q = 0) (hb : b = false) :
    Calls Try.prog 9 #[psV s0 e0 n0 s1 e1 n1, .int .i64 1, msV q b k e n] w fun x w' => x = .returned (.tuple #[psV s0 e0 n0 false false 0, .bool false]) ∧ Below w.heap.size w w' := by
  subst hq hb
  go_enter Try.func9, Try.ntmps9
  go_upto_region 1 with (fail)
  obtain ⟨h1, h2, h3, h4⟩ := three w (psC s0 e0 n0 s1 e1 n1) (msC 0 false k e n) (psC false false 0 false false 0) 32 43 32
  have HP := Lib.hid h1; have HM := Lib.hid h2; have HR := Lib.hid h3; have HB := Lib.hid h4
  clear h1 h2 h3 h4
  generalize ((w.alloc (.cells (psC s0 e0 n0 s1 e1 n1) 32)).alloc (.cells (msC 0 false k e n) 43)).alloc (.cells (psC false false 0 false false 0) 32) = w3 at HP HM HR HB ⊢
  obtain ⟨g, hg⟩ : ∃ g, g = w.heap.size := ⟨_, rfl⟩
  have hgw : w.heap.size ≤ g := by omega
  rw [← hg] at HP HM HR ⊢
  clear hg
  cases Rw6.row HP.out
  cases Rw5.row HM.out
  cases Rw6.row HR.out
  go_wp2
  (try simp only [Exit.inBlock, Exit.then]); refine bodyPost_ret (results_row2 rfl _ _ (g + 1 + 1) 32 _ (0, 0) _ rfl (Rw6.blk_set (far_hi HR.out (by omega) _ _ _) _ _ _ _ _ _) Try.underlying32 rfl info_rps) rfl ?_
  exact ⟨rfl, Rw6.below_set (below_hi HB.out (by omega) _ _ _) (by omega) _ _ _ _ _ _⟩

set_option maxRecDepth 100000 in
set_option maxHeartbeats 2000000 in
theorem rhear_e0 (s0 e0 : Bool) (n0 : Nat) (s1 e1 : Bool) (n1 q : Nat) (b k e : Bool) (n : Nat) (w : World) (hx : ¬ (q = 0 ∧ b = false)) (hz : eqP s0 e0 n0 e n = true) :
    Calls Try.prog 9 #[psV s0 e0 n0 s1 e1 n1, .int .i64 0, msV q b k e n] w fun x w' => x = .returned (.tuple #[psV s0 e0 n0 s1 e1 n1, .bool false]) ∧ Below w.heap.size w w' := by
  have HZ := Lib.hid hz
  clear hz
  go_enter Try.func9, Try.ntmps9
  go_upto_region 1 with (fail)
  obtain ⟨h1, h2, h3, h4⟩ := three w (psC s0 e0 n0 s1 e1 n1) (msC q b k e n) (psC false false 0 false false 0) 32 43 32
  have HP := Lib.hid h1; have HM := Lib.hid h2; have HR := Lib.hid h3; have HB := Lib.hid h4
  clear h1 h2 h3 h4
  generalize ((w.alloc (.cells (psC s0 e0 n0 s1 e1 n1) 32)).alloc (.cells (msC q b k e n) 43)).alloc (.cells (psC false false 0 false false 0) 32) = w3 at HP HM HR HB ⊢
  obtain ⟨g, hg⟩ : ∃ g, g = w.heap.size := ⟨_, rfl⟩
  have hgw : w.heap.size ≤ g := by omega
  rw [← hg] at HP HM HR ⊢
  clear hg
  cases Rw6.row HP.out
  cases Rw5.row HM.out
  cases Rw6.row HR.out
  go_upto_region 3 with (fail)
  go_cut [22] (fun s wx => s = .bool false ∧ wx = w3)
  case first =>
    by_cases hq : q = 0
    · subst hq
      cases b with
      | false => exact absurd ⟨rfl, rfl⟩ hx
      | true =>
        clear hx
        go_wp2_with fail
        go_meet
        exact ⟨rfl, rfl⟩
    · have e0 : ((q : Int) == 0) = false := by simp only [beq_eq_false_iff_ne]; omega
      clear hx hq
      go_wp2_with fail
      go_meet
      exact ⟨rfl, rfl⟩
  case rest =>
    obtain ⟨rfl, rfl⟩ := hcut
    clear hx
    go_upto_region 6 with (fail)
    go_cut [31] (fun s wx => s = .bool true ∧ Blk wx g 32 (psC s0 e0 n0 s1 e1 n1) ∧ Blk wx (g + 1) 43 (msC q b k e n) ∧ Blk wx (g + 1 + 1) 32 (psC false false 0 false false 0) ∧ Below w.heap.size w wx)
    case first =>
      refine wp_region_held_drew (S := fun wx => Blk wx g 32 (psC s0 e0 n0 s1 e1 n1) ∧ Blk wx (g + 1) 43 (msC q b k e n)) (by kernel_rfl) ⟨HP.out.drew, HM.out.drew⟩ (fun hHeld => ?_)
      have HR := Lib.hid HR.out.drew; have HB := Lib.hid HB.out.drew
      have KS := Lib.hid ((Rg.Keeps.one g 32 (psC s0 e0 n0 s1 e1 n1)).and (Rg.Keeps.one (g + 1) 43 (msC q b k e n)))
      clear HP HM
      generalize wc.drew = wd at hHeld HR HB ⊢
      refine Rg.tk 0 (v := ?_) ?_ ?_
      rotate_left
      · (intro wx hSx; go_simp; all_goals with_reducible rfl)
      simp only [Act.put, Rg.e1, Rg.e2, Rg.e3, Rg.e4, Rg.e5, Rg.e6]
      refine Rg.tk 1 (v := ?_) ?_ ?_
      rotate_left
      · (intro wx hSx; go_simp; all_goals with_reducible rfl)
      simp only [Act.put, Rg.e1, Rg.e2, Rg.e3, Rg.e4, Rg.e5, Rg.e6]
      refine Rg.tk 2 (v := ?_) ?_ ?_
      rotate_left
      · intro wx hSx
        cases Rw6.row hSx.1; cases Rw5.row hSx.2; go_simp
        all_goals with_reducible rfl
      simp only [Act.put, Rg.e1, Rg.e2, Rg.e3, Rg.e4, Rg.e5, Rg.e6]
      refine Rg.tk 3 (v := ?_) ?_ ?_
      rotate_left
      · intro wx hSx
        cases Rw6.row hSx.1; cases Rw5.row hSx.2; go_simp
        all_goals with_reducible rfl
      simp only [Act.put, Rg.e1, Rg.e2, Rg.e3, Rg.e4, Rg.e5, Rg.e6]
      refine wpAnyH_ready (rs := [4]) (by kernel_rfl) (by simp) ?_
      refine .cons (o := _) rfl (fun K hK => ?_) ?_
      · go_simp
        refine (same_at s0 e0 n0 q b k e n wd).mono ?_
        rintro x wr1 ⟨rfl, hbc⟩
        rw [HZ.out]
        have HBC := Lib.hid hbc
        clear hbc
        go_wp2_with fail
        refine Rg.st_same hK (KS.out _ _ hHeld HBC.out) (fun hHeld => ?_)
        clear hK K
        have HR := Lib.hid (HR.out.below HBC.out HR.out.lt)
        have HB := Lib.hid (HB.out.trans (HBC.out.mono HB.out.size))
        clear HBC
        try simp only [Rg.e1, Rg.e2, Rg.e3]
        refine wpAnyH_done (by kernel_rfl) ?_ _
        go_wp2_with fail
        go_meet
        exact ⟨rfl, hHeld.1, hHeld.2, HR.out, HB.out⟩
      exact AllReadyH.nil
    case rest =>
      obtain ⟨rfl, hP, hM, hR, hB⟩ := hcut
      clear HP HM HR HB
      have HP := Lib.hid hP; have HM := Lib.hid hM; have HR := Lib.hid hR; have HB := Lib.hid hB
      clear hP hM hR hB
      cases Rw6.row HP.out
      cases Rw5.row HM.out
      cases Rw6.row HR.out
      go_wp2
      (try simp only [Exit.inBlock, Exit.then]); refine bodyPost_ret (results_row2 rfl _ _ (g + 1 + 1) 32 _ (0, 0) _ rfl (Rw6.blk_set HR.out _ _ _ _ _ _) Try.underlying32 rfl info_rps) rfl ?_
      exact ⟨rfl, Rw6.below_set HB.out (by omega) _ _ _ _ _ _⟩

set_option maxRecDepth 100000 in
set_option maxHeartbeats 2000000 in
theorem rhear_d0 (s0 e0 : Bool) (n0 : Nat) (s1 e1 : Bool) (n1 q : Nat) (b k e : Bool) (n : Nat) (w : World) (y : Bool) (hx : ¬ (q = 0 ∧ b = false)) (hz : eqP s0 e0 n0 e n = false) (hy : eqP s1 e1 n1 e n = y) :
    Calls Try.prog 9 #[psV s0 e0 n0 s1 e1 n1, .int .i64 0, msV q b k e n] w fun x w' => x = .returned (.tuple #[psV true e n s1 e1 n1, .bool (!k && !y)]) ∧ Below w.heap.size w w' := by
  have HZ := Lib.hid hz; have HY := Lib.hid hy
  clear hz hy
  go_enter Try.func9, Try.ntmps9
  go_upto_region 1 with (fail)
  obtain ⟨h1, h2, h3, h4⟩ := three w (psC s0 e0 n0 s1 e1 n1) (msC q b k e n) (psC false false 0 false false 0) 32 43 32
  have HP := Lib.hid h1; have HM := Lib.hid h2; have HR := Lib.hid h3; have HB := Lib.hid h4
  clear h1 h2 h3 h4
  generalize ((w.alloc (.cells (psC s0 e0 n0 s1 e1 n1) 32)).alloc (.cells (msC q b k e n) 43)).alloc (.cells (psC false false 0 false false 0) 32) = w3 at HP HM HR HB ⊢
  obtain ⟨g, hg⟩ : ∃ g, g = w.heap.size := ⟨_, rfl⟩
  have hgw : w.heap.size ≤ g := by omega
  rw [← hg] at HP HM HR ⊢
  clear hg
  cases Rw6.row HP.out
  cases Rw5.row HM.out
  cases Rw6.row HR.out
  go_upto_region 3 with (fail)
  go_cut [22] (fun s wx => s = .bool false ∧ wx = w3)
  case first =>
    by_cases hq : q = 0
    · subst hq
      cases b with
      | false => exact absurd ⟨rfl, rfl⟩ hx
      | true =>
        clear hx
        go_wp2_with fail
        go_meet
        exact ⟨rfl, rfl⟩
    · have e0 : ((q : Int) == 0) = false := by simp only [beq_eq_false_iff_ne]; omega
      clear hx hq
      go_wp2_with fail
      go_meet
      exact ⟨rfl, rfl⟩
  case rest =>
    obtain ⟨rfl, rfl⟩ := hcut
    clear hx
    go_upto_region 6 with (fail)
    go_cut [31] (fun s wx => s = .bool false ∧ Blk wx g 32 (psC s0 e0 n0 s1 e1 n1) ∧ Blk wx (g + 1) 43 (msC q b k e n) ∧ Blk wx (g + 1 + 1) 32 (psC false false 0 false false 0) ∧ Below w.heap.size w wx)
    case first =>
      refine wp_region_held_drew (S := fun wx => Blk wx g 32 (psC s0 e0 n0 s1 e1 n1) ∧ Blk wx (g + 1) 43 (msC q b k e n)) (by kernel_rfl) ⟨HP.out.drew, HM.out.drew⟩ (fun hHeld => ?_)
      have HR := Lib.hid HR.out.drew; have HB := Lib.hid HB.out.drew
      have KS := Lib.hid ((Rg.Keeps.one g 32 (psC s0 e0 n0 s1 e1 n1)).and (Rg.Keeps.one (g + 1) 43 (msC q b k e n)))
      clear HP HM
      generalize wc.drew = wd at hHeld HR HB ⊢
      refine Rg.tk 0 (v := ?_) ?_ ?_
      rotate_left
      · (intro wx hSx; go_simp; all_goals with_reducible rfl)
      simp only [Act.put, Rg.e1, Rg.e2, Rg.e3, Rg.e4, Rg.e5, Rg.e6]
      refine Rg.tk 1 (v := ?_) ?_ ?_
      rotate_left
      · (intro wx hSx; go_simp; all_goals with_reducible rfl)
      simp only [Act.put, Rg.e1, Rg.e2, Rg.e3, Rg.e4, Rg.e5, Rg.e6]
      refine Rg.tk 2 (v := ?_) ?_ ?_
      rotate_left
      · intro wx hSx
        cases Rw6.row hSx.1; cases Rw5.row hSx.2; go_simp
        all_goals with_reducible rfl
      simp only [Act.put, Rg.e1, Rg.e2, Rg.e3, Rg.e4, Rg.e5, Rg.e6]
      refine Rg.tk 3 (v := ?_) ?_ ?_
      rotate_left
      · intro wx hSx
        cases Rw6.row hSx.1; cases Rw5.row hSx.2; go_simp
        all_goals with_reducible rfl
      simp only [Act.put, Rg.e1, Rg.e2, Rg.e3, Rg.e4, Rg.e5, Rg.e6]
      refine wpAnyH_ready (rs := [4]) (by kernel_rfl) (by simp) ?_
      refine .cons (o := _) rfl (fun K hK => ?_) ?_
      · go_simp
        refine (same_at s0 e0 n0 q b k e n wd).mono ?_
        rintro x wr1 ⟨rfl, hbc⟩
        rw [HZ.out]
        have HBC := Lib.hid hbc
        clear hbc
        go_wp2_with fail
        refine Rg.st_same hK (KS.out _ _ hHeld HBC.out) (fun hHeld => ?_)
        clear hK K
        have HR := Lib.hid (HR.out.below HBC.out HR.out.lt)
        have HB := Lib.hid (HB.out.trans (HBC.out.mono HB.out.size))
        clear HBC
        try simp only [Rg.e1, Rg.e2, Rg.e3]
        refine wpAnyH_done (by kernel_rfl) ?_ _
        go_wp2_with fail
        go_meet
        exact ⟨rfl, hHeld.1, hHeld.2, HR.out, HB.out⟩
      exact AllReadyH.nil
    case rest =>
      obtain ⟨rfl, hP, hM, hR, hB⟩ := hcut
      clear HP HM HR HB
      have HP := Lib.hid hP; have HM := Lib.hid hM; have HR := Lib.hid hR; have HB := Lib.hid hB
      clear hP hM hR hB
      cases Rw6.row HP.out
      cases Rw5.row HM.out
      cases Rw6.row HR.out
      go_upto_region 9 with (fail)
      obtain ⟨w6, hw6, b1, b2, b3, b5⟩ : ∃ w6 : World, w6 = setLo wc g (.bool true) (.bool e) (.int .u64 (n : Int)) ∧ Blk w6 g 32 (psC true e n s1 e1 n1) ∧ Blk w6 (g + 1) 43 (msC q b k e n) ∧ Blk w6 (g + 1 + 1) 32 (psC false false 0 false false 0) ∧ Below w.heap.size w w6 := ⟨_, rfl, put_lo HP.out _ _ _, far_lo HM.out (by omega) _ _ _, far_lo HR.out (by omega) _ _ _, below_lo HB.out hgw _ _ _⟩
      dsimp only [setLo] at hw6
      rw [← hw6]
      clear hw6 HP HM HR HB
      have HR := Lib.hid b3.drew; have HB := Lib.hid b5.drew; have HS := Lib.hid (And.intro b1 b2)
      have KS := Lib.hid ((Rg.Keeps.one g 32 (psC true e n s1 e1 n1)).and (Rg.Keeps.one (g + 1) 43 (msC q b k e n)))
      clear b1 b2 b3 b5
      have i0 : IntKind.i64.wrap 0 = 0 := by decide
      have i1 : IntKind.i64.wrap 1 = 1 := by decide
      cases k with
      | true =>
        refine wp_region_held_drew (S := fun wx => Blk wx g 32 (psC true e n s1 e1 n1) ∧ Blk wx (g + 1) 43 (msC q b true e n)) (by kernel_rfl) ⟨HS.out.1.drew, HS.out.2.drew⟩ (fun hHeld => ?_)
        generalize w6.drew = wd at hHeld HR HB ⊢
        refine Rg.tk 0 (v := ?_) ?_ ?_
        rotate_left
        · (intro wx hSx; go_simp; all_goals with_reducible rfl)
        simp only [Act.put, Rg.e1, Rg.e2, Rg.e3, Rg.e4, Rg.e5, Rg.e6]
        refine Rg.tk 1 (v := ?_) ?_ ?_
        rotate_left
        · intro wx hSx
          cases Rw6.row hSx.1; cases Rw5.row hSx.2; go_simp
          all_goals with_reducible rfl
        simp only [Act.put, Rg.e1, Rg.e2, Rg.e3, Rg.e4, Rg.e5, Rg.e6]
        refine Rg.tk 2 (v := ?_) ?_ ?_
        rotate_left
        · (intro wx hSx; go_simp; all_goals with_reducible rfl)
        simp only [Act.put, Rg.e1, Rg.e2, Rg.e3, Rg.e4, Rg.e5, Rg.e6]
        refine Rg.sk 3 ?_
        simp only [Act.put, Rg.e1, Rg.e2, Rg.e3, Rg.e4, Rg.e5, Rg.e6]
        refine Rg.sk 4 ?_
        simp only [Act.put, Rg.e1, Rg.e2, Rg.e3, Rg.e4, Rg.e5, Rg.e6]
        refine Rg.sk 5 ?_
        simp only [Act.put, Rg.e1, Rg.e2, Rg.e3, Rg.e4, Rg.e5, Rg.e6]
        refine Rg.sk 6 ?_
        simp only [Act.put, Rg.e1, Rg.e2, Rg.e3, Rg.e4, Rg.e5, Rg.e6]
        refine Rg.sk 7 ?_
        simp only [Act.put, Rg.e1, Rg.e2, Rg.e3, Rg.e4, Rg.e5, Rg.e6]
        refine Rg.sk 8 ?_
        simp only [Act.put, Rg.e1, Rg.e2, Rg.e3, Rg.e4, Rg.e5, Rg.e6]
        refine Rg.tk 9 (v := ?_) ?_ ?_
        rotate_left
        · (intro wx hSx; go_simp; all_goals with_reducible rfl)
        simp only [Act.put, Rg.e1, Rg.e2, Rg.e3, Rg.e4, Rg.e5, Rg.e6]
        refine wpAnyH_done (by kernel_rfl) ?_ _
        cases Rw6.row hHeld.1
        cases Rw6.row HR.out
        go_wp2
        (try simp only [Exit.inBlock, Exit.then]); refine bodyPost_ret (results_row2 rfl _ _ (g + 1 + 1) 32 _ (0, 0) _ rfl (Rw6.blk_set HR.out _ _ _ _ _ _) Try.underlying32 rfl info_rps) rfl ?_
        exact ⟨rfl, Rw6.below_set HB.out (by omega) _ _ _ _ _ _⟩
      | false =>
        refine wp_region_held_drew (S := fun wx => Blk wx g 32 (psC true e n s1 e1 n1) ∧ Blk wx (g + 1) 43 (msC q b false e n)) (by kernel_rfl) ⟨HS.out.1.drew, HS.out.2.drew⟩ (fun hHeld => ?_)
        generalize w6.drew = wd at hHeld HR HB ⊢
        refine Rg.tk 0 (v := ?_) ?_ ?_
        rotate_left
        · (intro wx hSx; go_simp; all_goals with_reducible rfl)
        simp only [Act.put, Rg.e1, Rg.e2, Rg.e3, Rg.e4, Rg.e5, Rg.e6]
        refine Rg.tk 1 (v := ?_) ?_ ?_
        rotate_left
        · intro wx hSx
          cases Rw6.row hSx.1; cases Rw5.row hSx.2; go_simp
          all_goals with_reducible rfl
        simp only [Act.put, Rg.e1, Rg.e2, Rg.e3, Rg.e4, Rg.e5, Rg.e6]
        refine Rg.tk 2 (v := ?_) ?_ ?_
        rotate_left
        · (intro wx hSx; go_simp; all_goals with_reducible rfl)
        simp only [Act.put, Rg.e1, Rg.e2, Rg.e3, Rg.e4, Rg.e5, Rg.e6]
        refine Rg.tk 3 (v := ?_) ?_ ?_
        rotate_left
        · (intro wx hSx; go_simp; all_goals with_reducible rfl)
        simp only [Act.put, Rg.e1, Rg.e2, Rg.e3, Rg.e4, Rg.e5, Rg.e6]
        refine Rg.tk 4 (v := ?_) ?_ ?_
        rotate_left
        · (intro wx hSx; go_simp; all_goals with_reducible rfl)
        simp only [Act.put, Rg.e1, Rg.e2, Rg.e3, Rg.e4, Rg.e5, Rg.e6]
        refine Rg.tk 5 (v := ?_) ?_ ?_
        rotate_left
        · (intro wx hSx; go_simp; all_goals with_reducible rfl)
        simp only [Act.put, Rg.e1, Rg.e2, Rg.e3, Rg.e4, Rg.e5, Rg.e6]
        refine Rg.tk 6 (v := ?_) ?_ ?_
        rotate_left
        · intro wx hSx
          cases Rw6.row hSx.1; cases Rw5.row hSx.2; go_simp
          all_goals with_reducible rfl
        simp only [Act.put, Rg.e1, Rg.e2, Rg.e3, Rg.e4, Rg.e5, Rg.e6]
        refine Rg.tk 7 (v := ?_) ?_ ?_
        rotate_left
        · intro wx hSx
          cases Rw6.row hSx.1; cases Rw5.row hSx.2; go_simp
          all_goals with_reducible rfl
        simp only [Act.put, Rg.e1, Rg.e2, Rg.e3, Rg.e4, Rg.e5, Rg.e6]
        refine wpAnyH_ready (rs := [8]) (by kernel_rfl) (by simp) ?_
        refine .cons (o := _) rfl (fun K hK => ?_) ?_
        · go_simp
          refine (same_at s1 e1 n1 q b false e n wd).mono ?_
          rintro x wr1 ⟨rfl, hbc⟩
          rw [HY.out]
          have HBC := Lib.hid hbc
          clear hbc
          go_wp2_with fail
          refine Rg.st_same hK (KS.out _ _ hHeld HBC.out) (fun hHeld => ?_)
          clear hK K
          have HR := Lib.hid (HR.out.below HBC.out HR.out.lt)
          have HB := Lib.hid (HB.out.trans (HBC.out.mono HB.out.size))
          clear HBC
          try simp only [Rg.e1, Rg.e2, Rg.e3]
          refine Rg.tk 9 (v := ?_) ?_ ?_
          rotate_left
          · (intro wx hSx; go_simp; all_goals with_reducible rfl)
          simp only [Act.put, Rg.e1, Rg.e2, Rg.e3, Rg.e4, Rg.e5, Rg.e6]
          refine wpAnyH_done (by kernel_rfl) ?_ _
          cases Rw6.row hHeld.1
          cases Rw6.row HR.out
          cases y with
          | true =>
            go_wp2
            (try simp only [Exit.inBlock, Exit.then]); refine bodyPost_ret (results_row2 rfl _ _ (g + 1 + 1) 32 _ (0, 0) _ rfl (Rw6.blk_set HR.out _ _ _ _ _ _) Try.underlying32 rfl info_rps) rfl ?_
            exact ⟨rfl, Rw6.below_set HB.out (by omega) _ _ _ _ _ _⟩
          | false =>
            go_wp2
            (try simp only [Exit.inBlock, Exit.then]); refine bodyPost_ret (results_row2 rfl _ _ (g + 1 + 1) 32 _ (0, 0) _ rfl (Rw6.blk_set HR.out _ _ _ _ _ _) Try.underlying32 rfl info_rps) rfl ?_
            exact ⟨rfl, Rw6.below_set HB.out (by omega) _ _ _ _ _ _⟩
        exact AllReadyH.nil

set_option maxRecDepth 100000 in
set_option maxHeartbeats 2000000 in
theorem rhear_e1 (s0 e0 : Bool) (n0 : Nat) (s1 e1 : Bool) (n1 q : Nat) (b k e : Bool) (n : Nat) (w : World) (hx : ¬ (q = 0 ∧ b = false)) (hz : eqP s1 e1 n1 e n = true) :
    Calls Try.prog 9 #[psV s0 e0 n0 s1 e1 n1, .int .i64 1, msV q b k e n] w fun x w' => x = .returned (.tuple #[psV s0 e0 n0 s1 e1 n1, .bool false]) ∧ Below w.heap.size w w' := by
  have HZ := Lib.hid hz
  clear hz
  go_enter Try.func9, Try.ntmps9
  go_upto_region 1 with (fail)
  obtain ⟨h1, h2, h3, h4⟩ := three w (psC s0 e0 n0 s1 e1 n1) (msC q b k e n) (psC false false 0 false false 0) 32 43 32
  have HP := Lib.hid h1; have HM := Lib.hid h2; have HR := Lib.hid h3; have HB := Lib.hid h4
  clear h1 h2 h3 h4
  generalize ((w.alloc (.cells (psC s0 e0 n0 s1 e1 n1) 32)).alloc (.cells (msC q b k e n) 43)).alloc (.cells (psC false false 0 false false 0) 32) = w3 at HP HM HR HB ⊢
  obtain ⟨g, hg⟩ : ∃ g, g = w.heap.size := ⟨_, rfl⟩
  have hgw : w.heap.size ≤ g := by omega
  rw [← hg] at HP HM HR ⊢
  clear hg
  cases Rw6.row HP.out
  cases Rw5.row HM.out
  cases Rw6.row HR.out
  go_upto_region 3 with (fail)
  go_cut [22] (fun s wx => s = .bool false ∧ wx = w3)
  case first =>
    by_cases hq : q = 0
    · subst hq
      cases b with
      | false => exact absurd ⟨rfl, rfl⟩ hx
      | true =>
        clear hx
        go_wp2_with fail
        go_meet
        exact ⟨rfl, rfl⟩
    · have e0 : ((q : Int) == 0) = false := by simp only [beq_eq_false_iff_ne]; omega
      clear hx hq
      go_wp2_with fail
      go_meet
      exact ⟨rfl, rfl⟩
  case rest =>
    obtain ⟨rfl, rfl⟩ := hcut
    clear hx
    go_upto_region 6 with (fail)
    go_cut [31] (fun s wx => s = .bool true ∧ Blk wx g 32 (psC s0 e0 n0 s1 e1 n1) ∧ Blk wx (g + 1) 43 (msC q b k e n) ∧ Blk wx (g + 1 + 1) 32 (psC false false 0 false false 0) ∧ Below w.heap.size w wx)
    case first =>
      refine wp_region_held_drew (S := fun wx => Blk wx g 32 (psC s0 e0 n0 s1 e1 n1) ∧ Blk wx (g + 1) 43 (msC q b k e n)) (by kernel_rfl) ⟨HP.out.drew, HM.out.drew⟩ (fun hHeld => ?_)
      have HR := Lib.hid HR.out.drew; have HB := Lib.hid HB.out.drew
      have KS := Lib.hid ((Rg.Keeps.one g 32 (psC s0 e0 n0 s1 e1 n1)).and (Rg.Keeps.one (g + 1) 43 (msC q b k e n)))
      clear HP HM
      generalize wc.drew = wd at hHeld HR HB ⊢
      refine Rg.tk 0 (v := ?_) ?_ ?_
      rotate_left
      · (intro wx hSx; go_simp; all_goals with_reducible rfl)
      simp only [Act.put, Rg.e1, Rg.e2, Rg.e3, Rg.e4, Rg.e5, Rg.e6]
      refine Rg.tk 1 (v := ?_) ?_ ?_
      rotate_left
      · (intro wx hSx; go_simp; all_goals with_reducible rfl)
      simp only [Act.put, Rg.e1, Rg.e2, Rg.e3, Rg.e4, Rg.e5, Rg.e6]
      refine Rg.tk 2 (v := ?_) ?_ ?_
      rotate_left
      · intro wx hSx
        cases Rw6.row hSx.1; cases Rw5.row hSx.2; go_simp
        all_goals with_reducible rfl
      simp only [Act.put, Rg.e1, Rg.e2, Rg.e3, Rg.e4, Rg.e5, Rg.e6]
      refine Rg.tk 3 (v := ?_) ?_ ?_
      rotate_left
      · intro wx hSx
        cases Rw6.row hSx.1; cases Rw5.row hSx.2; go_simp
        all_goals with_reducible rfl
      simp only [Act.put, Rg.e1, Rg.e2, Rg.e3, Rg.e4, Rg.e5, Rg.e6]
      refine wpAnyH_ready (rs := [4]) (by kernel_rfl) (by simp) ?_
      refine .cons (o := _) rfl (fun K hK => ?_) ?_
      · go_simp
        refine (same_at s1 e1 n1 q b k e n wd).mono ?_
        rintro x wr1 ⟨rfl, hbc⟩
        rw [HZ.out]
        have HBC := Lib.hid hbc
        clear hbc
        go_wp2_with fail
        refine Rg.st_same hK (KS.out _ _ hHeld HBC.out) (fun hHeld => ?_)
        clear hK K
        have HR := Lib.hid (HR.out.below HBC.out HR.out.lt)
        have HB := Lib.hid (HB.out.trans (HBC.out.mono HB.out.size))
        clear HBC
        try simp only [Rg.e1, Rg.e2, Rg.e3]
        refine wpAnyH_done (by kernel_rfl) ?_ _
        go_wp2_with fail
        go_meet
        exact ⟨rfl, hHeld.1, hHeld.2, HR.out, HB.out⟩
      exact AllReadyH.nil
    case rest =>
      obtain ⟨rfl, hP, hM, hR, hB⟩ := hcut
      clear HP HM HR HB
      have HP := Lib.hid hP; have HM := Lib.hid hM; have HR := Lib.hid hR; have HB := Lib.hid hB
      clear hP hM hR hB
      cases Rw6.row HP.out
      cases Rw5.row HM.out
      cases Rw6.row HR.out
      go_wp2
      (try simp only [Exit.inBlock, Exit.then]); refine bodyPost_ret (results_row2 rfl _ _ (g + 1 + 1) 32 _ (0, 0) _ rfl (Rw6.blk_set HR.out _ _ _ _ _ _) Try.underlying32 rfl info_rps) rfl ?_
      exact ⟨rfl, Rw6.below_set HB.out (by omega) _ _ _ _ _ _⟩

set_option maxRecDepth 100000 in
set_option maxHeartbeats 2000000 in
theorem rhear_d1 (s0 e0 : Bool) (n0 : Nat) (s1 e1 : Bool) (n1 q : Nat) (b k e : Bool) (n : Nat) (w : World) (y : Bool) (hx : ¬ (q = 0 ∧ b = false)) (hz : eqP s1 e1 n1 e n = false) (hy : eqP s0 e0 n0 e n = y) :
    Calls Try.prog 9 #[psV s0 e0 n0 s1 e1 n1, .int .i64 1, msV q b k e n] w fun x w' => x = .returned (.tuple #[psV s0 e0 n0 true e n, .bool (!k && !y)]) ∧ Below w.heap.size w w' := by
  have HZ := Lib.hid hz; have HY := Lib.hid hy
  clear hz hy
  go_enter Try.func9, Try.ntmps9
  go_upto_region 1 with (fail)
  obtain ⟨h1, h2, h3, h4⟩ := three w (psC s0 e0 n0 s1 e1 n1) (msC q b k e n) (psC false false 0 false false 0) 32 43 32
  have HP := Lib.hid h1; have HM := Lib.hid h2; have HR := Lib.hid h3; have HB := Lib.hid h4
  clear h1 h2 h3 h4
  generalize ((w.alloc (.cells (psC s0 e0 n0 s1 e1 n1) 32)).alloc (.cells (msC q b k e n) 43)).alloc (.cells (psC false false 0 false false 0) 32) = w3 at HP HM HR HB ⊢
  obtain ⟨g, hg⟩ : ∃ g, g = w.heap.size := ⟨_, rfl⟩
  have hgw : w.heap.size ≤ g := by omega
  rw [← hg] at HP HM HR ⊢
  clear hg
  cases Rw6.row HP.out
  cases Rw5.row HM.out
  cases Rw6.row HR.out
  go_upto_region 3 with (fail)
  go_cut [22] (fun s wx => s = .bool false ∧ wx = w3)
  case first =>
    by_cases hq : q = 0
    · subst hq
      cases b with
      | false => exact absurd ⟨rfl, rfl⟩ hx
      | true =>
        clear hx
        go_wp2_with fail
        go_meet
        exact ⟨rfl, rfl⟩
    · have e0 : ((q : Int) == 0) = false := by simp only [beq_eq_false_iff_ne]; omega
      clear hx hq
      go_wp2_with fail
      go_meet
      exact ⟨rfl, rfl⟩
  case rest =>
    obtain ⟨rfl, rfl⟩ := hcut
    clear hx
    go_upto_region 6 with (fail)
    go_cut [31] (fun s wx => s = .bool false ∧ Blk wx g 32 (psC s0 e0 n0 s1 e1 n1) ∧ Blk wx (g + 1) 43 (msC q b k e n) ∧ Blk wx (g + 1 + 1) 32 (psC false false 0 false false 0) ∧ Below w.heap.size w wx)
    case first =>
      refine wp_region_held_drew (S := fun wx => Blk wx g 32 (psC s0 e0 n0 s1 e1 n1) ∧ Blk wx (g + 1) 43 (msC q b k e n)) (by kernel_rfl) ⟨HP.out.drew, HM.out.drew⟩ (fun hHeld => ?_)
      have HR := Lib.hid HR.out.drew; have HB := Lib.hid HB.out.drew
      have KS := Lib.hid ((Rg.Keeps.one g 32 (psC s0 e0 n0 s1 e1 n1)).and (Rg.Keeps.one (g + 1) 43 (msC q b k e n)))
      clear HP HM
      generalize wc.drew = wd at hHeld HR HB ⊢
      refine Rg.tk 0 (v := ?_) ?_ ?_
      rotate_left
      · (intro wx hSx; go_simp; all_goals with_reducible rfl)
      simp only [Act.put, Rg.e1, Rg.e2, Rg.e3, Rg.e4, Rg.e5, Rg.e6]
      refine Rg.tk 1 (v := ?_) ?_ ?_
      rotate_left
      · (intro wx hSx; go_simp; all_goals with_reducible rfl)
      simp only [Act.put, Rg.e1, Rg.e2, Rg.e3, Rg.e4, Rg.e5, Rg.e6]
      refine Rg.tk 2 (v := ?_) ?_ ?_
      rotate_left
      · intro wx hSx
        cases Rw6.row hSx.1; cases Rw5.row hSx.2; go_simp
        all_goals with_reducible rfl
      simp only [Act.put, Rg.e1, Rg.e2, Rg.e3, Rg.e4, Rg.e5, Rg.e6]
      refine Rg.tk 3 (v := ?_) ?_ ?_
      rotate_left
      · intro wx hSx
        cases Rw6.row hSx.1; cases Rw5.row hSx.2; go_simp
        all_goals with_reducible rfl
      simp only [Act.put, Rg.e1, Rg.e2, Rg.e3, Rg.e4, Rg.e5, Rg.e6]
      refine wpAnyH_ready (rs := [4]) (by kernel_rfl) (by simp) ?_
      refine .cons (o := _) rfl (fun K hK => ?_) ?_
      · go_simp
        refine (same_at s1 e1 n1 q b k e n wd).mono ?_
        rintro x wr1 ⟨rfl, hbc⟩
        rw [HZ.out]
        have HBC := Lib.hid hbc
        clear hbc
        go_wp2_with fail
        refine Rg.st_same hK (KS.out _ _ hHeld HBC.out) (fun hHeld => ?_)
        clear hK K
        have HR := Lib.hid (HR.out.below HBC.out HR.out.lt)
        have HB := Lib.hid (HB.out.trans (HBC.out.mono HB.out.size))
        clear HBC
        try simp only [Rg.e1, Rg.e2, Rg.e3]
        refine wpAnyH_done (by kernel_rfl) ?_ _
        go_wp2_with fail
        go_meet
        exact ⟨rfl, hHeld.1, hHeld.2, HR.out, HB.out⟩
      exact AllReadyH.nil
    case rest =>
      obtain ⟨rfl, hP, hM, hR, hB⟩ := hcut
      clear HP HM HR HB
      have HP := Lib.hid hP; have HM := Lib.hid hM; have HR := Lib.hid hR; have HB := Lib.hid hB
      clear hP hM hR hB
      cases Rw6.row HP.out
      cases Rw5.row HM.out
      cases Rw6.row HR.out
      go_upto_region 9 with (fail)
      obtain ⟨w6, hw6, b1, b2, b3, b5⟩ : ∃ w6 : World, w6 = setHi wc g (.bool true) (.bool e) (.int .u64 (n : Int)) ∧ Blk w6 g 32 (psC s0 e0 n0 true e n) ∧ Blk w6 (g + 1) 43 (msC q b k e n) ∧ Blk w6 (g + 1 + 1) 32 (psC false false 0 false false 0) ∧ Below w.heap.size w w6 := ⟨_, rfl, put_hi HP.out _ _ _, far_hi HM.out (by omega) _ _ _, far_hi HR.out (by omega) _ _ _, below_hi HB.out hgw _ _ _⟩
      dsimp only [setHi] at hw6
      rw [← hw6]
      clear hw6 HP HM HR HB
      have HR := Lib.hid b3.drew; have HB := Lib.hid b5.drew; have HS := Lib.hid (And.intro b1 b2)
      have KS := Lib.hid ((Rg.Keeps.one g 32 (psC s0 e0 n0 true e n)).and (Rg.Keeps.one (g + 1) 43 (msC q b k e n)))
      clear b1 b2 b3 b5
      have i0 : IntKind.i64.wrap 0 = 0 := by decide
      have i1 : IntKind.i64.wrap 1 = 1 := by decide
      cases k with
      | true =>
        refine wp_region_held_drew (S := fun wx => Blk wx g 32 (psC s0 e0 n0 true e n) ∧ Blk wx (g + 1) 43 (msC q b true e n)) (by kernel_rfl) ⟨HS.out.1.drew, HS.out.2.drew⟩ (fun hHeld => ?_)
        generalize w6.drew = wd at hHeld HR HB ⊢
        refine Rg.tk 0 (v := ?_) ?_ ?_
        rotate_left
        · (intro wx hSx; go_simp; all_goals with_reducible rfl)
        simp only [Act.put, Rg.e1, Rg.e2, Rg.e3, Rg.e4, Rg.e5, Rg.e6]
        refine Rg.tk 1 (v := ?_) ?_ ?_
        rotate_left
        · intro wx hSx
          cases Rw6.row hSx.1; cases Rw5.row hSx.2; go_simp
          all_goals with_reducible rfl
        simp only [Act.put, Rg.e1, Rg.e2, Rg.e3, Rg.e4, Rg.e5, Rg.e6]
        refine Rg.tk 2 (v := ?_) ?_ ?_
        rotate_left
        · (intro wx hSx; go_simp; all_goals with_reducible rfl)
        simp only [Act.put, Rg.e1, Rg.e2, Rg.e3, Rg.e4, Rg.e5, Rg.e6]
        refine Rg.sk 3 ?_
        simp only [Act.put, Rg.e1, Rg.e2, Rg.e3, Rg.e4, Rg.e5, Rg.e6]
        refine Rg.sk 4 ?_
        simp only [Act.put, Rg.e1, Rg.e2, Rg.e3, Rg.e4, Rg.e5, Rg.e6]
        refine Rg.sk 5 ?_
        simp only [Act.put, Rg.e1, Rg.e2, Rg.e3, Rg.e4, Rg.e5, Rg.e6]
        refine Rg.sk 6 ?_
        simp only [Act.put, Rg.e1, Rg.e2, Rg.e3, Rg.e4, Rg.e5, Rg.e6]
        refine Rg.sk 7 ?_
        simp only [Act.put, Rg.e1, Rg.e2, Rg.e3, Rg.e4, Rg.e5, Rg.e6]
        refine Rg.sk 8 ?_
        simp only [Act.put, Rg.e1, Rg.e2, Rg.e3, Rg.e4, Rg.e5, Rg.e6]
        refine Rg.tk 9 (v := ?_) ?_ ?_
        rotate_left
        · (intro wx hSx; go_simp; all_goals with_reducible rfl)
        simp only [Act.put, Rg.e1, Rg.e2, Rg.e3, Rg.e4, Rg.e5, Rg.e6]
        refine wpAnyH_done (by kernel_rfl) ?_ _
        cases Rw6.row hHeld.1
        cases Rw6.row HR.out
        go_wp2
        (try simp only [Exit.inBlock, Exit.then]); refine bodyPost_ret (results_row2 rfl _ _ (g + 1 + 1) 32 _ (0, 0) _ rfl (Rw6.blk_set HR.out _ _ _ _ _ _) Try.underlying32 rfl info_rps) rfl ?_
        exact ⟨rfl, Rw6.below_set HB.out (by omega) _ _ _ _ _ _⟩
      | false =>
        refine wp_region_held_drew (S := fun wx => Blk wx g 32 (psC s0 e0 n0 true e n) ∧ Blk wx (g + 1) 43 (msC q b false e n)) (by kernel_rfl) ⟨HS.out.1.drew, HS.out.2.drew⟩ (fun hHeld => ?_)
        generalize w6.drew = wd at hHeld HR HB ⊢
        refine Rg.tk 0 (v := ?_) ?_ ?_
        rotate_left
        · (intro wx hSx; go_simp; all_goals with_reducible rfl)
        simp only [Act.put, Rg.e1, Rg.e2, Rg.e3, Rg.e4, Rg.e5, Rg.e6]
        refine Rg.tk 1 (v := ?_) ?_ ?_
        rotate_left
        · intro wx hSx
          cases Rw6.row hSx.1; cases Rw5.row hSx.2; go_simp
          all_goals with_reducible rfl
        simp only [Act.put, Rg.e1, Rg.e2, Rg.e3, Rg.e4, Rg.e5, Rg.e6]
        refine Rg.tk 2 (v := ?_) ?_ ?_
        rotate_left
        · (intro wx hSx; go_simp; all_goals with_reducible rfl)
        simp only [Act.put, Rg.e1, Rg.e2, Rg.e3, Rg.e4, Rg.e5, Rg.e6]
        refine Rg.tk 3 (v := ?_) ?_ ?_
        rotate_left
        · (intro wx hSx; go_simp; all_goals with_reducible rfl)
        simp only [Act.put, Rg.e1, Rg.e2, Rg.e3, Rg.e4, Rg.e5, Rg.e6]
        refine Rg.tk 4 (v := ?_) ?_ ?_
        rotate_left
        · (intro wx hSx; go_simp; all_goals with_reducible rfl)
        simp only [Act.put, Rg.e1, Rg.e2, Rg.e3, Rg.e4, Rg.e5, Rg.e6]
        refine Rg.tk 5 (v := ?_) ?_ ?_
        rotate_left
        · (intro wx hSx; go_simp; all_goals with_reducible rfl)
        simp only [Act.put, Rg.e1, Rg.e2, Rg.e3, Rg.e4, Rg.e5, Rg.e6]
        refine Rg.tk 6 (v := ?_) ?_ ?_
        rotate_left
        · intro wx hSx
          cases Rw6.row hSx.1; cases Rw5.row hSx.2; go_simp
          all_goals with_reducible rfl
        simp only [Act.put, Rg.e1, Rg.e2, Rg.e3, Rg.e4, Rg.e5, Rg.e6]
        refine Rg.tk 7 (v := ?_) ?_ ?_
        rotate_left
        · intro wx hSx
          cases Rw6.row hSx.1; cases Rw5.row hSx.2; go_simp
          all_goals with_reducible rfl
        simp only [Act.put, Rg.e1, Rg.e2, Rg.e3, Rg.e4, Rg.e5, Rg.e6]
        refine wpAnyH_ready (rs := [8]) (by kernel_rfl) (by simp) ?_
        refine .cons (o := _) rfl (fun K hK => ?_) ?_
        · go_simp
          refine (same_at s0 e0 n0 q b false e n wd).mono ?_
          rintro x wr1 ⟨rfl, hbc⟩
          rw [HY.out]
          have HBC := Lib.hid hbc
          clear hbc
          go_wp2_with fail
          refine Rg.st_same hK (KS.out _ _ hHeld HBC.out) (fun hHeld => ?_)
          clear hK K
          have HR := Lib.hid (HR.out.below HBC.out HR.out.lt)
          have HB := Lib.hid (HB.out.trans (HBC.out.mono HB.out.size))
          clear HBC
          try simp only [Rg.e1, Rg.e2, Rg.e3]
          refine Rg.tk 9 (v := ?_) ?_ ?_
          rotate_left
          · (intro wx hSx; go_simp; all_goals with_reducible rfl)
          simp only [Act.put, Rg.e1, Rg.e2, Rg.e3, Rg.e4, Rg.e5, Rg.e6]
          refine wpAnyH_done (by kernel_rfl) ?_ _
          cases Rw6.row hHeld.1
          cases Rw6.row HR.out
          cases y with
          | true =>
            go_wp2
            (try simp only [Exit.inBlock, Exit.then]); refine bodyPost_ret (results_row2 rfl _ _ (g + 1 + 1) 32 _ (0, 0) _ rfl (Rw6.blk_set HR.out _ _ _ _ _ _) Try.underlying32 rfl info_rps) rfl ?_
            exact ⟨rfl, Rw6.below_set HB.out (by omega) _ _ _ _ _ _⟩
          | false =>
            go_wp2
            (try simp only [Exit.inBlock, Exit.then]); refine bodyPost_ret (results_row2 rfl _ _ (g + 1 + 1) 32 _ (0, 0) _ rfl (Rw6.blk_set HR.out _ _ _ _ _ _) Try.underlying32 rfl info_rps) rfl ?_
            exact ⟨rfl, Rw6.below_set HB.out (by omega) _ _ _ _ _ _⟩
        exact AllReadyH.nil

end Go.Proofs.Ythhiagdncjpdcaa.Fh
