/-
  The statement BurstPlays: its walk.
-/
import Derived.Test.YthhiagdncjpdcaaBuB
import Derived.Test.YthhiagdncjpdcaaBuO
import Derived.Test.YthhiagdncjpdcaaRgK
import Derived.Deep.CutBlock
namespace Go.Proofs.Ythhiagdncjpdcaa.Bu
open Go.RowKit Go.Proofs.Ythhiagdncjpdcaa.Mm Go.Proofs.Ythhiagdncjpdcaa.Tg Go.Proofs.Ythhiagdncjpdcaa.Lw Go.Proofs.Ythhiagdncjpdcaa.Op
set_option linter.unusedSimpArgs false
set_option linter.unusedVariables false

abbrev bacC (kd lt : Nat) : Array Value := #[.int .u8 (kd : Int), .int .u16 (lt : Int)]
/-- an act out of a slice of acts -/
theorem rd_bact {w : World} {B : Nat} {A : Option Addr} {l : List (Nat × Nat)} (h : Rd w B A (bactsCells l)) {i : Nat} (hi : i < l.length) :
    ∃ ad : Addr, A = some ad ∧ ad.block < B ∧ w.cell? (ad.add (i * 2)) = some (.int .u8 (l[i].1 : Int)) ∧ w.cell? ⟨(ad.add (i * 2)).block, (ad.add (i * 2)).off + 1, none⟩ = some (.int .u16 (l[i].2 : Int)) := by
  obtain ⟨ad, e1, e2, e3⟩ := h (by rw [length_bactsCells]; omega)
  obtain ⟨g0, g1⟩ := get_bactsCells l i hi
  refine ⟨ad, e1, e2, e3 _ _ g0, ?_⟩
  rw [← add_succ]; exact e3 _ _ g1

set_option maxRecDepth 100000 in
set_option maxHeartbeats 8000000 in
theorem plays_walk (g p : Int) (ps : List (Nat × Nat)) (A : Option Addr) (c : Nat) (w : World)
    (_hg : (Lit.int .i64 g).wf = true) (_hp : (Lit.int .i64 p).wf = true) (hm : ps.length ≤ maxLen) (hA : Rd w w.heap.size A (bactsCells ps)) (hB : ∀ q ∈ ps, q.1 < 256 ∧ q.2 < 65536) :
    Calls Try.prog 5 #[.int .i64 g, .int .i64 p, .slice A ps.length c] w (Law1 w) := by
  unfold maxLen at hm
  have HA := Lib.hid hA; have HB := Lib.hid hB
  clear hA hB _hg _hp
  by_cases h80 : 100 < ps.length
  · have hl2 : decide ((100 : Int) < (ps.length : Int)) = true := decide_eq_true (by omega)
    go_enter Try.func5, Try.ntmps5
    go_wp2_with fail
    refine (awake15 w).mono ?_
    rintro e w1 ⟨rfl, hb⟩
    have HW := Lib.hid hb; clear hb
    go_wp2
    go_ret
    exact ⟨rfl, HW.out⟩
  have hl2 : decide ((100 : Int) < (ps.length : Int)) = false := decide_eq_false (by omega)

  by_cases h1 : g < 1
  · have c1 : decide (g < 1) = true := decide_eq_true h1
    have HO : Hid (¬ okT g) := Lib.hid (by unfold okT; omega)
    clear h1
    go_enter Try.func5, Try.ntmps5
    go_wp2_with fail
    refine (new_bada g p w HO.out).mono ?_
    rintro e w1 ⟨rfl, hb⟩
    go_upto_region 4 with (fail)
    have HT := Lib.hid (Blk.fresh w1 50 zeroB)
    have HW := Lib.hid (hb.alloc hb.size (.cells zeroB 50))
    obtain ⟨a, ha⟩ : ∃ a, a = w1.heap.size := ⟨_, rfl⟩
    rw [← ha] at HT ⊢
    clear hb ha
    generalize w1.alloc (.cells zeroB 50) = w2 at HT HW ⊢
    go_wp2_with fail
    refine (awake15 w2).mono ?_
    rintro e w3 ⟨rfl, hb⟩
    have HT3 := Lib.hid (HT.out.below hb HT.out.lt)
    have HW3 := Lib.hid (HW.out.trans (hb.mono HW.out.size))
    clear hb
    cases Rw5.row HT3.out
    go_wp2
    go_ret
    exact ⟨rfl, HW3.out⟩
  have c1 : decide (g < 1) = false := decide_eq_false h1
  by_cases h2 : 1048576 < g
  · have c2 : decide (1048576 < g) = true := decide_eq_true h2
    have HO : Hid (¬ okT g) := Lib.hid (by unfold okT; omega)
    clear h1 h2
    go_enter Try.func5, Try.ntmps5
    go_wp2_with fail
    refine (new_bada g p w HO.out).mono ?_
    rintro e w1 ⟨rfl, hb⟩
    go_upto_region 4 with (fail)
    have HT := Lib.hid (Blk.fresh w1 50 zeroB)
    have HW := Lib.hid (hb.alloc hb.size (.cells zeroB 50))
    obtain ⟨a, ha⟩ : ∃ a, a = w1.heap.size := ⟨_, rfl⟩
    rw [← ha] at HT ⊢
    clear hb ha
    generalize w1.alloc (.cells zeroB 50) = w2 at HT HW ⊢
    go_wp2_with fail
    refine (awake15 w2).mono ?_
    rintro e w3 ⟨rfl, hb⟩
    have HT3 := Lib.hid (HT.out.below hb HT.out.lt)
    have HW3 := Lib.hid (HW.out.trans (hb.mono HW.out.size))
    clear hb
    cases Rw5.row HT3.out
    go_wp2
    go_ret
    exact ⟨rfl, HW3.out⟩
  have c2 : decide (1048576 < g) = false := decide_eq_false h2
  have HG : Hid (okT g) := Lib.hid (by unfold okT; omega)
  by_cases h3 : p < 1
  · have c3 : decide (p < 1) = true := decide_eq_true h3
    have HO : Hid (¬ okT p) := Lib.hid (by unfold okT; omega)
    clear h1 h2 h3
    go_enter Try.func5, Try.ntmps5
    go_wp2_with fail
    refine (new_badb g p w HG.out HO.out).mono ?_
    rintro e w1 ⟨rfl, hb⟩
    go_upto_region 4 with (fail)
    have HT := Lib.hid (Blk.fresh w1 50 zeroB)
    have HW := Lib.hid (hb.alloc hb.size (.cells zeroB 50))
    obtain ⟨a, ha⟩ : ∃ a, a = w1.heap.size := ⟨_, rfl⟩
    rw [← ha] at HT ⊢
    clear hb ha
    generalize w1.alloc (.cells zeroB 50) = w2 at HT HW ⊢
    go_wp2_with fail
    refine (awake15 w2).mono ?_
    rintro e w3 ⟨rfl, hb⟩
    have HT3 := Lib.hid (HT.out.below hb HT.out.lt)
    have HW3 := Lib.hid (HW.out.trans (hb.mono HW.out.size))
    clear hb
    cases Rw5.row HT3.out
    go_wp2
    go_ret
    exact ⟨rfl, HW3.out⟩
  have c3 : decide (p < 1) = false := decide_eq_false h3
  by_cases h4 : 1048576 < p
  · have c4 : decide (1048576 < p) = true := decide_eq_true h4
    have HO : Hid (¬ okT p) := Lib.hid (by unfold okT; omega)
    clear h1 h2 h3 h4
    go_enter Try.func5, Try.ntmps5
    go_wp2_with fail
    refine (new_badb g p w HG.out HO.out).mono ?_
    rintro e w1 ⟨rfl, hb⟩
    go_upto_region 4 with (fail)
    have HT := Lib.hid (Blk.fresh w1 50 zeroB)
    have HW := Lib.hid (hb.alloc hb.size (.cells zeroB 50))
    obtain ⟨a, ha⟩ : ∃ a, a = w1.heap.size := ⟨_, rfl⟩
    rw [← ha] at HT ⊢
    clear hb ha
    generalize w1.alloc (.cells zeroB 50) = w2 at HT HW ⊢
    go_wp2_with fail
    refine (awake15 w2).mono ?_
    rintro e w3 ⟨rfl, hb⟩
    have HT3 := Lib.hid (HT.out.below hb HT.out.lt)
    have HW3 := Lib.hid (HW.out.trans (hb.mono HW.out.size))
    clear hb
    cases Rw5.row HT3.out
    go_wp2
    go_ret
    exact ⟨rfl, HW3.out⟩
  have c4 : decide (1048576 < p) = false := decide_eq_false h4
  have HP : Hid (okT p) := Lib.hid (by unfold okT; omega)
  clear h1 h2 h3 h4

  go_enter Try.func5, Try.ntmps5
  go_wp2_with fail
  refine (new_ok g p w HG.out HP.out).mono ?_
  rintro e w1 ⟨rfl, hb⟩
  go_upto_region 7 with (fail)
  obtain ⟨a, ha⟩ : ∃ a, a = w1.heap.size := ⟨_, rfl⟩
  have L0 : w.heap.size ≤ a := by rw [ha]; exact hb.size
  have HT := Lib.hid (blk_two w1 50 54 (buC g p 0 false 0) (buC g p 0 false 0))
  have HR := Lib.hid (fresh_second w1 (.cells (buC g p 0 false 0) 50) 54 (buC g p 0 false 0))
  have HW := Lib.hid (hb.trans ((below_two w1 (.cells (buC g p 0 false 0) 50) (.cells (buC g p 0 false 0) 54)).mono hb.size))
  rw [← ha] at HT HR ⊢
  clear hb ha
  generalize (w1.alloc (.cells (buC g p 0 false 0) 50)).alloc (.cells (buC g p 0 false 0) 54) = w2 at HT HR HW ⊢
  go_wp2_with fail
  go_loopw [10, 54] (fun s10 i wr => ∃ (k : Nat) (t n : Int) (on : Bool) (s : Int), k ≤ ps.length ∧ i = .int .i64 k ∧ s10 = .int .i64 t ∧ 0 ≤ t ∧ t ≤ k * 65535 ∧ (0 ≤ s ∧ s ≤ 3) ∧ Blk wr a 50 (buC g p n on s) ∧ Blk wr (a + 1) 54 (buC g p n on s) ∧ Below w.heap.size w wr) (fun _ i _ => ps.length - (intOf i).toNat)
  case atStart => exact ⟨0, 0, 0, false, 0, Nat.zero_le _, rfl, rfl, by omega, by omega, by omega, HT.out, HR.out, HW.out⟩
  case round =>
    obtain ⟨k, t, n, on, s, hk, rfl, rfl, ht0, ht1, hs, hT, hR, hW⟩ := hrel
    clear HT HR HW
    have HT := Lib.hid hT; have HR := Lib.hid hR; have HW := Lib.hid hW
    clear hT hR hW
    by_cases hlt : k < ps.length
    · obtain ⟨ad, hAd, hbl, c0, c1⟩ := rd_bact (HA.out.below HW.out) hlt
      subst hAd
      have hq := HB.out _ (List.getElem_mem hlt)
      obtain ⟨q, hqe⟩ : ∃ q, q = ps[k] := ⟨_, rfl⟩
      rw [← hqe] at c0 c1 hq
      clear hqe
      obtain ⟨kd, lt⟩ := q
      dsimp only at c0 c1 hq
      obtain ⟨hq0, hq1⟩ := hq
      have hwl : IntKind.i64.wrap (lt : Int) = (lt : Int) := by rw [IntKind.wrap_i64]; omega
      obtain ⟨u, hu⟩ : ∃ u, u = t + (lt : Int) := ⟨_, rfl⟩
      have hwr : IntKind.i64.wrap (t + (lt : Int)) = u := by rw [IntKind.wrap_i64]; omega
      have hu0 : 0 ≤ u := by omega
      have hu1 : u ≤ ((k + 1 : Nat) : Int) * 65535 := by omega
      clear hu
      go_upto_region 11 with (fail)
      obtain ⟨z, hz⟩ : ∃ z, z = wr.heap.size := ⟨_, rfl⟩
      have LZ : w.heap.size ≤ z := by rw [hz]; exact HW.out.size
      have LG : a + 1 < z := by rw [hz]; exact HR.out.lt
      have hQ := (Below.refl wr.heap.size wr).alloc (Nat.le_refl _) (.cells (bacC kd lt) 57)
      have HT1 := Lib.hid (HT.out.below hQ HT.out.lt)
      have HR1 := Lib.hid (HR.out.below hQ HR.out.lt)
      have HC := Lib.hid (Blk.fresh wr 57 (bacC kd lt))
      have HW1 := Lib.hid (HW.out.trans (hQ.mono HW.out.size))
      rw [← hz] at HC ⊢
      clear hQ hz HT HR HW c0 c1 hbl
      generalize wr.alloc (.cells (bacC kd lt) 57) = w3 at HT1 HR1 HC HW1 ⊢
      cases Rw2.row HC.out
      go_upto_block 2 with (fail)
      go_cut [13, 14] (fun s13 s14 wx => ∃ (y : Bool) (n' : Int) (on' : Bool) (s' : Int), s13 = .bool y ∧ s14 = .bool y ∧ (0 ≤ s' ∧ s' ≤ 3) ∧ Blk wx a 50 (buC g p n' on' s') ∧ Blk wx (a + 1) 54 (buC g p n' on' s') ∧ Below w.heap.size w wx)
      case first =>
        by_cases k0 : kd = 0
        · have e0 : ((kd : Int) == 0) = true := by simp [k0]
          clear k0
          obtain ⟨n', s', y, hs', hP, hF⟩ := tick_both g p n on s u HG.out HP.out hs ⟨hu0, by omega⟩
          have HP1 := Lib.hid hP; have HF := Lib.hid hF
          clear hP hF
          cases Rw5.row HT1.out
          go_wp2_with fail
          refine (HP1.out w3).mono ?_
          rintro e w5 ⟨rfl, hb⟩
          have HT5 := Lib.hid (HT1.out.below hb HT1.out.lt)
          have HR5 := Lib.hid (HR1.out.below hb HR1.out.lt)
          have HW5 := Lib.hid (HW1.out.trans (hb.mono HW1.out.size))
          clear hb
          cases Rw5.row HT5.out
          go_upto_region 16 with (fail)
          obtain ⟨w6, hw6, b1, b2, b3⟩ : ∃ w6 : World, w6 = Rw5.set w5 a (.int .i64 g) (.int .i64 p) (.int .i64 n') (.bool on) (.int .i64 s') ∧ Blk w6 a 50 (buC g p n' on s') ∧ Blk w6 (a + 1) 54 (buC g p n on s) ∧ Below w.heap.size w w6 := ⟨_, rfl, Rw5.blk_set HT5.out _ _ _ _ _, Rw5.far HR5.out (by omega) _ _ _ _ _, Rw5.below_set HW5.out L0 _ _ _ _ _⟩
          dsimp only [Rw5.set] at hw6
          rw [← hw6]
          have HT6 := Lib.hid b1; have HR6 := Lib.hid b2; have HW6 := Lib.hid b3
          clear hw6 b1 b2 b3
          cases Rw5.row HR6.out
          go_wp2_with fail
          refine (HF.out w6).mono ?_
          rintro e w7 ⟨rfl, hb⟩
          have HT7 := Lib.hid (HT6.out.below hb HT6.out.lt)
          have HR7 := Lib.hid (HR6.out.below hb HR6.out.lt)
          have HW7 := Lib.hid (HW6.out.trans (hb.mono HW6.out.size))
          clear hb
          cases Rw5.row HR7.out
          go_wp2_with fail
          go_meet
          exact ⟨y, n', on, s', rfl, rfl, hs', Rw5.far HT7.out (by omega) _ _ _ _ _, Rw5.blk_set HR7.out _ _ _ _ _, Rw5.below_set HW7.out (by omega) _ _ _ _ _⟩
        have e0 : ((kd : Int) == 0) = false := by simp only [beq_eq_false_iff_ne]; omega
        by_cases k1 : kd = 1
        · have e1 : ((kd : Int) == 1) = true := by simp [k1]
          clear k0 k1
          go_upto_region 18 with (fail)
          refine wp_region_held_drew (S := fun wx => Blk wx z 57 (bacC kd lt)) (by kernel_rfl) HC.out.drew (fun hHeld => ?_)
          have HBR := Lib.hid ((Below.refl w3.heap.size w3).drew)
          generalize w3.drew = wd at hHeld HBR ⊢
          refine Rg.tk 1 (v := ?_) ?_ ?_
          rotate_left
          · (intro wx hSx; go_simp; all_goals with_reducible rfl)
          simp only [Act.put, Rg.e1, Rg.e2, Rg.e3, Rg.e4, Rg.e5, Rg.e6]
          refine Rg.tk 4 (v := ?_) ?_ ?_
          rotate_left
          · (intro wx hSx; go_simp; all_goals with_reducible rfl)
          simp only [Act.put, Rg.e1, Rg.e2, Rg.e3, Rg.e4, Rg.e5, Rg.e6]
          refine wpAnyH_ready (rs := [0, 3]) (by kernel_rfl) (by simp) ?_
          refine .cons (o := _) rfl (fun K hK => ?_) ?_
          · cases Rw5.row (HT1.out.below HBR.out HT1.out.lt)
            go_simp
            refine Rg.st_same hK hHeld (fun hHeld => ?_)
            clear hK K
            try simp only [Rg.e1, Rg.e2, Rg.e3]
            refine wpAnyH_ready (rs := [2, 3]) (by kernel_rfl) (by simp) ?_
            refine .cons (o := _) rfl (fun K hK => ?_) ?_
            · go_simp
              refine (begin_at g p n on s u wd).mono ?_
              rintro e wr2 ⟨rfl, hbc⟩
              have HBC := Lib.hid hbc
              clear hbc
              go_wp2_with fail
              refine Rg.st_same hK (hHeld.below HBC.out hHeld.lt) (fun hHeld => ?_)
              clear hK K
              have HBR := Lib.hid (HBR.out.trans (HBC.out.mono HBR.out.size))
              clear HBC
              try simp only [Rg.e1, Rg.e2, Rg.e3]
              refine wpAnyH_ready (rs := [3]) (by kernel_rfl) (by simp) ?_
              refine .cons (o := _) rfl (fun K hK => ?_) ?_
              · cases Rw5.row (HR1.out.below HBR.out HR1.out.lt)
                go_simp
                refine Rg.st_same hK hHeld (fun hHeld => ?_)
                clear hK K
                try simp only [Rg.e1, Rg.e2, Rg.e3]
                refine wpAnyH_ready (rs := [5]) (by kernel_rfl) (by simp) ?_
                refine .cons (o := _) rfl (fun K hK => ?_) ?_
                · go_simp
                  refine (rbegin_at g p n on s u wr2).mono ?_
                  rintro e wr4 ⟨rfl, hbc⟩
                  have HBC := Lib.hid hbc
                  clear hbc
                  go_wp2_with fail
                  refine Rg.st_same hK (hHeld.below HBC.out hHeld.lt) (fun hHeld => ?_)
                  clear hK K
                  have HBR := Lib.hid (HBR.out.trans (HBC.out.mono HBR.out.size))
                  clear HBC
                  try simp only [Rg.e1, Rg.e2, Rg.e3]
                  refine wpAnyH_ready (rs := [6]) (by kernel_rfl) (by simp) ?_
                  refine .cons (o := _) rfl (fun K hK => ?_) ?_
                  · cases Rw5.row (HT1.out.below HBR.out HT1.out.lt)
                    go_simp
                    refine Rg.st_same hK (Rw5.far hHeld (by omega) _ _ _ _ _) (fun hHeld => ?_)
                    clear hK K
                    obtain ⟨wr5, hw9⟩ : ∃ wr5, wr5 = Rw5.set wr4 a (.int .i64 g) (.int .i64 p) (.int .i64 u) (.bool true) (.int .i64 0) := ⟨_, rfl⟩
                    have HTt : Hid (Blk wr5 a 50 (buC g p u true 0)) := Lib.hid (by rw [hw9]; exact Rw5.blk_set (HT1.out.below HBR.out HT1.out.lt) _ _ _ _ _)
                    have HRt : Hid (Blk wr5 (a + 1) 54 (buC g p n on s)) := Lib.hid (by rw [hw9]; exact Rw5.far (HR1.out.below HBR.out HR1.out.lt) (by omega) _ _ _ _ _)
                    have HWt : Hid (Below w.heap.size w wr5) := Lib.hid (by rw [hw9]; exact Rw5.below_set (HW1.out.trans (HBR.out.mono HW1.out.size)) L0 _ _ _ _ _)
                    dsimp only [Rw5.set] at hw9
                    rw [← hw9] at hHeld ⊢
                    clear hw9
                    try simp only [Rg.e1, Rg.e2, Rg.e3]
                    refine wpAnyH_ready (rs := [7]) (by kernel_rfl) (by simp) ?_
                    refine .cons (o := _) rfl (fun K hK => ?_) ?_
                    · cases Rw5.row HRt.out
                      go_simp
                      refine Rg.st_same hK (Rw5.far hHeld (by omega) _ _ _ _ _) (fun hHeld => ?_)
                      clear hK K
                      obtain ⟨wr6, hw8⟩ : ∃ wr6, wr6 = Rw5.set wr5 (a + 1) (.int .i64 g) (.int .i64 p) (.int .i64 u) (.bool true) (.int .i64 0) := ⟨_, rfl⟩
                      have HTu : Hid (Blk wr6 a 50 (buC g p u true 0)) := Lib.hid (by rw [hw8]; exact Rw5.far HTt.out (by omega) _ _ _ _ _)
                      have HRu : Hid (Blk wr6 (a + 1) 54 (buC g p u true 0)) := Lib.hid (by rw [hw8]; exact Rw5.blk_set HRt.out _ _ _ _ _)
                      have HWu : Hid (Below w.heap.size w wr6) := Lib.hid (by rw [hw8]; exact Rw5.below_set HWt.out (by omega) _ _ _ _ _)
                      dsimp only [Rw5.set] at hw8
                      rw [← hw8] at hHeld ⊢
                      clear hw8
                      try simp only [Rg.e1, Rg.e2, Rg.e3]
                      refine wpAnyH_done (by kernel_rfl) ?_ _
                      go_wp2_with fail
                      go_meet
                      exact ⟨false, u, true, 0, rfl, rfl, by omega, HTu.out, HRu.out, HWu.out⟩
                    exact AllReadyH.nil
                  exact AllReadyH.nil
                exact AllReadyH.nil
              exact AllReadyH.nil
            refine .cons (o := _) rfl (fun K hK => ?_) ?_
            · cases Rw5.row (HR1.out.below HBR.out HR1.out.lt)
              go_simp
              refine Rg.st_same hK hHeld (fun hHeld => ?_)
              clear hK K
              try simp only [Rg.e1, Rg.e2, Rg.e3]
              refine wpAnyH_ready (rs := [2]) (by kernel_rfl) (by simp) ?_
              refine .cons (o := _) rfl (fun K hK => ?_) ?_
              · go_simp
                refine (begin_at g p n on s u wd).mono ?_
                rintro e wr8 ⟨rfl, hbc⟩
                have HBC := Lib.hid hbc
                clear hbc
                go_wp2_with fail
                refine Rg.st_same hK (hHeld.below HBC.out hHeld.lt) (fun hHeld => ?_)
                clear hK K
                have HBR := Lib.hid (HBR.out.trans (HBC.out.mono HBR.out.size))
                clear HBC
                try simp only [Rg.e1, Rg.e2, Rg.e3]
                refine wpAnyH_ready (rs := [5]) (by kernel_rfl) (by simp) ?_
                refine .cons (o := _) rfl (fun K hK => ?_) ?_
                · go_simp
                  refine (rbegin_at g p n on s u wr8).mono ?_
                  rintro e wr9 ⟨rfl, hbc⟩
                  have HBC := Lib.hid hbc
                  clear hbc
                  go_wp2_with fail
                  refine Rg.st_same hK (hHeld.below HBC.out hHeld.lt) (fun hHeld => ?_)
                  clear hK K
                  have HBR := Lib.hid (HBR.out.trans (HBC.out.mono HBR.out.size))
                  clear HBC
                  try simp only [Rg.e1, Rg.e2, Rg.e3]
                  refine wpAnyH_ready (rs := [6]) (by kernel_rfl) (by simp) ?_
                  refine .cons (o := _) rfl (fun K hK => ?_) ?_
                  · cases Rw5.row (HT1.out.below HBR.out HT1.out.lt)
                    go_simp
                    refine Rg.st_same hK (Rw5.far hHeld (by omega) _ _ _ _ _) (fun hHeld => ?_)
                    clear hK K
                    obtain ⟨wr10, hw9⟩ : ∃ wr10, wr10 = Rw5.set wr9 a (.int .i64 g) (.int .i64 p) (.int .i64 u) (.bool true) (.int .i64 0) := ⟨_, rfl⟩
                    have HTt : Hid (Blk wr10 a 50 (buC g p u true 0)) := Lib.hid (by rw [hw9]; exact Rw5.blk_set (HT1.out.below HBR.out HT1.out.lt) _ _ _ _ _)
                    have HRt : Hid (Blk wr10 (a + 1) 54 (buC g p n on s)) := Lib.hid (by rw [hw9]; exact Rw5.far (HR1.out.below HBR.out HR1.out.lt) (by omega) _ _ _ _ _)
                    have HWt : Hid (Below w.heap.size w wr10) := Lib.hid (by rw [hw9]; exact Rw5.below_set (HW1.out.trans (HBR.out.mono HW1.out.size)) L0 _ _ _ _ _)
                    dsimp only [Rw5.set] at hw9
                    rw [← hw9] at hHeld ⊢
                    clear hw9
                    try simp only [Rg.e1, Rg.e2, Rg.e3]
                    refine wpAnyH_ready (rs := [7]) (by kernel_rfl) (by simp) ?_
                    refine .cons (o := _) rfl (fun K hK => ?_) ?_
                    · cases Rw5.row HRt.out
                      go_simp
                      refine Rg.st_same hK (Rw5.far hHeld (by omega) _ _ _ _ _) (fun hHeld => ?_)
                      clear hK K
                      obtain ⟨wr11, hw8⟩ : ∃ wr11, wr11 = Rw5.set wr10 (a + 1) (.int .i64 g) (.int .i64 p) (.int .i64 u) (.bool true) (.int .i64 0) := ⟨_, rfl⟩
                      have HTu : Hid (Blk wr11 a 50 (buC g p u true 0)) := Lib.hid (by rw [hw8]; exact Rw5.far HTt.out (by omega) _ _ _ _ _)
                      have HRu : Hid (Blk wr11 (a + 1) 54 (buC g p u true 0)) := Lib.hid (by rw [hw8]; exact Rw5.blk_set HRt.out _ _ _ _ _)
                      have HWu : Hid (Below w.heap.size w wr11) := Lib.hid (by rw [hw8]; exact Rw5.below_set HWt.out (by omega) _ _ _ _ _)
                      dsimp only [Rw5.set] at hw8
                      rw [← hw8] at hHeld ⊢
                      clear hw8
                      try simp only [Rg.e1, Rg.e2, Rg.e3]
                      refine wpAnyH_done (by kernel_rfl) ?_ _
                      go_wp2_with fail
                      go_meet
                      exact ⟨false, u, true, 0, rfl, rfl, by omega, HTu.out, HRu.out, HWu.out⟩
                    exact AllReadyH.nil
                  exact AllReadyH.nil
                exact AllReadyH.nil
              exact AllReadyH.nil
            exact AllReadyH.nil
          refine .cons (o := _) rfl (fun K hK => ?_) ?_
          · cases Rw5.row (HR1.out.below HBR.out HR1.out.lt)
            go_simp
            refine Rg.st_same hK hHeld (fun hHeld => ?_)
            clear hK K
            try simp only [Rg.e1, Rg.e2, Rg.e3]
            refine wpAnyH_ready (rs := [0]) (by kernel_rfl) (by simp) ?_
            refine .cons (o := _) rfl (fun K hK => ?_) ?_
            · cases Rw5.row (HT1.out.below HBR.out HT1.out.lt)
              go_simp
              refine Rg.st_same hK hHeld (fun hHeld => ?_)
              clear hK K
              try simp only [Rg.e1, Rg.e2, Rg.e3]
              refine wpAnyH_ready (rs := [2]) (by kernel_rfl) (by simp) ?_
              refine .cons (o := _) rfl (fun K hK => ?_) ?_
              · go_simp
                refine (begin_at g p n on s u wd).mono ?_
                rintro e wr14 ⟨rfl, hbc⟩
                have HBC := Lib.hid hbc
                clear hbc
                go_wp2_with fail
                refine Rg.st_same hK (hHeld.below HBC.out hHeld.lt) (fun hHeld => ?_)
                clear hK K
                have HBR := Lib.hid (HBR.out.trans (HBC.out.mono HBR.out.size))
                clear HBC
                try simp only [Rg.e1, Rg.e2, Rg.e3]
                refine wpAnyH_ready (rs := [5]) (by kernel_rfl) (by simp) ?_
                refine .cons (o := _) rfl (fun K hK => ?_) ?_
                · go_simp
                  refine (rbegin_at g p n on s u wr14).mono ?_
                  rintro e wr15 ⟨rfl, hbc⟩
                  have HBC := Lib.hid hbc
                  clear hbc
                  go_wp2_with fail
                  refine Rg.st_same hK (hHeld.below HBC.out hHeld.lt) (fun hHeld => ?_)
                  clear hK K
                  have HBR := Lib.hid (HBR.out.trans (HBC.out.mono HBR.out.size))
                  clear HBC
                  try simp only [Rg.e1, Rg.e2, Rg.e3]
                  refine wpAnyH_ready (rs := [6]) (by kernel_rfl) (by simp) ?_
                  refine .cons (o := _) rfl (fun K hK => ?_) ?_
                  · cases Rw5.row (HT1.out.below HBR.out HT1.out.lt)
                    go_simp
                    refine Rg.st_same hK (Rw5.far hHeld (by omega) _ _ _ _ _) (fun hHeld => ?_)
                    clear hK K
                    obtain ⟨wr16, hw9⟩ : ∃ wr16, wr16 = Rw5.set wr15 a (.int .i64 g) (.int .i64 p) (.int .i64 u) (.bool true) (.int .i64 0) := ⟨_, rfl⟩
                    have HTt : Hid (Blk wr16 a 50 (buC g p u true 0)) := Lib.hid (by rw [hw9]; exact Rw5.blk_set (HT1.out.below HBR.out HT1.out.lt) _ _ _ _ _)
                    have HRt : Hid (Blk wr16 (a + 1) 54 (buC g p n on s)) := Lib.hid (by rw [hw9]; exact Rw5.far (HR1.out.below HBR.out HR1.out.lt) (by omega) _ _ _ _ _)
                    have HWt : Hid (Below w.heap.size w wr16) := Lib.hid (by rw [hw9]; exact Rw5.below_set (HW1.out.trans (HBR.out.mono HW1.out.size)) L0 _ _ _ _ _)
                    dsimp only [Rw5.set] at hw9
                    rw [← hw9] at hHeld ⊢
                    clear hw9
                    try simp only [Rg.e1, Rg.e2, Rg.e3]
                    refine wpAnyH_ready (rs := [7]) (by kernel_rfl) (by simp) ?_
                    refine .cons (o := _) rfl (fun K hK => ?_) ?_
                    · cases Rw5.row HRt.out
                      go_simp
                      refine Rg.st_same hK (Rw5.far hHeld (by omega) _ _ _ _ _) (fun hHeld => ?_)
                      clear hK K
                      obtain ⟨wr17, hw8⟩ : ∃ wr17, wr17 = Rw5.set wr16 (a + 1) (.int .i64 g) (.int .i64 p) (.int .i64 u) (.bool true) (.int .i64 0) := ⟨_, rfl⟩
                      have HTu : Hid (Blk wr17 a 50 (buC g p u true 0)) := Lib.hid (by rw [hw8]; exact Rw5.far HTt.out (by omega) _ _ _ _ _)
                      have HRu : Hid (Blk wr17 (a + 1) 54 (buC g p u true 0)) := Lib.hid (by rw [hw8]; exact Rw5.blk_set HRt.out _ _ _ _ _)
                      have HWu : Hid (Below w.heap.size w wr17) := Lib.hid (by rw [hw8]; exact Rw5.below_set HWt.out (by omega) _ _ _ _ _)
                      dsimp only [Rw5.set] at hw8
                      rw [← hw8] at hHeld ⊢
                      clear hw8
                      try simp only [Rg.e1, Rg.e2, Rg.e3]
                      refine wpAnyH_done (by kernel_rfl) ?_ _
                      go_wp2_with fail
                      go_meet
                      exact ⟨false, u, true, 0, rfl, rfl, by omega, HTu.out, HRu.out, HWu.out⟩
                    exact AllReadyH.nil
                  exact AllReadyH.nil
                exact AllReadyH.nil
              exact AllReadyH.nil
            exact AllReadyH.nil
          exact AllReadyH.nil
        have e1 : ((kd : Int) == 1) = false := by simp only [beq_eq_false_iff_ne]; omega
        by_cases k2 : kd = 2
        · have e2 : ((kd : Int) == 2) = true := by simp [k2]
          clear k0 k1 k2
          go_upto_region 20 with (fail)
          refine wp_region_held_drew (S := fun wx => Blk wx z 57 (bacC kd lt)) (by kernel_rfl) HC.out.drew (fun hHeld => ?_)
          have HBR := Lib.hid ((Below.refl w3.heap.size w3).drew)
          generalize w3.drew = wd at hHeld HBR ⊢
          refine wpAnyH_ready (rs := [0, 2]) (by kernel_rfl) (by simp) ?_
          refine .cons (o := _) rfl (fun K hK => ?_) ?_
          · cases Rw5.row (HT1.out.below HBR.out HT1.out.lt)
            go_simp
            refine Rg.st_same hK hHeld (fun hHeld => ?_)
            clear hK K
            try simp only [Rg.e1, Rg.e2, Rg.e3]
            refine wpAnyH_ready (rs := [1, 2]) (by kernel_rfl) (by simp) ?_
            refine .cons (o := _) rfl (fun K hK => ?_) ?_
            · go_simp
              refine (end_at g p n on s wd).mono ?_
              rintro e wr2 ⟨rfl, hbc⟩
              have HBC := Lib.hid hbc
              clear hbc
              go_wp2_with fail
              refine Rg.st_same hK (hHeld.below HBC.out hHeld.lt) (fun hHeld => ?_)
              clear hK K
              have HBR := Lib.hid (HBR.out.trans (HBC.out.mono HBR.out.size))
              clear HBC
              try simp only [Rg.e1, Rg.e2, Rg.e3]
              refine wpAnyH_ready (rs := [2]) (by kernel_rfl) (by simp) ?_
              refine .cons (o := _) rfl (fun K hK => ?_) ?_
              · cases Rw5.row (HR1.out.below HBR.out HR1.out.lt)
                go_simp
                refine Rg.st_same hK hHeld (fun hHeld => ?_)
                clear hK K
                try simp only [Rg.e1, Rg.e2, Rg.e3]
                refine wpAnyH_ready (rs := [3]) (by kernel_rfl) (by simp) ?_
                refine .cons (o := _) rfl (fun K hK => ?_) ?_
                · go_simp
                  refine (rend_at g p n on s wr2).mono ?_
                  rintro e wr4 ⟨rfl, hbc⟩
                  have HBC := Lib.hid hbc
                  clear hbc
                  go_wp2_with fail
                  refine Rg.st_same hK (hHeld.below HBC.out hHeld.lt) (fun hHeld => ?_)
                  clear hK K
                  have HBR := Lib.hid (HBR.out.trans (HBC.out.mono HBR.out.size))
                  clear HBC
                  try simp only [Rg.e1, Rg.e2, Rg.e3]
                  refine wpAnyH_ready (rs := [4]) (by kernel_rfl) (by simp) ?_
                  refine .cons (o := _) rfl (fun K hK => ?_) ?_
                  · cases Rw5.row (HT1.out.below HBR.out HT1.out.lt)
                    go_simp
                    refine Rg.st_same hK (Rw5.far hHeld (by omega) _ _ _ _ _) (fun hHeld => ?_)
                    clear hK K
                    obtain ⟨wr5, hw9⟩ : ∃ wr5, wr5 = Rw5.set wr4 a (.int .i64 g) (.int .i64 p) (.int .i64 0) (.bool false) (.int .i64 0) := ⟨_, rfl⟩
                    have HTt : Hid (Blk wr5 a 50 (buC g p 0 false 0)) := Lib.hid (by rw [hw9]; exact Rw5.blk_set (HT1.out.below HBR.out HT1.out.lt) _ _ _ _ _)
                    have HRt : Hid (Blk wr5 (a + 1) 54 (buC g p n on s)) := Lib.hid (by rw [hw9]; exact Rw5.far (HR1.out.below HBR.out HR1.out.lt) (by omega) _ _ _ _ _)
                    have HWt : Hid (Below w.heap.size w wr5) := Lib.hid (by rw [hw9]; exact Rw5.below_set (HW1.out.trans (HBR.out.mono HW1.out.size)) L0 _ _ _ _ _)
                    dsimp only [Rw5.set] at hw9
                    rw [← hw9] at hHeld ⊢
                    clear hw9
                    try simp only [Rg.e1, Rg.e2, Rg.e3]
                    refine wpAnyH_ready (rs := [5]) (by kernel_rfl) (by simp) ?_
                    refine .cons (o := _) rfl (fun K hK => ?_) ?_
                    · cases Rw5.row HRt.out
                      go_simp
                      refine Rg.st_same hK (Rw5.far hHeld (by omega) _ _ _ _ _) (fun hHeld => ?_)
                      clear hK K
                      obtain ⟨wr6, hw8⟩ : ∃ wr6, wr6 = Rw5.set wr5 (a + 1) (.int .i64 g) (.int .i64 p) (.int .i64 0) (.bool false) (.int .i64 0) := ⟨_, rfl⟩
                      have HTu : Hid (Blk wr6 a 50 (buC g p 0 false 0)) := Lib.hid (by rw [hw8]; exact Rw5.far HTt.out (by omega) _ _ _ _ _)
                      have HRu : Hid (Blk wr6 (a + 1) 54 (buC g p 0 false 0)) := Lib.hid (by rw [hw8]; exact Rw5.blk_set HRt.out _ _ _ _ _)
                      have HWu : Hid (Below w.heap.size w wr6) := Lib.hid (by rw [hw8]; exact Rw5.below_set HWt.out (by omega) _ _ _ _ _)
                      dsimp only [Rw5.set] at hw8
                      rw [← hw8] at hHeld ⊢
                      clear hw8
                      try simp only [Rg.e1, Rg.e2, Rg.e3]
                      refine wpAnyH_done (by kernel_rfl) ?_ _
                      go_wp2_with fail
                      go_meet
                      exact ⟨false, 0, false, 0, rfl, rfl, by omega, HTu.out, HRu.out, HWu.out⟩
                    exact AllReadyH.nil
                  exact AllReadyH.nil
                exact AllReadyH.nil
              exact AllReadyH.nil
            refine .cons (o := _) rfl (fun K hK => ?_) ?_
            · cases Rw5.row (HR1.out.below HBR.out HR1.out.lt)
              go_simp
              refine Rg.st_same hK hHeld (fun hHeld => ?_)
              clear hK K
              try simp only [Rg.e1, Rg.e2, Rg.e3]
              refine wpAnyH_ready (rs := [1]) (by kernel_rfl) (by simp) ?_
              refine .cons (o := _) rfl (fun K hK => ?_) ?_
              · go_simp
                refine (end_at g p n on s wd).mono ?_
                rintro e wr8 ⟨rfl, hbc⟩
                have HBC := Lib.hid hbc
                clear hbc
                go_wp2_with fail
                refine Rg.st_same hK (hHeld.below HBC.out hHeld.lt) (fun hHeld => ?_)
                clear hK K
                have HBR := Lib.hid (HBR.out.trans (HBC.out.mono HBR.out.size))
                clear HBC
                try simp only [Rg.e1, Rg.e2, Rg.e3]
                refine wpAnyH_ready (rs := [3]) (by kernel_rfl) (by simp) ?_
                refine .cons (o := _) rfl (fun K hK => ?_) ?_
                · go_simp
                  refine (rend_at g p n on s wr8).mono ?_
                  rintro e wr9 ⟨rfl, hbc⟩
                  have HBC := Lib.hid hbc
                  clear hbc
                  go_wp2_with fail
                  refine Rg.st_same hK (hHeld.below HBC.out hHeld.lt) (fun hHeld => ?_)
                  clear hK K
                  have HBR := Lib.hid (HBR.out.trans (HBC.out.mono HBR.out.size))
                  clear HBC
                  try simp only [Rg.e1, Rg.e2, Rg.e3]
                  refine wpAnyH_ready (rs := [4]) (by kernel_rfl) (by simp) ?_
                  refine .cons (o := _) rfl (fun K hK => ?_) ?_
                  · cases Rw5.row (HT1.out.below HBR.out HT1.out.lt)
                    go_simp
                    refine Rg.st_same hK (Rw5.far hHeld (by omega) _ _ _ _ _) (fun hHeld => ?_)
                    clear hK K
                    obtain ⟨wr10, hw9⟩ : ∃ wr10, wr10 = Rw5.set wr9 a (.int .i64 g) (.int .i64 p) (.int .i64 0) (.bool false) (.int .i64 0) := ⟨_, rfl⟩
                    have HTt : Hid (Blk wr10 a 50 (buC g p 0 false 0)) := Lib.hid (by rw [hw9]; exact Rw5.blk_set (HT1.out.below HBR.out HT1.out.lt) _ _ _ _ _)
                    have HRt : Hid (Blk wr10 (a + 1) 54 (buC g p n on s)) := Lib.hid (by rw [hw9]; exact Rw5.far (HR1.out.below HBR.out HR1.out.lt) (by omega) _ _ _ _ _)
                    have HWt : Hid (Below w.heap.size w wr10) := Lib.hid (by rw [hw9]; exact Rw5.below_set (HW1.out.trans (HBR.out.mono HW1.out.size)) L0 _ _ _ _ _)
                    dsimp only [Rw5.set] at hw9
                    rw [← hw9] at hHeld ⊢
                    clear hw9
                    try simp only [Rg.e1, Rg.e2, Rg.e3]
                    refine wpAnyH_ready (rs := [5]) (by kernel_rfl) (by simp) ?_
                    refine .cons (o := _) rfl (fun K hK => ?_) ?_
                    · cases Rw5.row HRt.out
                      go_simp
                      refine Rg.st_same hK (Rw5.far hHeld (by omega) _ _ _ _ _) (fun hHeld => ?_)
                      clear hK K
                      obtain ⟨wr11, hw8⟩ : ∃ wr11, wr11 = Rw5.set wr10 (a + 1) (.int .i64 g) (.int .i64 p) (.int .i64 0) (.bool false) (.int .i64 0) := ⟨_, rfl⟩
                      have HTu : Hid (Blk wr11 a 50 (buC g p 0 false 0)) := Lib.hid (by rw [hw8]; exact Rw5.far HTt.out (by omega) _ _ _ _ _)
                      have HRu : Hid (Blk wr11 (a + 1) 54 (buC g p 0 false 0)) := Lib.hid (by rw [hw8]; exact Rw5.blk_set HRt.out _ _ _ _ _)
                      have HWu : Hid (Below w.heap.size w wr11) := Lib.hid (by rw [hw8]; exact Rw5.below_set HWt.out (by omega) _ _ _ _ _)
                      dsimp only [Rw5.set] at hw8
                      rw [← hw8] at hHeld ⊢
                      clear hw8
                      try simp only [Rg.e1, Rg.e2, Rg.e3]
                      refine wpAnyH_done (by kernel_rfl) ?_ _
                      go_wp2_with fail
                      go_meet
                      exact ⟨false, 0, false, 0, rfl, rfl, by omega, HTu.out, HRu.out, HWu.out⟩
                    exact AllReadyH.nil
                  exact AllReadyH.nil
                exact AllReadyH.nil
              exact AllReadyH.nil
            exact AllReadyH.nil
          refine .cons (o := _) rfl (fun K hK => ?_) ?_
          · cases Rw5.row (HR1.out.below HBR.out HR1.out.lt)
            go_simp
            refine Rg.st_same hK hHeld (fun hHeld => ?_)
            clear hK K
            try simp only [Rg.e1, Rg.e2, Rg.e3]
            refine wpAnyH_ready (rs := [0]) (by kernel_rfl) (by simp) ?_
            refine .cons (o := _) rfl (fun K hK => ?_) ?_
            · cases Rw5.row (HT1.out.below HBR.out HT1.out.lt)
              go_simp
              refine Rg.st_same hK hHeld (fun hHeld => ?_)
              clear hK K
              try simp only [Rg.e1, Rg.e2, Rg.e3]
              refine wpAnyH_ready (rs := [1]) (by kernel_rfl) (by simp) ?_
              refine .cons (o := _) rfl (fun K hK => ?_) ?_
              · go_simp
                refine (end_at g p n on s wd).mono ?_
                rintro e wr14 ⟨rfl, hbc⟩
                have HBC := Lib.hid hbc
                clear hbc
                go_wp2_with fail
                refine Rg.st_same hK (hHeld.below HBC.out hHeld.lt) (fun hHeld => ?_)
                clear hK K
                have HBR := Lib.hid (HBR.out.trans (HBC.out.mono HBR.out.size))
                clear HBC
                try simp only [Rg.e1, Rg.e2, Rg.e3]
                refine wpAnyH_ready (rs := [3]) (by kernel_rfl) (by simp) ?_
                refine .cons (o := _) rfl (fun K hK => ?_) ?_
                · go_simp
                  refine (rend_at g p n on s wr14).mono ?_
                  rintro e wr15 ⟨rfl, hbc⟩
                  have HBC := Lib.hid hbc
                  clear hbc
                  go_wp2_with fail
                  refine Rg.st_same hK (hHeld.below HBC.out hHeld.lt) (fun hHeld => ?_)
                  clear hK K
                  have HBR := Lib.hid (HBR.out.trans (HBC.out.mono HBR.out.size))
                  clear HBC
                  try simp only [Rg.e1, Rg.e2, Rg.e3]
                  refine wpAnyH_ready (rs := [4]) (by kernel_rfl) (by simp) ?_
                  refine .cons (o := _) rfl (fun K hK => ?_) ?_
                  · cases Rw5.row (HT1.out.below HBR.out HT1.out.lt)
                    go_simp
                    refine Rg.st_same hK (Rw5.far hHeld (by omega) _ _ _ _ _) (fun hHeld => ?_)
                    clear hK K
                    obtain ⟨wr16, hw9⟩ : ∃ wr16, wr16 = Rw5.set wr15 a (.int .i64 g) (.int .i64 p) (.int .i64 0) (.bool false) (.int .i64 0) := ⟨_, rfl⟩
                    have HTt : Hid (Blk wr16 a 50 (buC g p 0 false 0)) := Lib.hid (by rw [hw9]; exact Rw5.blk_set (HT1.out.below HBR.out HT1.out.lt) _ _ _ _ _)
                    have HRt : Hid (Blk wr16 (a + 1) 54 (buC g p n on s)) := Lib.hid (by rw [hw9]; exact Rw5.far (HR1.out.below HBR.out HR1.out.lt) (by omega) _ _ _ _ _)
                    have HWt : Hid (Below w.heap.size w wr16) := Lib.hid (by rw [hw9]; exact Rw5.below_set (HW1.out.trans (HBR.out.mono HW1.out.size)) L0 _ _ _ _ _)
                    dsimp only [Rw5.set] at hw9
                    rw [← hw9] at hHeld ⊢
                    clear hw9
                    try simp only [Rg.e1, Rg.e2, Rg.e3]
                    refine wpAnyH_ready (rs := [5]) (by kernel_rfl) (by simp) ?_
                    refine .cons (o := _) rfl (fun K hK => ?_) ?_
                    · cases Rw5.row HRt.out
                      go_simp
                      refine Rg.st_same hK (Rw5.far hHeld (by omega) _ _ _ _ _) (fun hHeld => ?_)
                      clear hK K
                      obtain ⟨wr17, hw8⟩ : ∃ wr17, wr17 = Rw5.set wr16 (a + 1) (.int .i64 g) (.int .i64 p) (.int .i64 0) (.bool false) (.int .i64 0) := ⟨_, rfl⟩
                      have HTu : Hid (Blk wr17 a 50 (buC g p 0 false 0)) := Lib.hid (by rw [hw8]; exact Rw5.far HTt.out (by omega) _ _ _ _ _)
                      have HRu : Hid (Blk wr17 (a + 1) 54 (buC g p 0 false 0)) := Lib.hid (by rw [hw8]; exact Rw5.blk_set HRt.out _ _ _ _ _)
                      have HWu : Hid (Below w.heap.size w wr17) := Lib.hid (by rw [hw8]; exact Rw5.below_set HWt.out (by omega) _ _ _ _ _)
                      dsimp only [Rw5.set] at hw8
                      rw [← hw8] at hHeld ⊢
                      clear hw8
                      try simp only [Rg.e1, Rg.e2, Rg.e3]
                      refine wpAnyH_done (by kernel_rfl) ?_ _
                      go_wp2_with fail
                      go_meet
                      exact ⟨false, 0, false, 0, rfl, rfl, by omega, HTu.out, HRu.out, HWu.out⟩
                    exact AllReadyH.nil
                  exact AllReadyH.nil
                exact AllReadyH.nil
              exact AllReadyH.nil
            exact AllReadyH.nil
          exact AllReadyH.nil
        have e2 : ((kd : Int) == 2) = false := by simp only [beq_eq_false_iff_ne]; omega
        clear k0 k1 k2
        go_wp2_with fail
        go_meet
        exact ⟨false, n, on, s, rfl, rfl, hs, HT1.out, HR1.out, HW1.out⟩
      case rest =>
        obtain ⟨y, n', on', s', rfl, rfl, hs', hT, hR, hW⟩ := hcut
        have HT := Lib.hid hT; have HR := Lib.hid hR; have HW := Lib.hid hW
        clear hT hR hW HT1 HR1 HW1 HC
        cases Rw5.row HT.out
        cases Rw5.row HR.out
        have f1 : (g == g) = true := beq_iff_eq.2 rfl
        have f2 : (p == p) = true := beq_iff_eq.2 rfl
        have f3 : (n' == n') = true := beq_iff_eq.2 rfl
        have f4 : (on' == on') = true := beq_iff_eq.2 rfl
        have f5 : (s' == s') = true := beq_iff_eq.2 rfl
        have f6 : (y != y) = false := by simp
        go_wp2
        go_roundw
        case rel => exact ⟨k + 1, u, n', on', s', by omega, by go_num, rfl, hu0, hu1, hs', HT.out, HR.out, HW.out⟩
        case measure => simp [intOf]; omega
    · have hek : ps.length = k := by omega
      have hd : decide ((k : Int) < (ps.length : Int)) = false := decide_eq_false (by omega)
      clear hek
      go_wp2_with fail
      refine (awake15 wr).mono ?_
      rintro e w5 ⟨rfl, hb⟩
      have HW5 := Lib.hid (HW.out.trans (hb.mono HW.out.size))
      clear hb
      go_wp2
      go_ret
      exact ⟨rfl, HW5.out⟩
end Go.Proofs.Ythhiagdncjpdcaa.Bu
