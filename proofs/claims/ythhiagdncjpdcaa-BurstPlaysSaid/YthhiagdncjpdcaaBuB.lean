/-
  Burst: a tick of both sides at once; the example.
-/
import Derived.Test.YthhiagdncjpdcaaBuA
namespace Go.Proofs.Ythhiagdncjpdcaa.Bu
open Go.RowKit Go.Proofs.Ythhiagdncjpdcaa.Mm Go.Proofs.Ythhiagdncjpdcaa.Tg

theorem tick_both (g p n : Int) (on : Bool) (s now : Int) (hg : okT g) (hp : okT p) (hs : 0 ≤ s ∧ s ≤ 3) (hn : 0 ≤ now ∧ now ≤ 2199023255552) :
    ∃ (n' s' : Int) (y : Bool), (0 ≤ s' ∧ s' ≤ 3) ∧ (∀ w, Calls Try.prog 14 #[buV g p n on s, .int .i64 now] w fun x w' => x = .returned (.tuple #[buV g p n' on s', .bool y]) ∧ Below w.heap.size w w')
      ∧ (∀ w, Calls Try.prog 15 #[buV g p n on s, .int .i64 now] w fun x w' => x = .returned (.tuple #[buV g p n' on s', .bool y]) ∧ Below w.heap.size w w') := by
  by_cases h : on = true ∧ n ≤ now
  · refine ⟨if s < 2 then now + g else now + p, if s < 3 then s + 1 else 3, true, ?_, fun w => tick_any g p n on s now w hg hp hs hn ?_, fun w => rtick_any g p n on s now w hg hp hs hn ?_⟩
    · split <;> omega
    · rw [if_pos h]; exact ⟨rfl, rfl, rfl⟩
    · rw [if_pos h]; exact ⟨rfl, rfl, rfl⟩
  · refine ⟨n, s, false, hs, fun w => tick_any g p n on s now w hg hp hs hn ?_, fun w => rtick_any g p n on s now w hg hp hs hn ?_⟩
    · rw [if_neg h]; exact ⟨rfl, rfl, rfl⟩
    · rw [if_neg h]; exact ⟨rfl, rfl, rfl⟩

set_option maxRecDepth 100000 in
set_option maxHeartbeats 2000000 in
theorem awake15 (w : World) : Calls Try.prog 12 #[] w fun e w' => e = .returned (.bool true) ∧ Below w.heap.size w w' := by
  have HN := Lib.hid (fun w1 => new_ok 2 5 w1 (by unfold okT; omega) (by unfold okT; omega))
  have HG := Lib.hid (fun w1 => begin_at 2 5 0 false 0 10 w1)
  have HT1 := Lib.hid (fun w1 => tick_any (n' := 12) (s' := 1) (y := true) 2 5 10 true 0 10 w1 (by unfold okT; omega) (by unfold okT; omega) (by omega) (by omega) (by decide))
  have HT2 := Lib.hid (fun w1 => tick_any (n' := 12) (s' := 1) (y := false) 2 5 12 true 1 11 w1 (by unfold okT; omega) (by unfold okT; omega) (by omega) (by omega) (by decide))
  have HT3 := Lib.hid (fun w1 => tick_any (n' := 14) (s' := 2) (y := true) 2 5 12 true 1 12 w1 (by unfold okT; omega) (by unfold okT; omega) (by omega) (by omega) (by decide))
  go_enter Try.func12, Try.ntmps12
  go_wp2_with fail
  refine (HN.out w).mono ?_
  rintro x w1 ⟨rfl, hb⟩
  go_upto_region 2 with (fail)
  obtain ⟨w2, hw2, b2, l2⟩ : ∃ w2 : World, w2 = w1.alloc (.cells (buC 2 5 0 false 0) 50) ∧ Blk w2 w1.heap.size 50 (buC 2 5 0 false 0) ∧ Below w.heap.size w w2 := ⟨_, rfl, Blk.fresh _ _ _, hb.alloc hb.size _⟩
  rw [← hw2]
  have hwa : w.heap.size ≤ w1.heap.size := hb.size
  generalize w1.heap.size = a at b2 hwa ⊢
  have HA := Lib.hid b2
  have HB := Lib.hid l2
  clear hw2 b2 l2 hb
  cases Rw5.row HA.out
  go_wp2_with fail
  refine (HG.out w2).mono ?_
  rintro x w3 ⟨rfl, hb⟩
  have HA3 := Lib.hid (HA.out.below hb HA.out.lt)
  have HB3 := Lib.hid (HB.out.trans (hb.mono HB.out.size))
  clear hb HA HB
  cases Rw5.row HA3.out
  go_upto_region 3 with (fail)
  obtain ⟨w4, hw, b, l⟩ : ∃ w4 : World, w4 = Rw5.set w3 a (.int .i64 2) (.int .i64 5) (.int .i64 10) (.bool true) (.int .i64 0) ∧ Blk w4 a 50 (buC 2 5 10 true 0) ∧ Below w.heap.size w w4 := ⟨_, rfl, Rw5.blk_set HA3.out _ _ _ _ _, Rw5.below_set HB3.out hwa _ _ _ _ _⟩
  dsimp only [Rw5.set] at hw
  rw [← hw]
  have HA := Lib.hid b
  have HB := Lib.hid l
  clear hw b l HA3 HB3
  cases Rw5.row HA.out
  go_wp2_with fail
  refine (HT1.out w4).mono ?_
  rintro x w5 ⟨rfl, hb⟩
  have HA3 := Lib.hid (HA.out.below hb HA.out.lt)
  have HB3 := Lib.hid (HB.out.trans (hb.mono HB.out.size))
  clear hb HA HB
  cases Rw5.row HA3.out
  go_upto_region 4 with (fail)
  obtain ⟨w6, hw, b, l⟩ : ∃ w6 : World, w6 = Rw5.set w5 a (.int .i64 2) (.int .i64 5) (.int .i64 12) (.bool true) (.int .i64 1) ∧ Blk w6 a 50 (buC 2 5 12 true 1) ∧ Below w.heap.size w w6 := ⟨_, rfl, Rw5.blk_set HA3.out _ _ _ _ _, Rw5.below_set HB3.out hwa _ _ _ _ _⟩
  dsimp only [Rw5.set] at hw
  rw [← hw]
  have HA := Lib.hid b
  have HB := Lib.hid l
  clear hw b l HA3 HB3
  cases Rw5.row HA.out
  go_wp2_with fail
  refine (HT2.out w6).mono ?_
  rintro x w7 ⟨rfl, hb⟩
  have HA3 := Lib.hid (HA.out.below hb HA.out.lt)
  have HB3 := Lib.hid (HB.out.trans (hb.mono HB.out.size))
  clear hb HA HB
  cases Rw5.row HA3.out
  go_upto_region 5 with (fail)
  obtain ⟨w8, hw, b, l⟩ : ∃ w8 : World, w8 = Rw5.set w7 a (.int .i64 2) (.int .i64 5) (.int .i64 12) (.bool true) (.int .i64 1) ∧ Blk w8 a 50 (buC 2 5 12 true 1) ∧ Below w.heap.size w w8 := ⟨_, rfl, Rw5.blk_set HA3.out _ _ _ _ _, Rw5.below_set HB3.out hwa _ _ _ _ _⟩
  dsimp only [Rw5.set] at hw
  rw [← hw]
  have HA := Lib.hid b
  have HB := Lib.hid l
  clear hw b l HA3 HB3
  cases Rw5.row HA.out
  go_wp2_with fail
  refine (HT3.out w8).mono ?_
  rintro x w9 ⟨rfl, hb⟩
  have HA3 := Lib.hid (HA.out.below hb HA.out.lt)
  have HB3 := Lib.hid (HB.out.trans (hb.mono HB.out.size))
  clear hb HA HB
  go_wp2
  go_ret
  exact ⟨rfl, HB3.out.alloc HB3.out.size _⟩
end Go.Proofs.Ythhiagdncjpdcaa.Bu
