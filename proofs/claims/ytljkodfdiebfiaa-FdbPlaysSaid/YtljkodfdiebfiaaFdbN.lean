/-
  Tables: the law's Awake.
-/
import Derived.Test.YtljkodfdiebfiaaFdbM
namespace Go.Proofs.Ytljkodfdiebfiaa.Fd
open Go.RowKit Go.Proofs.Ytljkodfdiebfiaa.Mm Go.Proofs.Ytljkodfdiebfiaa.Tg

theorem aw_1 : lrnE 2 [] 1 2 0 = 0 := by decide +kernel
theorem aw_2 : lrnE 2 [⟨1, 2, 0, 0⟩] 1 2 1 = 0 := by decide +kernel
theorem aw_i1 : ins [] ⟨1, 2, 0, 0⟩ = [⟨1, 2, 0, 0⟩] := by decide +kernel
theorem aw_i2 : ins [⟨1, 2, 0, 0⟩] ⟨1, 2, 1, 1⟩ = [⟨1, 2, 1, 1⟩] := by decide +kernel
theorem aw_l : lookR [⟨1, 2, 1, 1⟩] 1 2 2 5 = (1, true) := by decide +kernel
theorem aw_v1 : Inv 2 0 [⟨1, 2, 0, 0⟩] := ⟨List.pairwise_singleton _ _, by intro x hx; simp only [List.mem_singleton] at hx; subst hx; decide, by simp, by simp⟩
theorem aw_v2 : Inv 2 1 [⟨1, 2, 1, 1⟩] := ⟨List.pairwise_singleton _ _, by intro x hx; simp only [List.mem_singleton] at hx; subst hx; decide, by simp, by simp⟩
theorem aw_learn1 {b : Nat} {w : World} (h : Mp w b []) : Calls Try.prog 7 #[tbV 2 5 (some b), .int .i64 0, .int .u16 1, .int .u64 2, .int .i64 0] w fun e w' => ∃ b', e = .returned (.tuple #[tbV 2 5 (some b'), .int .i64 0]) ∧ Mp w' b' [⟨1, 2, 0, 0⟩] ∧ Below w.heap.size w w' := by
  have := learn_good (room := 2) (age := 5) (now := 0) (p := 0) (v := 1) (a := 2) h (by simp) List.Pairwise.nil (by simp [maxLen]) (by decide) aw_1
  rwa [aw_i1] at this
theorem aw_learn2 {b : Nat} {w : World} (h : Mp w b [⟨1, 2, 0, 0⟩]) : Calls Try.prog 7 #[tbV 2 5 (some b), .int .i64 1, .int .u16 1, .int .u64 2, .int .i64 1] w fun e w' => ∃ b', e = .returned (.tuple #[tbV 2 5 (some b'), .int .i64 0]) ∧ Mp w' b' [⟨1, 2, 1, 1⟩] ∧ Below w.heap.size w w' := by
  have := learn_good (room := 2) (age := 5) (now := 1) (p := 1) (v := 1) (a := 2) h aw_v1.keys aw_v1.rising (by simp [maxLen]) (by decide) aw_2
  rwa [aw_i2] at this
theorem aw_look {b : Nat} {w : World} (h : Mp w b [⟨1, 2, 1, 1⟩]) : Calls Try.prog 9 #[tbV 2 5 (some b), .int .i64 2, .int .u16 1, .int .u64 2] w fun e w' => e = .returned (.tuple #[.int .i64 1, .bool true]) ∧ Below w.heap.size w w' :=
  look_any (room := 2) (v := 1) (a := 2) h aw_v2.keys (by decide) (aw_v2.big (by decide)) (by decide) aw_l

set_option maxRecDepth 100000 in
set_option maxHeartbeats 2000000 in
theorem awake11 (w : World) : Calls Try.prog 4 #[] w fun e w' => e = .returned (.bool true) ∧ Below w.heap.size w w' := by
  go_enter Try.func4, Try.ntmps4
  go_wp2_with fail
  refine (new_ok 2 5 w (by decide) (by decide)).mono ?_
  rintro e w1 ⟨b1, rfl, hm, hb⟩
  go_upto_region 2 with (fail)
  have HT := Lib.hid (Blk.fresh w1 26 (tbC 2 5 (some b1)))
  have HM := Lib.hid (hm.alloc (.cells (tbC 2 5 (some b1)) 26))
  have HB := Lib.hid (hb.alloc hb.size (.cells (tbC 2 5 (some b1)) 26))
  obtain ⟨g, hg⟩ : ∃ g, g = w1.heap.size := ⟨_, rfl⟩
  have L0 : w.heap.size ≤ g := by rw [hg]; exact hb.size
  have L1 : b1 < g := by rw [hg]; exact hm.lt
  rw [← hg] at HT ⊢
  clear hm hb hg
  generalize w1.alloc (.cells (tbC 2 5 (some b1)) 26) = w2 at HT HM HB ⊢

  cases Rw3.row HT.out
  go_wp2_with fail
  refine (aw_learn1 HM.out).mono ?_
  rintro e v3 ⟨c3, rfl, hm, hb⟩
  have HTx := Lib.hid (HT.out.below hb HT.out.lt)
  have HMx := Lib.hid hm
  have HBx := Lib.hid (HB.out.trans (hb.mono HB.out.size))
  have hl := HT.out.lt
  cases Rw3.row HTx.out
  go_upto_region 3 with (fail)
  obtain ⟨x3, hx⟩ : ∃ x3, x3 = Rw3.set v3 g (.int .i64 2) (.int .i64 5) (.map (some c3)) := ⟨_, rfl⟩
  have HT3 : Hid (Blk x3 g 26 (tbC 2 5 (some c3))) := Lib.hid (by rw [hx]; exact Rw3.blk_set HTx.out _ _ _)
  have HB3 : Hid (Below w.heap.size w x3) := Lib.hid (by rw [hx]; exact Rw3.below_set HBx.out L0 _ _ _)
  have HM3 : Hid (Mp x3 c3 [⟨1, 2, 0, 0⟩]) := Lib.hid (by rw [hx]; exact HMx.out.far (HMx.out.ne HTx.out) _ _ _)
  dsimp only [Rw3.set] at hx
  rw [← hx]
  clear hm hb hx HTx HMx HBx hl

  cases Rw3.row HT3.out
  go_wp2_with fail
  refine (aw_learn2 HM3.out).mono ?_
  rintro e v4 ⟨c4, rfl, hm, hb⟩
  have HTx := Lib.hid (HT3.out.below hb HT3.out.lt)
  have HMx := Lib.hid hm
  have HBx := Lib.hid (HB3.out.trans (hb.mono HB3.out.size))
  have hl := HT3.out.lt
  cases Rw3.row HTx.out
  go_upto_region 4 with (fail)
  obtain ⟨x4, hx⟩ : ∃ x4, x4 = Rw3.set v4 g (.int .i64 2) (.int .i64 5) (.map (some c4)) := ⟨_, rfl⟩
  have HT4 : Hid (Blk x4 g 26 (tbC 2 5 (some c4))) := Lib.hid (by rw [hx]; exact Rw3.blk_set HTx.out _ _ _)
  have HB4 : Hid (Below w.heap.size w x4) := Lib.hid (by rw [hx]; exact Rw3.below_set HBx.out L0 _ _ _)
  have HM4 : Hid (Mp x4 c4 [⟨1, 2, 1, 1⟩]) := Lib.hid (by rw [hx]; exact HMx.out.far (HMx.out.ne HTx.out) _ _ _)
  dsimp only [Rw3.set] at hx
  rw [← hx]
  clear hm hb hx HTx HMx HBx hl

  cases Rw3.row HT4.out
  go_wp2_with fail
  refine (aw_look HM4.out).mono ?_
  rintro e w5 ⟨rfl, hb⟩
  have HT5 := Lib.hid (HT4.out.below hb HT4.out.lt)
  have HM5 := Lib.hid (HM4.out.on hb)
  have HB5 := Lib.hid (HB4.out.trans (hb.mono HB4.out.size))
  clear hb
  go_wp2_with fail
  refine (Mc.awake2 w5).mono ?_
  rintro e w6 ⟨rfl, hb⟩
  have HT6 := Lib.hid (HT5.out.below hb HT5.out.lt)
  have HM6 := Lib.hid (HM5.out.on hb)
  have HB6 := Lib.hid (HB5.out.trans (hb.mono HB5.out.size))
  clear hb
  cases Rw3.row HT6.out
  go_wp2_with fail
  refine (rows_at aw_v2 (by decide) HM6.out).mono ?_
  rintro e w7 ⟨A, c, rfl, hb⟩
  have HB7 := Lib.hid (HB6.out.trans (hb.mono HB6.out.size))
  clear hb
  go_wp2
  go_ret
  exact ⟨rfl, HB7.out⟩
end Go.Proofs.Ytljkodfdiebfiaa.Fd
