/-
  Relay: the law's example.
-/
import Derived.Test.YteaghbdeleaanaaRlB
import Derived.Test.YteaghbdeleaanaaFdE
namespace Go.Proofs.Yteaghbdeleaanaa.Rl
open Go.RowKit Go.Proofs.Yteaghbdeleaanaa.Mm Go.Proofs.Yteaghbdeleaanaa.Fl Go.Proofs.Yteaghbdeleaanaa.Tg Go.Proofs.Yteaghbdeleaanaa.Fp Go.Proofs.Yteaghbdeleaanaa.Fd
set_option linter.unusedVariables false
set_option linter.unusedSimpArgs false

theorem wk_r : refE false false 0 = 0 := by decide +kernel
theorem wk_l : learnR 2 [] 1 4 0 0 = [⟨1, 4, 0, 0⟩] := by decide +kernel
theorem wk_k : lookR [⟨1, 4, 0, 0⟩] 1 2 0 5 = (-1, false) := by decide +kernel
theorem wk_g : Mc.groupB 2 = false := by decide +kernel
theorem wk_o : goesR false false 0 false false (-1) = ([1, 2], true) := by decide +kernel
theorem wk_go {b : Nat} {w : World} (h : Mp w b []) : Calls Try.prog 6 #[tbV 2 5 (some b), shV false false, .int .i64 0, .int .i64 0, .agg #[.int .u64 2, .int .u64 4, .int .u8 0, .bool false, .int .u16 1, .int .u16 2048, .string ⟨#[]⟩]] w fun e w' => ∃ b' A c, e = .returned (.tuple #[tbV 2 5 (some b'), .slice A 2 c, .bool true, .int .i64 0]) ∧ Rd w' w'.heap.size A (ints [1, 2]) ∧ Below w.heap.size w w' := by
  refine (go_good (room := 2) (age := 5) (now := 0) (i := 0) (d := 2) (s := 4) (p := 0) (v := 1) (t := 2048) (dr := false) (bd := ⟨#[]⟩) wk_r h (by simp) List.Pairwise.nil (by simp) (by decide) wk_l ?_ ?_ (by decide) (by decide) wk_k wk_g wk_o).mono ?_
  · intro x hx; simp only [List.mem_singleton] at hx; subst hx; decide
  · intro x hx; simp only [List.mem_singleton] at hx; subst hx; decide
  · rintro e w' ⟨b', A, c, he, _, hr, hb⟩
    exact ⟨b', A, c, he, hr, hb⟩

set_option maxRecDepth 100000 in
set_option maxHeartbeats 2000000 in
theorem awake19 (w : World) : Calls Try.prog 5 #[] w fun e w' => e = .returned (.bool true) ∧ Below w.heap.size w w' := by
  go_enter Try.func5, Try.ntmps5
  go_wp2_with fail
  refine (new_ok 2 5 w (by decide) (by decide)).mono ?_
  rintro e w1 ⟨b1, rfl, hm, hb⟩
  go_upto_region 2 with (fail)
  have HT := Lib.hid (Blk.fresh w1 32 (tbC 2 5 (some b1)))
  have HM := Lib.hid (hm.alloc (.cells (tbC 2 5 (some b1)) 32))
  have HB := Lib.hid (hb.alloc hb.size (.cells (tbC 2 5 (some b1)) 32))
  obtain ⟨g, hg⟩ : ∃ g, g = w1.heap.size := ⟨_, rfl⟩
  rw [← hg] at HT ⊢
  clear hm hb hg
  generalize w1.alloc (.cells (tbC 2 5 (some b1)) 32) = w2 at HT HM HB ⊢
  cases Rw3.row HT.out
  go_wp2_with fail
  refine (wk_go HM.out).mono ?_
  rintro e w3 ⟨b3, A, c, rfl, hr, hb⟩
  have HR3 := Lib.hid hr
  have HB3 := Lib.hid (HB.out.trans (hb.mono HB.out.size))
  clear hr hb
  go_upto_region 3 with (fail)
  have HR4 := Lib.hid ((HR3.out.below ((Below.refl w3.heap.size w3).alloc (Nat.le_refl _) (.cells (tbC 2 5 (some b3)) 32))).more (show w3.heap.size ≤ (w3.alloc (.cells (tbC 2 5 (some b3)) 32)).heap.size by simp))
  have HB4 := Lib.hid (HB3.out.alloc HB3.out.size (.cells (tbC 2 5 (some b3)) 32))
  generalize w3.alloc (.cells (tbC 2 5 (some b3)) 32) = w4 at HR4 HB4 ⊢
  go_wp2_with fail
  refine (Tg.awake3 w4).mono ?_
  rintro e w5 ⟨rfl, hb⟩
  have HR5 := Lib.hid ((HR4.out.below hb).more hb.size)
  have HB5 := Lib.hid (HB4.out.trans (hb.mono HB4.out.size))
  clear hb
  go_wp2_with fail
  refine (Fd.awake11 w5).mono ?_
  rintro e w6 ⟨rfl, hb⟩
  have HR6 := Lib.hid ((HR5.out.below hb).more hb.size)
  have HB6 := Lib.hid (HB5.out.trans (hb.mono HB5.out.size))
  clear hb
  go_wp2_with fail
  refine (Fp.awake18 w6).mono ?_
  rintro e w7 ⟨rfl, hb⟩
  have HR7 := Lib.hid ((HR6.out.below hb).more hb.size)
  have HB7 := Lib.hid (HB6.out.trans (hb.mono HB6.out.size))
  clear hb
  go_wp2_with fail
  have hbw := (Below.refl w7.heap.size w7).alloc (Nat.le_refl _) (.cells #[.int .i64 1, .int .i64 2] 3)
  have HBK := Lib.hid (Blk.fresh w7 3 #[.int .i64 1, .int .i64 2])
  have HRB := Lib.hid (show Rd (w7.alloc (.cells #[.int .i64 1, .int .i64 2] 3)) (w7.alloc (.cells #[.int .i64 1, .int .i64 2] 3)).heap.size (some ⟨w7.heap.size, 0, none⟩) (ints [1, 2]) from fun _ => ⟨_, rfl, HBK.out.lt, fun j u hu => by rw [add_zero_block, HBK.out.cell, ← hu]; simp [ints]⟩)
  refine (ints_t ((HR7.out.below hbw).more hbw.size) HRB.out (show 2 = ([1, 2] : List Int).length from rfl) (by decide)).mono ?_
  rintro e w8 ⟨rfl, hb⟩
  have HB8 := Lib.hid ((HB7.out.trans (hbw.mono HB7.out.size)).trans (hb.mono (Nat.le_trans HB7.out.size hbw.size)))
  clear hb hbw
  go_wp2
  go_ret
  exact ⟨rfl, HB8.out⟩
end Go.Proofs.Yteaghbdeleaanaa.Rl
