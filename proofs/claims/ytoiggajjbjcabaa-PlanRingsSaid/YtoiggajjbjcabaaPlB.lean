/-
  Plan: what is wrong with a plan, the program's answer, way by way.
-/
import Derived.Test.YtoiggajjbjcabaaPlA
namespace Go.Proofs.Ytoiggajjbjcabaa.Pn
open Go.RowKit Go.Proofs.Ytoiggajjbjcabaa.Mm Go.Proofs.Ytoiggajjbjcabaa.Tg
set_option linter.unusedVariables false

set_option maxRecDepth 100000 in
set_option maxHeartbeats 2000000 in
theorem check_a1 (p : Pl) (w : World) (a1 : decide (p.no < 3) = true) :
    Calls Try.prog 7 #[plV p] w fun x w' => x = .returned (.int .i64 4) ∧ Below w.heap.size w w' := by
  have HA := Lib.hid (Blk.fresh w 24 (plC p))
  have HB := Lib.hid ((Below.refl w.heap.size w).alloc (Nat.le_refl _) (.cells (plC p) 24))
  go_enter Try.func7, Try.ntmps7
  go_upto_region 1 with (fail)
  generalize w.alloc (.cells (plC p) 24) = w0 at HA HB ⊢
  cases cs HA.out
  go_wp2
  go_ret
  exact ⟨rfl, HB.out⟩
set_option maxRecDepth 100000 in
set_option maxHeartbeats 2000000 in
theorem check_a2 (p : Pl) (w : World) (a1 : decide (p.no < 3) = false) (a2 : decide (16 < p.no) = true) :
    Calls Try.prog 7 #[plV p] w fun x w' => x = .returned (.int .i64 4) ∧ Below w.heap.size w w' := by
  have HA := Lib.hid (Blk.fresh w 24 (plC p))
  have HB := Lib.hid ((Below.refl w.heap.size w).alloc (Nat.le_refl _) (.cells (plC p) 24))
  go_enter Try.func7, Try.ntmps7
  go_upto_region 1 with (fail)
  generalize w.alloc (.cells (plC p) 24) = w0 at HA HB ⊢
  cases cs HA.out
  go_wp2
  go_ret
  exact ⟨rfl, HB.out⟩
set_option maxRecDepth 100000 in
set_option maxHeartbeats 2000000 in
theorem check_b1 (p : Pl) (w : World) (a1 : decide (p.no < 3) = false) (a2 : decide (16 < p.no) = false) (b1 : decide (p.ow < 0) = true) :
    Calls Try.prog 7 #[plV p] w fun x w' => x = .returned (.int .i64 4) ∧ Below w.heap.size w w' := by
  have HA := Lib.hid (Blk.fresh w 24 (plC p))
  have HB := Lib.hid ((Below.refl w.heap.size w).alloc (Nat.le_refl _) (.cells (plC p) 24))
  go_enter Try.func7, Try.ntmps7
  go_upto_region 1 with (fail)
  generalize w.alloc (.cells (plC p) 24) = w0 at HA HB ⊢
  cases cs HA.out
  go_wp2
  go_ret
  exact ⟨rfl, HB.out⟩
set_option maxRecDepth 100000 in
set_option maxHeartbeats 2000000 in
theorem check_b2 (p : Pl) (w : World) (a1 : decide (p.no < 3) = false) (a2 : decide (16 < p.no) = false) (b1 : decide (p.ow < 0) = false) (b2 : decide (p.no ≤ p.ow) = true) :
    Calls Try.prog 7 #[plV p] w fun x w' => x = .returned (.int .i64 4) ∧ Below w.heap.size w w' := by
  have HA := Lib.hid (Blk.fresh w 24 (plC p))
  have HB := Lib.hid ((Below.refl w.heap.size w).alloc (Nat.le_refl _) (.cells (plC p) 24))
  go_enter Try.func7, Try.ntmps7
  go_upto_region 1 with (fail)
  generalize w.alloc (.cells (plC p) 24) = w0 at HA HB ⊢
  cases cs HA.out
  go_wp2
  go_ret
  exact ⟨rfl, HB.out⟩
set_option maxRecDepth 100000 in
set_option maxHeartbeats 2000000 in
theorem check_l1 (p : Pl) (w : World) (a1 : decide (p.no < 3) = false) (a2 : decide (16 < p.no) = false) (b1 : decide (p.ow < 0) = false) (b2 : decide (p.no ≤ p.ow) = false) (l1 : decide (7 < (p.lv : Int)) = true) :
    Calls Try.prog 7 #[plV p] w fun x w' => x = .returned (.int .i64 4) ∧ Below w.heap.size w w' := by
  have HA := Lib.hid (Blk.fresh w 24 (plC p))
  have HB := Lib.hid ((Below.refl w.heap.size w).alloc (Nat.le_refl _) (.cells (plC p) 24))
  go_enter Try.func7, Try.ntmps7
  go_upto_region 1 with (fail)
  generalize w.alloc (.cells (plC p) 24) = w0 at HA HB ⊢
  cases cs HA.out
  go_wp2
  go_ret
  exact ⟨rfl, HB.out⟩
set_option maxRecDepth 100000 in
set_option maxHeartbeats 2000000 in
theorem check_d1 (p : Pl) (w : World) (a1 : decide (p.no < 3) = false) (a2 : decide (16 < p.no) = false) (b1 : decide (p.ow < 0) = false) (b2 : decide (p.no ≤ p.ow) = false) (l1 : decide (7 < (p.lv : Int)) = false) (d1 : ¬ vl p.da) :
    Calls Try.prog 7 #[plV p] w fun x w' => x = .returned (.int .i64 5) ∧ Below w.heap.size w w' := by
  have D1 := Lib.hid d1
  clear d1
  have HA := Lib.hid (Blk.fresh w 24 (plC p))
  have HB := Lib.hid ((Below.refl w.heap.size w).alloc (Nat.le_refl _) (.cells (plC p) 24))
  go_enter Try.func7, Try.ntmps7
  go_upto_region 1 with (fail)
  generalize w.alloc (.cells (plC p) 24) = w0 at HA HB ⊢
  cases cs HA.out
  go_wp2_with fail
  refine (vlan_no p.da w0 D1.out).mono ?_
  rintro x wv5 ⟨rfl, rfl⟩
  go_wp2
  go_ret
  exact ⟨rfl, HB.out⟩
set_option maxRecDepth 100000 in
set_option maxHeartbeats 2000000 in
theorem check_d2 (p : Pl) (w : World) (a1 : decide (p.no < 3) = false) (a2 : decide (16 < p.no) = false) (b1 : decide (p.ow < 0) = false) (b2 : decide (p.no ≤ p.ow) = false) (l1 : decide (7 < (p.lv : Int)) = false) (d1 : vl p.da) (d2 : ¬ vl p.ri) :
    Calls Try.prog 7 #[plV p] w fun x w' => x = .returned (.int .i64 5) ∧ Below w.heap.size w w' := by
  have D1 := Lib.hid d1
  clear d1
  have D2 := Lib.hid d2
  clear d2
  have HA := Lib.hid (Blk.fresh w 24 (plC p))
  have HB := Lib.hid ((Below.refl w.heap.size w).alloc (Nat.le_refl _) (.cells (plC p) 24))
  go_enter Try.func7, Try.ntmps7
  go_upto_region 1 with (fail)
  generalize w.alloc (.cells (plC p) 24) = w0 at HA HB ⊢
  cases cs HA.out
  go_wp2_with fail
  refine (vlan_yes p.da w0 D1.out).mono ?_
  rintro x wv5 ⟨rfl, rfl⟩
  go_wp2_with fail
  refine (vlan_no p.ri w0 D2.out).mono ?_
  rintro x wv6 ⟨rfl, rfl⟩
  go_wp2
  go_ret
  exact ⟨rfl, HB.out⟩
set_option maxRecDepth 100000 in
set_option maxHeartbeats 2000000 in
theorem check_e1 (p : Pl) (w : World) (a1 : decide (p.no < 3) = false) (a2 : decide (16 < p.no) = false) (b1 : decide (p.ow < 0) = false) (b2 : decide (p.no ≤ p.ow) = false) (l1 : decide (7 < (p.lv : Int)) = false) (d1 : vl p.da) (d2 : vl p.ri) (e1 : ((p.da : Int) == (p.ri : Int)) = true) :
    Calls Try.prog 7 #[plV p] w fun x w' => x = .returned (.int .i64 5) ∧ Below w.heap.size w w' := by
  have D1 := Lib.hid d1
  clear d1
  have D2 := Lib.hid d2
  clear d2
  have HA := Lib.hid (Blk.fresh w 24 (plC p))
  have HB := Lib.hid ((Below.refl w.heap.size w).alloc (Nat.le_refl _) (.cells (plC p) 24))
  go_enter Try.func7, Try.ntmps7
  go_upto_region 1 with (fail)
  generalize w.alloc (.cells (plC p) 24) = w0 at HA HB ⊢
  cases cs HA.out
  go_wp2_with fail
  refine (vlan_yes p.da w0 D1.out).mono ?_
  rintro x wv5 ⟨rfl, rfl⟩
  go_wp2_with fail
  refine (vlan_yes p.ri w0 D2.out).mono ?_
  rintro x wv6 ⟨rfl, rfl⟩
  go_wp2
  go_ret
  exact ⟨rfl, HB.out⟩
set_option maxRecDepth 100000 in
set_option maxHeartbeats 2000000 in
theorem check_t1 (p : Pl) (w : World) (a1 : decide (p.no < 3) = false) (a2 : decide (16 < p.no) = false) (b1 : decide (p.ow < 0) = false) (b2 : decide (p.no ≤ p.ow) = false) (l1 : decide (7 < (p.lv : Int)) = false) (d1 : vl p.da) (d2 : vl p.ri) (e1 : ((p.da : Int) == (p.ri : Int)) = false) (t1 : allT 1 (tks p) = false) :
    Calls Try.prog 7 #[plV p] w fun x w' => x = .returned (.int .i64 4) ∧ Below w.heap.size w w' := by
  have D1 := Lib.hid d1
  clear d1
  have D2 := Lib.hid d2
  clear d2
  have T1 := Lib.hid t1
  clear t1
  have HA := Lib.hid (Blk.fresh w 24 (plC p))
  have HB := Lib.hid ((Below.refl w.heap.size w).alloc (Nat.le_refl _) (.cells (plC p) 24))
  go_enter Try.func7, Try.ntmps7
  go_upto_region 1 with (fail)
  generalize w.alloc (.cells (plC p) 24) = w0 at HA HB ⊢
  cases cs HA.out
  go_wp2_with fail
  refine (vlan_yes p.da w0 D1.out).mono ?_
  rintro x wv5 ⟨rfl, rfl⟩
  go_wp2_with fail
  refine (vlan_yes p.ri w0 D2.out).mono ?_
  rintro x wv6 ⟨rfl, rfl⟩
  go_wp2_with fail
  have HC8 := Lib.hid (Blk.fresh w0 2 #[.int .i64 p.iv, .int .i64 p.gu, .int .i64 p.re, .int .i64 p.wa, .int .i64 p.ga, .int .i64 p.pe, .int .i64 p.ag])
  have HA8 := Lib.hid (HA.out.alloc (.cells #[.int .i64 p.iv, .int .i64 p.gu, .int .i64 p.re, .int .i64 p.wa, .int .i64 p.ga, .int .i64 p.pe, .int .i64 p.ag] 2))
  have HB8 := Lib.hid (HB.out.alloc HB.out.size (.cells #[.int .i64 p.iv, .int .i64 p.gu, .int .i64 p.re, .int .i64 p.wa, .int .i64 p.ga, .int .i64 p.pe, .int .i64 p.ag] 2))
  generalize hw8 : w0.alloc (.cells #[.int .i64 p.iv, .int .i64 p.gu, .int .i64 p.re, .int .i64 p.wa, .int .i64 p.ga, .int .i64 p.pe, .int .i64 p.ag] 2) = w8 at HC8 HA8 HB8 ⊢
  clear hw8
  refine (ticks_blk (tks p) 7 7 w0.heap.size _ #[.int .i64 p.iv, .int .i64 p.gu, .int .i64 p.re, .int .i64 p.wa, .int .i64 p.ga, .int .i64 p.pe, .int .i64 p.ag] w8 HC8.out rfl rfl (Nat.le_of_ble_eq_true rfl) T1.out).mono ?_
  rintro x wt8 ⟨rfl, rfl⟩
  cases cs HA8.out
  go_wp2
  go_ret
  exact ⟨rfl, HB8.out⟩
set_option maxRecDepth 100000 in
set_option maxHeartbeats 2000000 in
theorem check_t2 (p : Pl) (w : World) (a1 : decide (p.no < 3) = false) (a2 : decide (16 < p.no) = false) (b1 : decide (p.ow < 0) = false) (b2 : decide (p.no ≤ p.ow) = false) (l1 : decide (7 < (p.lv : Int)) = false) (d1 : vl p.da) (d2 : vl p.ri) (e1 : ((p.da : Int) == (p.ri : Int)) = false) (t1 : allT 1 (tks p) = true) (t2 : allT 0 [p.ho] = false) :
    Calls Try.prog 7 #[plV p] w fun x w' => x = .returned (.int .i64 4) ∧ Below w.heap.size w w' := by
  have D1 := Lib.hid d1
  clear d1
  have D2 := Lib.hid d2
  clear d2
  have T1 := Lib.hid t1
  clear t1
  have T2 := Lib.hid t2
  clear t2
  have HA := Lib.hid (Blk.fresh w 24 (plC p))
  have HB := Lib.hid ((Below.refl w.heap.size w).alloc (Nat.le_refl _) (.cells (plC p) 24))
  go_enter Try.func7, Try.ntmps7
  go_upto_region 1 with (fail)
  generalize w.alloc (.cells (plC p) 24) = w0 at HA HB ⊢
  cases cs HA.out
  go_wp2_with fail
  refine (vlan_yes p.da w0 D1.out).mono ?_
  rintro x wv5 ⟨rfl, rfl⟩
  go_wp2_with fail
  refine (vlan_yes p.ri w0 D2.out).mono ?_
  rintro x wv6 ⟨rfl, rfl⟩
  go_wp2_with fail
  have HC8 := Lib.hid (Blk.fresh w0 2 #[.int .i64 p.iv, .int .i64 p.gu, .int .i64 p.re, .int .i64 p.wa, .int .i64 p.ga, .int .i64 p.pe, .int .i64 p.ag])
  have HA8 := Lib.hid (HA.out.alloc (.cells #[.int .i64 p.iv, .int .i64 p.gu, .int .i64 p.re, .int .i64 p.wa, .int .i64 p.ga, .int .i64 p.pe, .int .i64 p.ag] 2))
  have HB8 := Lib.hid (HB.out.alloc HB.out.size (.cells #[.int .i64 p.iv, .int .i64 p.gu, .int .i64 p.re, .int .i64 p.wa, .int .i64 p.ga, .int .i64 p.pe, .int .i64 p.ag] 2))
  generalize hw8 : w0.alloc (.cells #[.int .i64 p.iv, .int .i64 p.gu, .int .i64 p.re, .int .i64 p.wa, .int .i64 p.ga, .int .i64 p.pe, .int .i64 p.ag] 2) = w8 at HC8 HA8 HB8 ⊢
  clear hw8
  refine (ticks_blk (tks p) 7 7 w0.heap.size _ #[.int .i64 p.iv, .int .i64 p.gu, .int .i64 p.re, .int .i64 p.wa, .int .i64 p.ga, .int .i64 p.pe, .int .i64 p.ag] w8 HC8.out rfl rfl (Nat.le_of_ble_eq_true rfl) T1.out).mono ?_
  rintro x wt8 ⟨rfl, rfl⟩
  cases cs HA8.out
  go_wp2_with fail
  have HC9 := Lib.hid (Blk.fresh w8 2 #[.int .i64 p.ho])
  have HA9 := Lib.hid (HA8.out.alloc (.cells #[.int .i64 p.ho] 2))
  have HB9 := Lib.hid (HB8.out.alloc HB8.out.size (.cells #[.int .i64 p.ho] 2))
  generalize hw9 : w8.alloc (.cells #[.int .i64 p.ho] 2) = w9 at HC9 HA9 HB9 ⊢
  clear hw9
  refine (ticks_blk [p.ho] 1 1 w8.heap.size _ #[.int .i64 p.ho] w9 HC9.out rfl rfl (Nat.le_of_ble_eq_true rfl) T2.out).mono ?_
  rintro x wt9 ⟨rfl, rfl⟩
  cases cs HA9.out
  go_wp2
  go_ret
  exact ⟨rfl, HB9.out⟩
set_option maxRecDepth 100000 in
set_option maxHeartbeats 2000000 in
theorem check_q1 (p : Pl) (w : World) (a1 : decide (p.no < 3) = false) (a2 : decide (16 < p.no) = false) (b1 : decide (p.ow < 0) = false) (b2 : decide (p.no ≤ p.ow) = false) (l1 : decide (7 < (p.lv : Int)) = false) (d1 : vl p.da) (d2 : vl p.ri) (e1 : ((p.da : Int) == (p.ri : Int)) = false) (t1 : allT 1 (tks p) = true) (t2 : allT 0 [p.ho] = true) (q1 : decide (p.ro < 1) = true) :
    Calls Try.prog 7 #[plV p] w fun x w' => x = .returned (.int .i64 4) ∧ Below w.heap.size w w' := by
  have D1 := Lib.hid d1
  clear d1
  have D2 := Lib.hid d2
  clear d2
  have T1 := Lib.hid t1
  clear t1
  have T2 := Lib.hid t2
  clear t2
  have HA := Lib.hid (Blk.fresh w 24 (plC p))
  have HB := Lib.hid ((Below.refl w.heap.size w).alloc (Nat.le_refl _) (.cells (plC p) 24))
  go_enter Try.func7, Try.ntmps7
  go_upto_region 1 with (fail)
  generalize w.alloc (.cells (plC p) 24) = w0 at HA HB ⊢
  cases cs HA.out
  go_wp2_with fail
  refine (vlan_yes p.da w0 D1.out).mono ?_
  rintro x wv5 ⟨rfl, rfl⟩
  go_wp2_with fail
  refine (vlan_yes p.ri w0 D2.out).mono ?_
  rintro x wv6 ⟨rfl, rfl⟩
  go_wp2_with fail
  have HC8 := Lib.hid (Blk.fresh w0 2 #[.int .i64 p.iv, .int .i64 p.gu, .int .i64 p.re, .int .i64 p.wa, .int .i64 p.ga, .int .i64 p.pe, .int .i64 p.ag])
  have HA8 := Lib.hid (HA.out.alloc (.cells #[.int .i64 p.iv, .int .i64 p.gu, .int .i64 p.re, .int .i64 p.wa, .int .i64 p.ga, .int .i64 p.pe, .int .i64 p.ag] 2))
  have HB8 := Lib.hid (HB.out.alloc HB.out.size (.cells #[.int .i64 p.iv, .int .i64 p.gu, .int .i64 p.re, .int .i64 p.wa, .int .i64 p.ga, .int .i64 p.pe, .int .i64 p.ag] 2))
  generalize hw8 : w0.alloc (.cells #[.int .i64 p.iv, .int .i64 p.gu, .int .i64 p.re, .int .i64 p.wa, .int .i64 p.ga, .int .i64 p.pe, .int .i64 p.ag] 2) = w8 at HC8 HA8 HB8 ⊢
  clear hw8
  refine (ticks_blk (tks p) 7 7 w0.heap.size _ #[.int .i64 p.iv, .int .i64 p.gu, .int .i64 p.re, .int .i64 p.wa, .int .i64 p.ga, .int .i64 p.pe, .int .i64 p.ag] w8 HC8.out rfl rfl (Nat.le_of_ble_eq_true rfl) T1.out).mono ?_
  rintro x wt8 ⟨rfl, rfl⟩
  cases cs HA8.out
  go_wp2_with fail
  have HC9 := Lib.hid (Blk.fresh w8 2 #[.int .i64 p.ho])
  have HA9 := Lib.hid (HA8.out.alloc (.cells #[.int .i64 p.ho] 2))
  have HB9 := Lib.hid (HB8.out.alloc HB8.out.size (.cells #[.int .i64 p.ho] 2))
  generalize hw9 : w8.alloc (.cells #[.int .i64 p.ho] 2) = w9 at HC9 HA9 HB9 ⊢
  clear hw9
  refine (ticks_blk [p.ho] 1 1 w8.heap.size _ #[.int .i64 p.ho] w9 HC9.out rfl rfl (Nat.le_of_ble_eq_true rfl) T2.out).mono ?_
  rintro x wt9 ⟨rfl, rfl⟩
  cases cs HA9.out
  go_wp2
  go_ret
  exact ⟨rfl, HB9.out⟩
set_option maxRecDepth 100000 in
set_option maxHeartbeats 2000000 in
theorem check_q2 (p : Pl) (w : World) (a1 : decide (p.no < 3) = false) (a2 : decide (16 < p.no) = false) (b1 : decide (p.ow < 0) = false) (b2 : decide (p.no ≤ p.ow) = false) (l1 : decide (7 < (p.lv : Int)) = false) (d1 : vl p.da) (d2 : vl p.ri) (e1 : ((p.da : Int) == (p.ri : Int)) = false) (t1 : allT 1 (tks p) = true) (t2 : allT 0 [p.ho] = true) (q1 : decide (p.ro < 1) = false) (q2 : decide (1024 < p.ro) = true) :
    Calls Try.prog 7 #[plV p] w fun x w' => x = .returned (.int .i64 4) ∧ Below w.heap.size w w' := by
  have D1 := Lib.hid d1
  clear d1
  have D2 := Lib.hid d2
  clear d2
  have T1 := Lib.hid t1
  clear t1
  have T2 := Lib.hid t2
  clear t2
  have HA := Lib.hid (Blk.fresh w 24 (plC p))
  have HB := Lib.hid ((Below.refl w.heap.size w).alloc (Nat.le_refl _) (.cells (plC p) 24))
  go_enter Try.func7, Try.ntmps7
  go_upto_region 1 with (fail)
  generalize w.alloc (.cells (plC p) 24) = w0 at HA HB ⊢
  cases cs HA.out
  go_wp2_with fail
  refine (vlan_yes p.da w0 D1.out).mono ?_
  rintro x wv5 ⟨rfl, rfl⟩
  go_wp2_with fail
  refine (vlan_yes p.ri w0 D2.out).mono ?_
  rintro x wv6 ⟨rfl, rfl⟩
  go_wp2_with fail
  have HC8 := Lib.hid (Blk.fresh w0 2 #[.int .i64 p.iv, .int .i64 p.gu, .int .i64 p.re, .int .i64 p.wa, .int .i64 p.ga, .int .i64 p.pe, .int .i64 p.ag])
  have HA8 := Lib.hid (HA.out.alloc (.cells #[.int .i64 p.iv, .int .i64 p.gu, .int .i64 p.re, .int .i64 p.wa, .int .i64 p.ga, .int .i64 p.pe, .int .i64 p.ag] 2))
  have HB8 := Lib.hid (HB.out.alloc HB.out.size (.cells #[.int .i64 p.iv, .int .i64 p.gu, .int .i64 p.re, .int .i64 p.wa, .int .i64 p.ga, .int .i64 p.pe, .int .i64 p.ag] 2))
  generalize hw8 : w0.alloc (.cells #[.int .i64 p.iv, .int .i64 p.gu, .int .i64 p.re, .int .i64 p.wa, .int .i64 p.ga, .int .i64 p.pe, .int .i64 p.ag] 2) = w8 at HC8 HA8 HB8 ⊢
  clear hw8
  refine (ticks_blk (tks p) 7 7 w0.heap.size _ #[.int .i64 p.iv, .int .i64 p.gu, .int .i64 p.re, .int .i64 p.wa, .int .i64 p.ga, .int .i64 p.pe, .int .i64 p.ag] w8 HC8.out rfl rfl (Nat.le_of_ble_eq_true rfl) T1.out).mono ?_
  rintro x wt8 ⟨rfl, rfl⟩
  cases cs HA8.out
  go_wp2_with fail
  have HC9 := Lib.hid (Blk.fresh w8 2 #[.int .i64 p.ho])
  have HA9 := Lib.hid (HA8.out.alloc (.cells #[.int .i64 p.ho] 2))
  have HB9 := Lib.hid (HB8.out.alloc HB8.out.size (.cells #[.int .i64 p.ho] 2))
  generalize hw9 : w8.alloc (.cells #[.int .i64 p.ho] 2) = w9 at HC9 HA9 HB9 ⊢
  clear hw9
  refine (ticks_blk [p.ho] 1 1 w8.heap.size _ #[.int .i64 p.ho] w9 HC9.out rfl rfl (Nat.le_of_ble_eq_true rfl) T2.out).mono ?_
  rintro x wt9 ⟨rfl, rfl⟩
  cases cs HA9.out
  go_wp2
  go_ret
  exact ⟨rfl, HB9.out⟩
set_option maxRecDepth 100000 in
set_option maxHeartbeats 2000000 in
theorem check_q3 (p : Pl) (w : World) (a1 : decide (p.no < 3) = false) (a2 : decide (16 < p.no) = false) (b1 : decide (p.ow < 0) = false) (b2 : decide (p.no ≤ p.ow) = false) (l1 : decide (7 < (p.lv : Int)) = false) (d1 : vl p.da) (d2 : vl p.ri) (e1 : ((p.da : Int) == (p.ri : Int)) = false) (t1 : allT 1 (tks p) = true) (t2 : allT 0 [p.ho] = true) (q1 : decide (p.ro < 1) = false) (q2 : decide (1024 < p.ro) = false) (q3 : decide (p.qu < 1) = true) :
    Calls Try.prog 7 #[plV p] w fun x w' => x = .returned (.int .i64 4) ∧ Below w.heap.size w w' := by
  have D1 := Lib.hid d1
  clear d1
  have D2 := Lib.hid d2
  clear d2
  have T1 := Lib.hid t1
  clear t1
  have T2 := Lib.hid t2
  clear t2
  have HA := Lib.hid (Blk.fresh w 24 (plC p))
  have HB := Lib.hid ((Below.refl w.heap.size w).alloc (Nat.le_refl _) (.cells (plC p) 24))
  go_enter Try.func7, Try.ntmps7
  go_upto_region 1 with (fail)
  generalize w.alloc (.cells (plC p) 24) = w0 at HA HB ⊢
  cases cs HA.out
  go_wp2_with fail
  refine (vlan_yes p.da w0 D1.out).mono ?_
  rintro x wv5 ⟨rfl, rfl⟩
  go_wp2_with fail
  refine (vlan_yes p.ri w0 D2.out).mono ?_
  rintro x wv6 ⟨rfl, rfl⟩
  go_wp2_with fail
  have HC8 := Lib.hid (Blk.fresh w0 2 #[.int .i64 p.iv, .int .i64 p.gu, .int .i64 p.re, .int .i64 p.wa, .int .i64 p.ga, .int .i64 p.pe, .int .i64 p.ag])
  have HA8 := Lib.hid (HA.out.alloc (.cells #[.int .i64 p.iv, .int .i64 p.gu, .int .i64 p.re, .int .i64 p.wa, .int .i64 p.ga, .int .i64 p.pe, .int .i64 p.ag] 2))
  have HB8 := Lib.hid (HB.out.alloc HB.out.size (.cells #[.int .i64 p.iv, .int .i64 p.gu, .int .i64 p.re, .int .i64 p.wa, .int .i64 p.ga, .int .i64 p.pe, .int .i64 p.ag] 2))
  generalize hw8 : w0.alloc (.cells #[.int .i64 p.iv, .int .i64 p.gu, .int .i64 p.re, .int .i64 p.wa, .int .i64 p.ga, .int .i64 p.pe, .int .i64 p.ag] 2) = w8 at HC8 HA8 HB8 ⊢
  clear hw8
  refine (ticks_blk (tks p) 7 7 w0.heap.size _ #[.int .i64 p.iv, .int .i64 p.gu, .int .i64 p.re, .int .i64 p.wa, .int .i64 p.ga, .int .i64 p.pe, .int .i64 p.ag] w8 HC8.out rfl rfl (Nat.le_of_ble_eq_true rfl) T1.out).mono ?_
  rintro x wt8 ⟨rfl, rfl⟩
  cases cs HA8.out
  go_wp2_with fail
  have HC9 := Lib.hid (Blk.fresh w8 2 #[.int .i64 p.ho])
  have HA9 := Lib.hid (HA8.out.alloc (.cells #[.int .i64 p.ho] 2))
  have HB9 := Lib.hid (HB8.out.alloc HB8.out.size (.cells #[.int .i64 p.ho] 2))
  generalize hw9 : w8.alloc (.cells #[.int .i64 p.ho] 2) = w9 at HC9 HA9 HB9 ⊢
  clear hw9
  refine (ticks_blk [p.ho] 1 1 w8.heap.size _ #[.int .i64 p.ho] w9 HC9.out rfl rfl (Nat.le_of_ble_eq_true rfl) T2.out).mono ?_
  rintro x wt9 ⟨rfl, rfl⟩
  cases cs HA9.out
  go_wp2
  go_ret
  exact ⟨rfl, HB9.out⟩
set_option maxRecDepth 100000 in
set_option maxHeartbeats 2000000 in
theorem check_q4 (p : Pl) (w : World) (a1 : decide (p.no < 3) = false) (a2 : decide (16 < p.no) = false) (b1 : decide (p.ow < 0) = false) (b2 : decide (p.no ≤ p.ow) = false) (l1 : decide (7 < (p.lv : Int)) = false) (d1 : vl p.da) (d2 : vl p.ri) (e1 : ((p.da : Int) == (p.ri : Int)) = false) (t1 : allT 1 (tks p) = true) (t2 : allT 0 [p.ho] = true) (q1 : decide (p.ro < 1) = false) (q2 : decide (1024 < p.ro) = false) (q3 : decide (p.qu < 1) = false) (q4 : decide (256 < p.qu) = true) :
    Calls Try.prog 7 #[plV p] w fun x w' => x = .returned (.int .i64 4) ∧ Below w.heap.size w w' := by
  have D1 := Lib.hid d1
  clear d1
  have D2 := Lib.hid d2
  clear d2
  have T1 := Lib.hid t1
  clear t1
  have T2 := Lib.hid t2
  clear t2
  have HA := Lib.hid (Blk.fresh w 24 (plC p))
  have HB := Lib.hid ((Below.refl w.heap.size w).alloc (Nat.le_refl _) (.cells (plC p) 24))
  go_enter Try.func7, Try.ntmps7
  go_upto_region 1 with (fail)
  generalize w.alloc (.cells (plC p) 24) = w0 at HA HB ⊢
  cases cs HA.out
  go_wp2_with fail
  refine (vlan_yes p.da w0 D1.out).mono ?_
  rintro x wv5 ⟨rfl, rfl⟩
  go_wp2_with fail
  refine (vlan_yes p.ri w0 D2.out).mono ?_
  rintro x wv6 ⟨rfl, rfl⟩
  go_wp2_with fail
  have HC8 := Lib.hid (Blk.fresh w0 2 #[.int .i64 p.iv, .int .i64 p.gu, .int .i64 p.re, .int .i64 p.wa, .int .i64 p.ga, .int .i64 p.pe, .int .i64 p.ag])
  have HA8 := Lib.hid (HA.out.alloc (.cells #[.int .i64 p.iv, .int .i64 p.gu, .int .i64 p.re, .int .i64 p.wa, .int .i64 p.ga, .int .i64 p.pe, .int .i64 p.ag] 2))
  have HB8 := Lib.hid (HB.out.alloc HB.out.size (.cells #[.int .i64 p.iv, .int .i64 p.gu, .int .i64 p.re, .int .i64 p.wa, .int .i64 p.ga, .int .i64 p.pe, .int .i64 p.ag] 2))
  generalize hw8 : w0.alloc (.cells #[.int .i64 p.iv, .int .i64 p.gu, .int .i64 p.re, .int .i64 p.wa, .int .i64 p.ga, .int .i64 p.pe, .int .i64 p.ag] 2) = w8 at HC8 HA8 HB8 ⊢
  clear hw8
  refine (ticks_blk (tks p) 7 7 w0.heap.size _ #[.int .i64 p.iv, .int .i64 p.gu, .int .i64 p.re, .int .i64 p.wa, .int .i64 p.ga, .int .i64 p.pe, .int .i64 p.ag] w8 HC8.out rfl rfl (Nat.le_of_ble_eq_true rfl) T1.out).mono ?_
  rintro x wt8 ⟨rfl, rfl⟩
  cases cs HA8.out
  go_wp2_with fail
  have HC9 := Lib.hid (Blk.fresh w8 2 #[.int .i64 p.ho])
  have HA9 := Lib.hid (HA8.out.alloc (.cells #[.int .i64 p.ho] 2))
  have HB9 := Lib.hid (HB8.out.alloc HB8.out.size (.cells #[.int .i64 p.ho] 2))
  generalize hw9 : w8.alloc (.cells #[.int .i64 p.ho] 2) = w9 at HC9 HA9 HB9 ⊢
  clear hw9
  refine (ticks_blk [p.ho] 1 1 w8.heap.size _ #[.int .i64 p.ho] w9 HC9.out rfl rfl (Nat.le_of_ble_eq_true rfl) T2.out).mono ?_
  rintro x wt9 ⟨rfl, rfl⟩
  cases cs HA9.out
  go_wp2
  go_ret
  exact ⟨rfl, HB9.out⟩
set_option maxRecDepth 100000 in
set_option maxHeartbeats 2000000 in
theorem check_ok (p : Pl) (w : World) (a1 : decide (p.no < 3) = false) (a2 : decide (16 < p.no) = false) (b1 : decide (p.ow < 0) = false) (b2 : decide (p.no ≤ p.ow) = false) (l1 : decide (7 < (p.lv : Int)) = false) (d1 : vl p.da) (d2 : vl p.ri) (e1 : ((p.da : Int) == (p.ri : Int)) = false) (t1 : allT 1 (tks p) = true) (t2 : allT 0 [p.ho] = true) (q1 : decide (p.ro < 1) = false) (q2 : decide (1024 < p.ro) = false) (q3 : decide (p.qu < 1) = false) (q4 : decide (256 < p.qu) = false) :
    Calls Try.prog 7 #[plV p] w fun x w' => x = .returned (.int .i64 0) ∧ Below w.heap.size w w' := by
  have D1 := Lib.hid d1
  clear d1
  have D2 := Lib.hid d2
  clear d2
  have T1 := Lib.hid t1
  clear t1
  have T2 := Lib.hid t2
  clear t2
  have HA := Lib.hid (Blk.fresh w 24 (plC p))
  have HB := Lib.hid ((Below.refl w.heap.size w).alloc (Nat.le_refl _) (.cells (plC p) 24))
  go_enter Try.func7, Try.ntmps7
  go_upto_region 1 with (fail)
  generalize w.alloc (.cells (plC p) 24) = w0 at HA HB ⊢
  cases cs HA.out
  go_wp2_with fail
  refine (vlan_yes p.da w0 D1.out).mono ?_
  rintro x wv5 ⟨rfl, rfl⟩
  go_wp2_with fail
  refine (vlan_yes p.ri w0 D2.out).mono ?_
  rintro x wv6 ⟨rfl, rfl⟩
  go_wp2_with fail
  have HC8 := Lib.hid (Blk.fresh w0 2 #[.int .i64 p.iv, .int .i64 p.gu, .int .i64 p.re, .int .i64 p.wa, .int .i64 p.ga, .int .i64 p.pe, .int .i64 p.ag])
  have HA8 := Lib.hid (HA.out.alloc (.cells #[.int .i64 p.iv, .int .i64 p.gu, .int .i64 p.re, .int .i64 p.wa, .int .i64 p.ga, .int .i64 p.pe, .int .i64 p.ag] 2))
  have HB8 := Lib.hid (HB.out.alloc HB.out.size (.cells #[.int .i64 p.iv, .int .i64 p.gu, .int .i64 p.re, .int .i64 p.wa, .int .i64 p.ga, .int .i64 p.pe, .int .i64 p.ag] 2))
  generalize hw8 : w0.alloc (.cells #[.int .i64 p.iv, .int .i64 p.gu, .int .i64 p.re, .int .i64 p.wa, .int .i64 p.ga, .int .i64 p.pe, .int .i64 p.ag] 2) = w8 at HC8 HA8 HB8 ⊢
  clear hw8
  refine (ticks_blk (tks p) 7 7 w0.heap.size _ #[.int .i64 p.iv, .int .i64 p.gu, .int .i64 p.re, .int .i64 p.wa, .int .i64 p.ga, .int .i64 p.pe, .int .i64 p.ag] w8 HC8.out rfl rfl (Nat.le_of_ble_eq_true rfl) T1.out).mono ?_
  rintro x wt8 ⟨rfl, rfl⟩
  cases cs HA8.out
  go_wp2_with fail
  have HC9 := Lib.hid (Blk.fresh w8 2 #[.int .i64 p.ho])
  have HA9 := Lib.hid (HA8.out.alloc (.cells #[.int .i64 p.ho] 2))
  have HB9 := Lib.hid (HB8.out.alloc HB8.out.size (.cells #[.int .i64 p.ho] 2))
  generalize hw9 : w8.alloc (.cells #[.int .i64 p.ho] 2) = w9 at HC9 HA9 HB9 ⊢
  clear hw9
  refine (ticks_blk [p.ho] 1 1 w8.heap.size _ #[.int .i64 p.ho] w9 HC9.out rfl rfl (Nat.le_of_ble_eq_true rfl) T2.out).mono ?_
  rintro x wt9 ⟨rfl, rfl⟩
  cases cs HA9.out
  go_wp2
  go_ret
  exact ⟨rfl, HB9.out⟩
theorem allT_len7 (p : Pl) : (tks p).length = 7 := rfl
theorem check_any (p : Pl) (w : World) : Calls Try.prog 7 #[plV p] w fun x w' => x = .returned (.int .i64 (chk p : Nat)) ∧ Below w.heap.size w w' := by
  unfold chk
  by_cases xa1 : p.no < 3
  · rw [if_pos (by unfold okA; omega)]
    exact check_a1 p w (decide_eq_true xa1)
  · skip
    by_cases xa2 : 16 < p.no
    · rw [if_pos (by unfold okA; omega)]
      exact check_a2 p w (decide_eq_false xa1) (decide_eq_true xa2)
    · skip
      by_cases xb1 : p.ow < 0
      · rw [if_pos (by unfold okA; omega)]
        exact check_b1 p w (decide_eq_false xa1) (decide_eq_false xa2) (decide_eq_true xb1)
      · skip
        by_cases xb2 : p.no ≤ p.ow
        · rw [if_pos (by unfold okA; omega)]
          exact check_b2 p w (decide_eq_false xa1) (decide_eq_false xa2) (decide_eq_false xb1) (decide_eq_true xb2)
        · skip
          by_cases xl1 : 7 < p.lv
          · rw [if_pos (by unfold okA; omega)]
            exact check_l1 p w (decide_eq_false xa1) (decide_eq_false xa2) (decide_eq_false xb1) (decide_eq_false xb2) (decide_eq_true (by omega))
          · rw [if_neg (by unfold okA; omega)]
            by_cases xd1 : ¬ vl p.da
            · rw [if_pos (fun hh => xd1 hh.1)]
              exact check_d1 p w (decide_eq_false xa1) (decide_eq_false xa2) (decide_eq_false xb1) (decide_eq_false xb2) (decide_eq_false (by omega)) xd1
            · skip
              by_cases xd2 : ¬ vl p.ri
              · rw [if_pos (fun hh => xd2 hh.2.1)]
                exact check_d2 p w (decide_eq_false xa1) (decide_eq_false xa2) (decide_eq_false xb1) (decide_eq_false xb2) (decide_eq_false (by omega)) (Decidable.not_not.1 xd1) xd2
              · skip
                by_cases xe1 : p.da = p.ri
                · rw [if_pos (fun hh => hh.2.2 xe1)]
                  exact check_e1 p w (decide_eq_false xa1) (decide_eq_false xa2) (decide_eq_false xb1) (decide_eq_false xb2) (decide_eq_false (by omega)) (Decidable.not_not.1 xd1) (Decidable.not_not.1 xd2) (eq_yes xe1)
                · rw [if_neg (by intro hh; exact hh ⟨Decidable.not_not.1 xd1, Decidable.not_not.1 xd2, xe1⟩)]
                  by_cases xt1 : allT 1 (tks p) = false
                  · rw [if_pos xt1]
                    exact check_t1 p w (decide_eq_false xa1) (decide_eq_false xa2) (decide_eq_false xb1) (decide_eq_false xb2) (decide_eq_false (by omega)) (Decidable.not_not.1 xd1) (Decidable.not_not.1 xd2) (eq_no xe1) xt1
                  · rw [if_neg xt1]
                    by_cases xt2 : allT 0 [p.ho] = false
                    · rw [if_pos xt2]
                      exact check_t2 p w (decide_eq_false xa1) (decide_eq_false xa2) (decide_eq_false xb1) (decide_eq_false xb2) (decide_eq_false (by omega)) (Decidable.not_not.1 xd1) (Decidable.not_not.1 xd2) (eq_no xe1) ((Bool.not_eq_false _).mp xt1) xt2
                    · rw [if_neg xt2]
                      by_cases xq1 : p.ro < 1
                      · rw [if_pos (by unfold okD; omega)]
                        exact check_q1 p w (decide_eq_false xa1) (decide_eq_false xa2) (decide_eq_false xb1) (decide_eq_false xb2) (decide_eq_false (by omega)) (Decidable.not_not.1 xd1) (Decidable.not_not.1 xd2) (eq_no xe1) ((Bool.not_eq_false _).mp xt1) ((Bool.not_eq_false _).mp xt2) (decide_eq_true xq1)
                      · skip
                        by_cases xq2 : 1024 < p.ro
                        · rw [if_pos (by unfold okD; omega)]
                          exact check_q2 p w (decide_eq_false xa1) (decide_eq_false xa2) (decide_eq_false xb1) (decide_eq_false xb2) (decide_eq_false (by omega)) (Decidable.not_not.1 xd1) (Decidable.not_not.1 xd2) (eq_no xe1) ((Bool.not_eq_false _).mp xt1) ((Bool.not_eq_false _).mp xt2) (decide_eq_false xq1) (decide_eq_true xq2)
                        · skip
                          by_cases xq3 : p.qu < 1
                          · rw [if_pos (by unfold okD; omega)]
                            exact check_q3 p w (decide_eq_false xa1) (decide_eq_false xa2) (decide_eq_false xb1) (decide_eq_false xb2) (decide_eq_false (by omega)) (Decidable.not_not.1 xd1) (Decidable.not_not.1 xd2) (eq_no xe1) ((Bool.not_eq_false _).mp xt1) ((Bool.not_eq_false _).mp xt2) (decide_eq_false xq1) (decide_eq_false xq2) (decide_eq_true xq3)
                          · skip
                            by_cases xq4 : 256 < p.qu
                            · rw [if_pos (by unfold okD; omega)]
                              exact check_q4 p w (decide_eq_false xa1) (decide_eq_false xa2) (decide_eq_false xb1) (decide_eq_false xb2) (decide_eq_false (by omega)) (Decidable.not_not.1 xd1) (Decidable.not_not.1 xd2) (eq_no xe1) ((Bool.not_eq_false _).mp xt1) ((Bool.not_eq_false _).mp xt2) (decide_eq_false xq1) (decide_eq_false xq2) (decide_eq_false xq3) (decide_eq_true xq4)
                            · rw [if_neg (by unfold okD; omega)]
                              exact check_ok p w (decide_eq_false xa1) (decide_eq_false xa2) (decide_eq_false xb1) (decide_eq_false xb2) (decide_eq_false (by omega)) (Decidable.not_not.1 xd1) (Decidable.not_not.1 xd2) (eq_no xe1) ((Bool.not_eq_false _).mp xt1) ((Bool.not_eq_false _).mp xt2) (decide_eq_false xq1) (decide_eq_false xq2) (decide_eq_false xq3) (decide_eq_false xq4)
theorem check_at {c : Nat} (p : Pl) (w : World) (h : chk p = c) : Calls Try.prog 7 #[plV p] w fun x w' => x = .returned (.int .i64 (c : Nat)) ∧ Below w.heap.size w w' := by
  subst h; exact check_any p w
end Go.Proofs.Ytoiggajjbjcabaa.Pn
