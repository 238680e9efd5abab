/-
  Plan: nodes, their far ends, roles, addresses and ends, the program's and the document's.
-/
import Derived.Test.YtoiggajjbjcabaaPlB
import Derived.Test.YtoiggajjbjcabaaPlC
namespace Go.Proofs.Ytoiggajjbjcabaa.Pn
open Go.RowKit Go.Proofs.Ytoiggajjbjcabaa.Mm Go.Proofs.Ytoiggajjbjcabaa.Tg
set_option linter.unusedVariables false

/-- a plan as its types let it be -/
def Pw (p : Pl) : Prop := -9223372036854775808 ≤ p.ho ∧ p.ho ≤ 9223372036854775807
theorem rcheck_at {c : Nat} (p : Pl) (w : World) (hp : Pw p) (h : chk p = c) : Calls Try.prog 8 #[plV p] w fun x w' => x = .returned (.int .i64 (c : Nat)) ∧ Below w.heap.size w w' := by
  subst h; exact rcheck_any p w hp
theorem check_0 (p : Pl) (w : World) (hp : Pw p) (h : chk p = 0) : Calls Try.prog 7 #[plV p] w fun x w' => x = .returned (.int .i64 0) ∧ Below w.heap.size w w' := check_at p w h
theorem rcheck_0 (p : Pl) (w : World) (hp : Pw p) (h : chk p = 0) : Calls Try.prog 8 #[plV p] w fun x w' => x = .returned (.int .i64 0) ∧ Below w.heap.size w w' := rcheck_at p w hp h
theorem check_n {c : Nat} (p : Pl) (w : World) (hp : Pw p) (h : chk p = c) : Calls Try.prog 7 #[plV p] w fun x w' => x = .returned (.int .i64 (c : Nat)) ∧ Below w.heap.size w w' := check_at p w h
theorem rcheck_n {c : Nat} (p : Pl) (w : World) (hp : Pw p) (h : chk p = c) : Calls Try.prog 8 #[plV p] w fun x w' => x = .returned (.int .i64 (c : Nat)) ∧ Below w.heap.size w w' := rcheck_at p w hp h
theorem info_p (p : Pl) : (Try.prog.info? 24).map (·.size) = some (plC p).size := by kernel_rfl
theorem info_rp (p : Pl) : (Try.prog.info? 29).map (·.size) = some (plC p).size := by kernel_rfl
def hasP (p : Pl) (i : Int) : Prop := chk p = 0 ∧ 0 ≤ i ∧ i < p.no
instance (p : Pl) (i : Int) : Decidable (hasP p i) := by unfold hasP; exact inferInstance
theorem okA_of {p : Pl} (h : chk p = 0) : okA p := by
  unfold chk at h
  by_cases hA : okA p
  · exact hA
  · rw [if_pos hA] at h; cases h
theorem int_no {a b : Int} (h : ¬ a = b) : (a == b) = false := by simpa using h
theorem int_yes {a b : Int} (h : a = b) : (a == b) = true := by simpa using h

set_option maxRecDepth 100000 in
set_option maxHeartbeats 2000000 in
theorem has_n1 (p : Pl) (i : Int) (w : World) (hp : Pw p) {c : Nat} (hc : chk p = c) (h1 : ((c : Int) == 0) = false) :
    Calls Try.prog 29 #[plV p, .int .i64 i] w fun x w' => x = .returned (.bool false) ∧ Below w.heap.size w w' := by
  have HC := Lib.hid hc
  clear hc
  have HP := Lib.hid hp
  clear hp
  have HA := Lib.hid (Blk.fresh w 24 (plC p))
  have HB := Lib.hid ((Below.refl w.heap.size w).alloc (Nat.le_refl _) (.cells (plC p) 24))
  go_enter Try.func29, Try.ntmps29
  go_upto_region 1 with (fail)
  generalize w.alloc (.cells (plC p) 24) = w0 at HA HB ⊢
  cases cs HA.out
  go_wp2_with (refine wpList_load_row rfl 24 _ rfl _ rfl _ (plC p) _ _ HA.out Try.underlying24 rfl (info_p p) ?_)
  refine (check_n p w0 HP.out HC.out).mono ?_
  rintro x w1 ⟨rfl, hb⟩
  have HA1 := Lib.hid (HA.out.below hb HA.out.lt)
  have HB1 := Lib.hid (HB.out.trans (hb.mono HB.out.size))
  clear hb
  cases cs HA1.out
  go_wp2
  go_ret
  exact ⟨rfl, HB1.out⟩
set_option maxRecDepth 100000 in
set_option maxHeartbeats 2000000 in
theorem has_n2 (p : Pl) (i : Int) (w : World) (hp : Pw p) (hc : chk p = 0) (h2 : decide (0 ≤ i) = false) :
    Calls Try.prog 29 #[plV p, .int .i64 i] w fun x w' => x = .returned (.bool false) ∧ Below w.heap.size w w' := by
  have HC := Lib.hid hc
  clear hc
  have HP := Lib.hid hp
  clear hp
  have HA := Lib.hid (Blk.fresh w 24 (plC p))
  have HB := Lib.hid ((Below.refl w.heap.size w).alloc (Nat.le_refl _) (.cells (plC p) 24))
  go_enter Try.func29, Try.ntmps29
  go_upto_region 1 with (fail)
  generalize w.alloc (.cells (plC p) 24) = w0 at HA HB ⊢
  cases cs HA.out
  go_wp2_with (refine wpList_load_row rfl 24 _ rfl _ rfl _ (plC p) _ _ HA.out Try.underlying24 rfl (info_p p) ?_)
  refine (check_0 p w0 HP.out HC.out).mono ?_
  rintro x w1 ⟨rfl, hb⟩
  have HA1 := Lib.hid (HA.out.below hb HA.out.lt)
  have HB1 := Lib.hid (HB.out.trans (hb.mono HB.out.size))
  clear hb
  cases cs HA1.out
  go_wp2
  go_ret
  exact ⟨rfl, HB1.out⟩
set_option maxRecDepth 100000 in
set_option maxHeartbeats 2000000 in
theorem has_n3 (p : Pl) (i : Int) (w : World) (hp : Pw p) (hc : chk p = 0) (h2 : decide (0 ≤ i) = true) (h3 : decide (i < p.no) = false) :
    Calls Try.prog 29 #[plV p, .int .i64 i] w fun x w' => x = .returned (.bool false) ∧ Below w.heap.size w w' := by
  have HC := Lib.hid hc
  clear hc
  have HP := Lib.hid hp
  clear hp
  have HA := Lib.hid (Blk.fresh w 24 (plC p))
  have HB := Lib.hid ((Below.refl w.heap.size w).alloc (Nat.le_refl _) (.cells (plC p) 24))
  go_enter Try.func29, Try.ntmps29
  go_upto_region 1 with (fail)
  generalize w.alloc (.cells (plC p) 24) = w0 at HA HB ⊢
  cases cs HA.out
  go_wp2_with (refine wpList_load_row rfl 24 _ rfl _ rfl _ (plC p) _ _ HA.out Try.underlying24 rfl (info_p p) ?_)
  refine (check_0 p w0 HP.out HC.out).mono ?_
  rintro x w1 ⟨rfl, hb⟩
  have HA1 := Lib.hid (HA.out.below hb HA.out.lt)
  have HB1 := Lib.hid (HB.out.trans (hb.mono HB.out.size))
  clear hb
  cases cs HA1.out
  go_wp2
  go_ret
  exact ⟨rfl, HB1.out⟩
set_option maxRecDepth 100000 in
set_option maxHeartbeats 2000000 in
theorem has_y (p : Pl) (i : Int) (w : World) (hp : Pw p) (hc : chk p = 0) (h2 : decide (0 ≤ i) = true) (h3 : decide (i < p.no) = true) :
    Calls Try.prog 29 #[plV p, .int .i64 i] w fun x w' => x = .returned (.bool true) ∧ Below w.heap.size w w' := by
  have HC := Lib.hid hc
  clear hc
  have HP := Lib.hid hp
  clear hp
  have HA := Lib.hid (Blk.fresh w 24 (plC p))
  have HB := Lib.hid ((Below.refl w.heap.size w).alloc (Nat.le_refl _) (.cells (plC p) 24))
  go_enter Try.func29, Try.ntmps29
  go_upto_region 1 with (fail)
  generalize w.alloc (.cells (plC p) 24) = w0 at HA HB ⊢
  cases cs HA.out
  go_wp2_with (refine wpList_load_row rfl 24 _ rfl _ rfl _ (plC p) _ _ HA.out Try.underlying24 rfl (info_p p) ?_)
  refine (check_0 p w0 HP.out HC.out).mono ?_
  rintro x w1 ⟨rfl, hb⟩
  have HA1 := Lib.hid (HA.out.below hb HA.out.lt)
  have HB1 := Lib.hid (HB.out.trans (hb.mono HB.out.size))
  clear hb
  cases cs HA1.out
  go_wp2
  go_ret
  exact ⟨rfl, HB1.out⟩
theorem has_yes (p : Pl) (i : Int) (w : World) (hp : Pw p) (h : hasP p i) : Calls Try.prog 29 #[plV p, .int .i64 i] w fun x w' => x = .returned (.bool true) ∧ Below w.heap.size w w' :=
  has_y p i w hp h.1 (decide_eq_true h.2.1) (decide_eq_true h.2.2)
theorem has_no (p : Pl) (i : Int) (w : World) (hp : Pw p) (h : ¬ hasP p i) : Calls Try.prog 29 #[plV p, .int .i64 i] w fun x w' => x = .returned (.bool false) ∧ Below w.heap.size w w' := by
  by_cases h1 : chk p = 0
  · by_cases h2 : 0 ≤ i
    · exact has_n3 p i w hp h1 (decide_eq_true h2) (decide_eq_false (fun h3 => h ⟨h1, h2, h3⟩))
    · exact has_n2 p i w hp h1 (decide_eq_false h2)
  · exact has_n1 p i w hp rfl (nat_zero h1)
set_option maxRecDepth 100000 in
set_option maxHeartbeats 2000000 in
theorem rhas_n1 (p : Pl) (i : Int) (w : World) (hp : Pw p) {c : Nat} (hc : chk p = c) (h1 : ((c : Int) == 0) = false) :
    Calls Try.prog 30 #[plV p, .int .i64 i] w fun x w' => x = .returned (.bool false) ∧ Below w.heap.size w w' := by
  have HC := Lib.hid hc
  clear hc
  have HP := Lib.hid hp
  clear hp
  have HA := Lib.hid (Blk.fresh w 29 (plC p))
  have HB := Lib.hid ((Below.refl w.heap.size w).alloc (Nat.le_refl _) (.cells (plC p) 29))
  go_enter Try.func30, Try.ntmps30
  go_upto_region 1 with (fail)
  generalize w.alloc (.cells (plC p) 29) = w0 at HA HB ⊢
  cases cs HA.out
  go_wp2_with (refine wpList_load_row rfl 29 _ rfl _ rfl _ (plC p) _ _ HA.out Try.underlying29 rfl (info_rp p) ?_)
  refine (rcheck_n p w0 HP.out HC.out).mono ?_
  rintro x w1 ⟨rfl, hb⟩
  have HA1 := Lib.hid (HA.out.below hb HA.out.lt)
  have HB1 := Lib.hid (HB.out.trans (hb.mono HB.out.size))
  clear hb
  cases cs HA1.out
  go_wp2
  go_ret
  exact ⟨rfl, HB1.out⟩
set_option maxRecDepth 100000 in
set_option maxHeartbeats 2000000 in
theorem rhas_n2 (p : Pl) (i : Int) (w : World) (hp : Pw p) (hc : chk p = 0) (h2 : decide (0 ≤ i) = false) :
    Calls Try.prog 30 #[plV p, .int .i64 i] w fun x w' => x = .returned (.bool false) ∧ Below w.heap.size w w' := by
  have HC := Lib.hid hc
  clear hc
  have HP := Lib.hid hp
  clear hp
  have HA := Lib.hid (Blk.fresh w 29 (plC p))
  have HB := Lib.hid ((Below.refl w.heap.size w).alloc (Nat.le_refl _) (.cells (plC p) 29))
  go_enter Try.func30, Try.ntmps30
  go_upto_region 1 with (fail)
  generalize w.alloc (.cells (plC p) 29) = w0 at HA HB ⊢
  cases cs HA.out
  go_wp2_with (refine wpList_load_row rfl 29 _ rfl _ rfl _ (plC p) _ _ HA.out Try.underlying29 rfl (info_rp p) ?_)
  refine (rcheck_0 p w0 HP.out HC.out).mono ?_
  rintro x w1 ⟨rfl, hb⟩
  have HA1 := Lib.hid (HA.out.below hb HA.out.lt)
  have HB1 := Lib.hid (HB.out.trans (hb.mono HB.out.size))
  clear hb
  cases cs HA1.out
  go_wp2
  go_ret
  exact ⟨rfl, HB1.out⟩
set_option maxRecDepth 100000 in
set_option maxHeartbeats 2000000 in
theorem rhas_n3 (p : Pl) (i : Int) (w : World) (hp : Pw p) (hc : chk p = 0) (h2 : decide (0 ≤ i) = true) (h3 : decide (i < p.no) = false) :
    Calls Try.prog 30 #[plV p, .int .i64 i] w fun x w' => x = .returned (.bool false) ∧ Below w.heap.size w w' := by
  have HC := Lib.hid hc
  clear hc
  have HP := Lib.hid hp
  clear hp
  have HA := Lib.hid (Blk.fresh w 29 (plC p))
  have HB := Lib.hid ((Below.refl w.heap.size w).alloc (Nat.le_refl _) (.cells (plC p) 29))
  go_enter Try.func30, Try.ntmps30
  go_upto_region 1 with (fail)
  generalize w.alloc (.cells (plC p) 29) = w0 at HA HB ⊢
  cases cs HA.out
  go_wp2_with (refine wpList_load_row rfl 29 _ rfl _ rfl _ (plC p) _ _ HA.out Try.underlying29 rfl (info_rp p) ?_)
  refine (rcheck_0 p w0 HP.out HC.out).mono ?_
  rintro x w1 ⟨rfl, hb⟩
  have HA1 := Lib.hid (HA.out.below hb HA.out.lt)
  have HB1 := Lib.hid (HB.out.trans (hb.mono HB.out.size))
  clear hb
  cases cs HA1.out
  go_wp2
  go_ret
  exact ⟨rfl, HB1.out⟩
set_option maxRecDepth 100000 in
set_option maxHeartbeats 2000000 in
theorem rhas_y (p : Pl) (i : Int) (w : World) (hp : Pw p) (hc : chk p = 0) (h2 : decide (0 ≤ i) = true) (h3 : decide (i < p.no) = true) :
    Calls Try.prog 30 #[plV p, .int .i64 i] w fun x w' => x = .returned (.bool true) ∧ Below w.heap.size w w' := by
  have HC := Lib.hid hc
  clear hc
  have HP := Lib.hid hp
  clear hp
  have HA := Lib.hid (Blk.fresh w 29 (plC p))
  have HB := Lib.hid ((Below.refl w.heap.size w).alloc (Nat.le_refl _) (.cells (plC p) 29))
  go_enter Try.func30, Try.ntmps30
  go_upto_region 1 with (fail)
  generalize w.alloc (.cells (plC p) 29) = w0 at HA HB ⊢
  cases cs HA.out
  go_wp2_with (refine wpList_load_row rfl 29 _ rfl _ rfl _ (plC p) _ _ HA.out Try.underlying29 rfl (info_rp p) ?_)
  refine (rcheck_0 p w0 HP.out HC.out).mono ?_
  rintro x w1 ⟨rfl, hb⟩
  have HA1 := Lib.hid (HA.out.below hb HA.out.lt)
  have HB1 := Lib.hid (HB.out.trans (hb.mono HB.out.size))
  clear hb
  cases cs HA1.out
  go_wp2
  go_ret
  exact ⟨rfl, HB1.out⟩
theorem rhas_yes (p : Pl) (i : Int) (w : World) (hp : Pw p) (h : hasP p i) : Calls Try.prog 30 #[plV p, .int .i64 i] w fun x w' => x = .returned (.bool true) ∧ Below w.heap.size w w' :=
  rhas_y p i w hp h.1 (decide_eq_true h.2.1) (decide_eq_true h.2.2)
theorem rhas_no (p : Pl) (i : Int) (w : World) (hp : Pw p) (h : ¬ hasP p i) : Calls Try.prog 30 #[plV p, .int .i64 i] w fun x w' => x = .returned (.bool false) ∧ Below w.heap.size w w' := by
  by_cases h1 : chk p = 0
  · by_cases h2 : 0 ≤ i
    · exact rhas_n3 p i w hp h1 (decide_eq_true h2) (decide_eq_false (fun h3 => h ⟨h1, h2, h3⟩))
    · exact rhas_n2 p i w hp h1 (decide_eq_false h2)
  · exact rhas_n1 p i w hp rfl (nat_zero h1)
set_option maxRecDepth 100000 in
set_option maxHeartbeats 2000000 in
theorem far_no (p : Pl) (i port : Int) (w : World) (hp : Pw p) (hh : ¬ hasP p i)  :
    Calls Try.prog 12 #[plV p, .int .i64 i, .int .i64 port] w fun x w' => x = .returned (.tuple #[.int .i64 (-1), .int .i64 (-1)]) ∧ Below w.heap.size w w' := by
  have HH := Lib.hid hh
  clear hh
  have HP := Lib.hid hp
  clear hp
  have HA := Lib.hid (Blk.fresh w 24 (plC p))
  have HB := Lib.hid ((Below.refl w.heap.size w).alloc (Nat.le_refl _) (.cells (plC p) 24))
  go_enter Try.func12, Try.ntmps12
  go_upto_region 1 with (fail)
  generalize w.alloc (.cells (plC p) 24) = w0 at HA HB ⊢
  cases cs HA.out
  go_wp2_with (refine wpList_load_row rfl 24 _ rfl _ rfl _ (plC p) _ _ HA.out Try.underlying24 rfl (info_p p) ?_)
  refine (has_no p i w0 HP.out HH.out).mono ?_
  rintro x w1 ⟨rfl, hb⟩
  have HA1 := Lib.hid (HA.out.below hb HA.out.lt)
  have HB1 := Lib.hid (HB.out.trans (hb.mono HB.out.size))
  clear hb
  cases cs HA1.out
  go_wp2
  go_ret2
  exact ⟨rfl, HB1.out⟩
set_option maxRecDepth 100000 in
set_option maxHeartbeats 2000000 in
theorem far_e (p : Pl) (i port : Int) (w : World) (hp : Pw p) (hh : hasP p i) (d1 : (port == 1) = true) (i1 r : Int) (v1 : IntKind.i64.wrap (i + 1) = i1) (hn : ¬ p.no = 0) (hr : i1.tmod p.no = r) (hw : IntKind.i64.wrap r = r) :
    Calls Try.prog 12 #[plV p, .int .i64 i, .int .i64 port] w fun x w' => x = .returned (.tuple #[.int .i64 r, .int .i64 0]) ∧ Below w.heap.size w w' := by
  have HH := Lib.hid hh
  clear hh
  have HP := Lib.hid hp
  clear hp
  have HA := Lib.hid (Blk.fresh w 24 (plC p))
  have HB := Lib.hid ((Below.refl w.heap.size w).alloc (Nat.le_refl _) (.cells (plC p) 24))
  go_enter Try.func12, Try.ntmps12
  go_upto_region 1 with (fail)
  generalize w.alloc (.cells (plC p) 24) = w0 at HA HB ⊢
  cases cs HA.out
  go_wp2_with (refine wpList_load_row rfl 24 _ rfl _ rfl _ (plC p) _ _ HA.out Try.underlying24 rfl (info_p p) ?_)
  refine (has_yes p i w0 HP.out HH.out).mono ?_
  rintro x w1 ⟨rfl, hb⟩
  have HA1 := Lib.hid (HA.out.below hb HA.out.lt)
  have HB1 := Lib.hid (HB.out.trans (hb.mono HB.out.size))
  clear hb
  cases cs HA1.out
  go_wp2
  go_ret2
  exact ⟨rfl, HB1.out⟩
set_option maxRecDepth 100000 in
set_option maxHeartbeats 2000000 in
theorem far_w (p : Pl) (i port : Int) (w : World) (hp : Pw p) (hh : hasP p i) (d1 : (port == 1) = false) (d2 : (port == 0) = true) (i1 i2 r : Int) (v1 : IntKind.i64.wrap (i + p.no) = i1) (v2 : IntKind.i64.wrap (i1 - 1) = i2) (hn : ¬ p.no = 0) (hr : i2.tmod p.no = r) (hw : IntKind.i64.wrap r = r) :
    Calls Try.prog 12 #[plV p, .int .i64 i, .int .i64 port] w fun x w' => x = .returned (.tuple #[.int .i64 r, .int .i64 1]) ∧ Below w.heap.size w w' := by
  have HH := Lib.hid hh
  clear hh
  have HP := Lib.hid hp
  clear hp
  have HA := Lib.hid (Blk.fresh w 24 (plC p))
  have HB := Lib.hid ((Below.refl w.heap.size w).alloc (Nat.le_refl _) (.cells (plC p) 24))
  go_enter Try.func12, Try.ntmps12
  go_upto_region 1 with (fail)
  generalize w.alloc (.cells (plC p) 24) = w0 at HA HB ⊢
  cases cs HA.out
  go_wp2_with (refine wpList_load_row rfl 24 _ rfl _ rfl _ (plC p) _ _ HA.out Try.underlying24 rfl (info_p p) ?_)
  refine (has_yes p i w0 HP.out HH.out).mono ?_
  rintro x w1 ⟨rfl, hb⟩
  have HA1 := Lib.hid (HA.out.below hb HA.out.lt)
  have HB1 := Lib.hid (HB.out.trans (hb.mono HB.out.size))
  clear hb
  cases cs HA1.out
  go_wp2
  go_ret2
  exact ⟨rfl, HB1.out⟩
set_option maxRecDepth 100000 in
set_option maxHeartbeats 2000000 in
theorem far_x (p : Pl) (i port : Int) (w : World) (hp : Pw p) (hh : hasP p i) (d1 : (port == 1) = false) (d2 : (port == 0) = false) :
    Calls Try.prog 12 #[plV p, .int .i64 i, .int .i64 port] w fun x w' => x = .returned (.tuple #[.int .i64 (-1), .int .i64 (-1)]) ∧ Below w.heap.size w w' := by
  have HH := Lib.hid hh
  clear hh
  have HP := Lib.hid hp
  clear hp
  have HA := Lib.hid (Blk.fresh w 24 (plC p))
  have HB := Lib.hid ((Below.refl w.heap.size w).alloc (Nat.le_refl _) (.cells (plC p) 24))
  go_enter Try.func12, Try.ntmps12
  go_upto_region 1 with (fail)
  generalize w.alloc (.cells (plC p) 24) = w0 at HA HB ⊢
  cases cs HA.out
  go_wp2_with (refine wpList_load_row rfl 24 _ rfl _ rfl _ (plC p) _ _ HA.out Try.underlying24 rfl (info_p p) ?_)
  refine (has_yes p i w0 HP.out HH.out).mono ?_
  rintro x w1 ⟨rfl, hb⟩
  have HA1 := Lib.hid (HA.out.below hb HA.out.lt)
  have HB1 := Lib.hid (HB.out.trans (hb.mono HB.out.size))
  clear hb
  cases cs HA1.out
  go_wp2
  go_ret2
  exact ⟨rfl, HB1.out⟩
set_option maxRecDepth 100000 in
set_option maxHeartbeats 2000000 in
theorem rfar_no (p : Pl) (i port : Int) (w : World) (hp : Pw p) (hh : ¬ hasP p i)  :
    Calls Try.prog 13 #[plV p, .int .i64 i, .int .i64 port] w fun x w' => x = .returned (.tuple #[.int .i64 (-1), .int .i64 (-1)]) ∧ Below w.heap.size w w' := by
  have HH := Lib.hid hh
  clear hh
  have HP := Lib.hid hp
  clear hp
  have HA := Lib.hid (Blk.fresh w 29 (plC p))
  have HB := Lib.hid ((Below.refl w.heap.size w).alloc (Nat.le_refl _) (.cells (plC p) 29))
  go_enter Try.func13, Try.ntmps13
  go_upto_region 1 with (fail)
  generalize w.alloc (.cells (plC p) 29) = w0 at HA HB ⊢
  cases cs HA.out
  go_wp2_with (refine wpList_load_row rfl 29 _ rfl _ rfl _ (plC p) _ _ HA.out Try.underlying29 rfl (info_rp p) ?_)
  refine (rhas_no p i w0 HP.out HH.out).mono ?_
  rintro x w1 ⟨rfl, hb⟩
  have HA1 := Lib.hid (HA.out.below hb HA.out.lt)
  have HB1 := Lib.hid (HB.out.trans (hb.mono HB.out.size))
  clear hb
  cases cs HA1.out
  go_wp2
  go_ret2
  exact ⟨rfl, HB1.out⟩
set_option maxRecDepth 100000 in
set_option maxHeartbeats 2000000 in
theorem rfar_lo (p : Pl) (i port : Int) (w : World) (hp : Pw p) (hh : hasP p i) (d1 : decide (port < 0) = true) :
    Calls Try.prog 13 #[plV p, .int .i64 i, .int .i64 port] w fun x w' => x = .returned (.tuple #[.int .i64 (-1), .int .i64 (-1)]) ∧ Below w.heap.size w w' := by
  have HH := Lib.hid hh
  clear hh
  have HP := Lib.hid hp
  clear hp
  have HA := Lib.hid (Blk.fresh w 29 (plC p))
  have HB := Lib.hid ((Below.refl w.heap.size w).alloc (Nat.le_refl _) (.cells (plC p) 29))
  go_enter Try.func13, Try.ntmps13
  go_upto_region 1 with (fail)
  generalize w.alloc (.cells (plC p) 29) = w0 at HA HB ⊢
  cases cs HA.out
  go_wp2_with (refine wpList_load_row rfl 29 _ rfl _ rfl _ (plC p) _ _ HA.out Try.underlying29 rfl (info_rp p) ?_)
  refine (rhas_yes p i w0 HP.out HH.out).mono ?_
  rintro x w1 ⟨rfl, hb⟩
  have HA1 := Lib.hid (HA.out.below hb HA.out.lt)
  have HB1 := Lib.hid (HB.out.trans (hb.mono HB.out.size))
  clear hb
  cases cs HA1.out
  go_wp2
  go_ret2
  exact ⟨rfl, HB1.out⟩
set_option maxRecDepth 100000 in
set_option maxHeartbeats 2000000 in
theorem rfar_hi (p : Pl) (i port : Int) (w : World) (hp : Pw p) (hh : hasP p i) (d1 : decide (port < 0) = false) (d2 : decide (1 < port) = true) :
    Calls Try.prog 13 #[plV p, .int .i64 i, .int .i64 port] w fun x w' => x = .returned (.tuple #[.int .i64 (-1), .int .i64 (-1)]) ∧ Below w.heap.size w w' := by
  have HH := Lib.hid hh
  clear hh
  have HP := Lib.hid hp
  clear hp
  have HA := Lib.hid (Blk.fresh w 29 (plC p))
  have HB := Lib.hid ((Below.refl w.heap.size w).alloc (Nat.le_refl _) (.cells (plC p) 29))
  go_enter Try.func13, Try.ntmps13
  go_upto_region 1 with (fail)
  generalize w.alloc (.cells (plC p) 29) = w0 at HA HB ⊢
  cases cs HA.out
  go_wp2_with (refine wpList_load_row rfl 29 _ rfl _ rfl _ (plC p) _ _ HA.out Try.underlying29 rfl (info_rp p) ?_)
  refine (rhas_yes p i w0 HP.out HH.out).mono ?_
  rintro x w1 ⟨rfl, hb⟩
  have HA1 := Lib.hid (HA.out.below hb HA.out.lt)
  have HB1 := Lib.hid (HB.out.trans (hb.mono HB.out.size))
  clear hb
  cases cs HA1.out
  go_wp2
  go_ret2
  exact ⟨rfl, HB1.out⟩
set_option maxRecDepth 100000 in
set_option maxHeartbeats 2000000 in
theorem rfar_e1 (p : Pl) (i port : Int) (w : World) (hp : Pw p) (hh : hasP p i) (d1 : decide (port < 0) = false) (d2 : decide (1 < port) = false) (d3 : (port == 1) = true) (m : Int) (v : IntKind.i64.wrap (p.no - 1) = m) (d4 : (i == m) = true) :
    Calls Try.prog 13 #[plV p, .int .i64 i, .int .i64 port] w fun x w' => x = .returned (.tuple #[.int .i64 0, .int .i64 0]) ∧ Below w.heap.size w w' := by
  have HH := Lib.hid hh
  clear hh
  have HP := Lib.hid hp
  clear hp
  have HA := Lib.hid (Blk.fresh w 29 (plC p))
  have HB := Lib.hid ((Below.refl w.heap.size w).alloc (Nat.le_refl _) (.cells (plC p) 29))
  go_enter Try.func13, Try.ntmps13
  go_upto_region 1 with (fail)
  generalize w.alloc (.cells (plC p) 29) = w0 at HA HB ⊢
  cases cs HA.out
  go_wp2_with (refine wpList_load_row rfl 29 _ rfl _ rfl _ (plC p) _ _ HA.out Try.underlying29 rfl (info_rp p) ?_)
  refine (rhas_yes p i w0 HP.out HH.out).mono ?_
  rintro x w1 ⟨rfl, hb⟩
  have HA1 := Lib.hid (HA.out.below hb HA.out.lt)
  have HB1 := Lib.hid (HB.out.trans (hb.mono HB.out.size))
  clear hb
  cases cs HA1.out
  go_wp2
  go_ret2
  exact ⟨rfl, HB1.out⟩
set_option maxRecDepth 100000 in
set_option maxHeartbeats 2000000 in
theorem rfar_e2 (p : Pl) (i port : Int) (w : World) (hp : Pw p) (hh : hasP p i) (d1 : decide (port < 0) = false) (d2 : decide (1 < port) = false) (d3 : (port == 1) = true) (m r : Int) (v : IntKind.i64.wrap (p.no - 1) = m) (d4 : (i == m) = false) (v2 : IntKind.i64.wrap (i + 1) = r) :
    Calls Try.prog 13 #[plV p, .int .i64 i, .int .i64 port] w fun x w' => x = .returned (.tuple #[.int .i64 r, .int .i64 0]) ∧ Below w.heap.size w w' := by
  have HH := Lib.hid hh
  clear hh
  have HP := Lib.hid hp
  clear hp
  have HA := Lib.hid (Blk.fresh w 29 (plC p))
  have HB := Lib.hid ((Below.refl w.heap.size w).alloc (Nat.le_refl _) (.cells (plC p) 29))
  go_enter Try.func13, Try.ntmps13
  go_upto_region 1 with (fail)
  generalize w.alloc (.cells (plC p) 29) = w0 at HA HB ⊢
  cases cs HA.out
  go_wp2_with (refine wpList_load_row rfl 29 _ rfl _ rfl _ (plC p) _ _ HA.out Try.underlying29 rfl (info_rp p) ?_)
  refine (rhas_yes p i w0 HP.out HH.out).mono ?_
  rintro x w1 ⟨rfl, hb⟩
  have HA1 := Lib.hid (HA.out.below hb HA.out.lt)
  have HB1 := Lib.hid (HB.out.trans (hb.mono HB.out.size))
  clear hb
  cases cs HA1.out
  go_wp2
  go_ret2
  exact ⟨rfl, HB1.out⟩
set_option maxRecDepth 100000 in
set_option maxHeartbeats 2000000 in
theorem rfar_w1 (p : Pl) (i port : Int) (w : World) (hp : Pw p) (hh : hasP p i) (d1 : decide (port < 0) = false) (d2 : decide (1 < port) = false) (d3 : (port == 1) = false) (r : Int) (v : IntKind.i64.wrap (p.no - 1) = r) (d4 : (i == 0) = true) :
    Calls Try.prog 13 #[plV p, .int .i64 i, .int .i64 port] w fun x w' => x = .returned (.tuple #[.int .i64 r, .int .i64 1]) ∧ Below w.heap.size w w' := by
  have HH := Lib.hid hh
  clear hh
  have HP := Lib.hid hp
  clear hp
  have HA := Lib.hid (Blk.fresh w 29 (plC p))
  have HB := Lib.hid ((Below.refl w.heap.size w).alloc (Nat.le_refl _) (.cells (plC p) 29))
  go_enter Try.func13, Try.ntmps13
  go_upto_region 1 with (fail)
  generalize w.alloc (.cells (plC p) 29) = w0 at HA HB ⊢
  cases cs HA.out
  go_wp2_with (refine wpList_load_row rfl 29 _ rfl _ rfl _ (plC p) _ _ HA.out Try.underlying29 rfl (info_rp p) ?_)
  refine (rhas_yes p i w0 HP.out HH.out).mono ?_
  rintro x w1 ⟨rfl, hb⟩
  have HA1 := Lib.hid (HA.out.below hb HA.out.lt)
  have HB1 := Lib.hid (HB.out.trans (hb.mono HB.out.size))
  clear hb
  cases cs HA1.out
  go_wp2
  go_ret2
  exact ⟨rfl, HB1.out⟩
set_option maxRecDepth 100000 in
set_option maxHeartbeats 2000000 in
theorem rfar_w2 (p : Pl) (i port : Int) (w : World) (hp : Pw p) (hh : hasP p i) (d1 : decide (port < 0) = false) (d2 : decide (1 < port) = false) (d3 : (port == 1) = false) (r : Int) (d4 : (i == 0) = false) (v : IntKind.i64.wrap (i - 1) = r) :
    Calls Try.prog 13 #[plV p, .int .i64 i, .int .i64 port] w fun x w' => x = .returned (.tuple #[.int .i64 r, .int .i64 1]) ∧ Below w.heap.size w w' := by
  have HH := Lib.hid hh
  clear hh
  have HP := Lib.hid hp
  clear hp
  have HA := Lib.hid (Blk.fresh w 29 (plC p))
  have HB := Lib.hid ((Below.refl w.heap.size w).alloc (Nat.le_refl _) (.cells (plC p) 29))
  go_enter Try.func13, Try.ntmps13
  go_upto_region 1 with (fail)
  generalize w.alloc (.cells (plC p) 29) = w0 at HA HB ⊢
  cases cs HA.out
  go_wp2_with (refine wpList_load_row rfl 29 _ rfl _ rfl _ (plC p) _ _ HA.out Try.underlying29 rfl (info_rp p) ?_)
  refine (rhas_yes p i w0 HP.out HH.out).mono ?_
  rintro x w1 ⟨rfl, hb⟩
  have HA1 := Lib.hid (HA.out.below hb HA.out.lt)
  have HB1 := Lib.hid (HB.out.trans (hb.mono HB.out.size))
  clear hb
  cases cs HA1.out
  go_wp2
  go_ret2
  exact ⟨rfl, HB1.out⟩
end Go.Proofs.Ytoiggajjbjcabaa.Pn
