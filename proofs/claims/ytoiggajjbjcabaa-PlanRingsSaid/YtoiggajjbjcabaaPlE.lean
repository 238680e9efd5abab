/-
  Plan: far ends, addresses, roles and ends over plain functions, the program's and the document's.
-/
import Derived.Test.YtoiggajjbjcabaaPlD
namespace Go.Proofs.Ytoiggajjbjcabaa.Pn
open Go.RowKit Go.Proofs.Ytoiggajjbjcabaa.Mm Go.Proofs.Ytoiggajjbjcabaa.Tg
set_option linter.unusedVariables false

def farR (p : Pl) (i port : Int) : Int × Int :=
  if hasP p i then (if port = 1 then ((if i = p.no - 1 then 0 else i + 1), 0) else if port = 0 then ((if i = 0 then p.no - 1 else i - 1), 1) else (-1, -1)) else (-1, -1)
theorem has_in {p : Pl} {i : Int} (h : hasP p i) : 3 ≤ p.no ∧ p.no ≤ 16 ∧ 0 ≤ i ∧ i < p.no ∧ 0 ≤ p.ow ∧ p.ow < p.no := by
  have hA := okA_of h.1
  unfold okA at hA
  obtain ⟨-, h1, h2⟩ := h
  omega
theorem has_own {p : Pl} {i : Int} (h : hasP p i) : hasP p p.ow := ⟨h.1, (has_in h).2.2.2.2.1, (has_in h).2.2.2.2.2⟩
theorem wrap_small {x : Int} (h1 : -1000 ≤ x) (h2 : x ≤ 1000) : IntKind.i64.wrap x = x := by rw [IntKind.wrap_i64]; omega
theorem far_at {n e : Int} (p : Pl) (i port : Int) (w : World) (hp : Pw p) (h : farR p i port = (n, e)) : Calls Try.prog 12 #[plV p, .int .i64 i, .int .i64 port] w fun x w' => x = .returned (.tuple #[.int .i64 n, .int .i64 e]) ∧ Below w.heap.size w w' := by
  unfold farR at h
  by_cases hh : hasP p i
  · have hi := has_in hh
    rw [if_pos hh] at h
    by_cases h1 : port = 1
    · rw [if_pos h1] at h
      cases h
      refine far_e p i port w hp hh (int_yes h1) (i + 1) _ (wrap_small (by omega) (by omega)) (by omega) ?_ ?_
      · by_cases hl : i = p.no - 1
        · rw [if_pos hl, hl, show p.no - 1 + 1 = p.no by omega, Int.tmod_self]
        · rw [if_neg hl, Int.tmod_eq_of_lt (by omega) (by omega)]
      · split <;> exact wrap_small (by omega) (by omega)
    · rw [if_neg h1] at h
      by_cases h0 : port = 0
      · rw [if_pos h0] at h
        cases h
        refine far_w p i port w hp hh (int_no h1) (int_yes h0) (i + p.no) (i + p.no - 1) _ (wrap_small (by omega) (by omega)) (wrap_small (by omega) (by omega)) (by omega) ?_ ?_
        · by_cases hl : i = 0
          · rw [if_pos hl, hl, show (0 : Int) + p.no - 1 = p.no - 1 by omega, Int.tmod_eq_of_lt (by omega) (by omega)]
          · rw [if_neg hl, show i + p.no - 1 = (i - 1) + p.no by omega, Int.tmod_eq_emod_of_nonneg (by omega), Int.add_emod_right, Int.emod_eq_of_lt (by omega) (by omega)]
        · split <;> exact wrap_small (by omega) (by omega)
      · rw [if_neg h0] at h
        cases h
        exact far_x p i port w hp hh (int_no h1) (int_no h0)
  · rw [if_neg hh] at h
    cases h
    exact far_no p i port w hp hh
theorem rfar_at {n e : Int} (p : Pl) (i port : Int) (w : World) (hp : Pw p) (h : farR p i port = (n, e)) : Calls Try.prog 13 #[plV p, .int .i64 i, .int .i64 port] w fun x w' => x = .returned (.tuple #[.int .i64 n, .int .i64 e]) ∧ Below w.heap.size w w' := by
  unfold farR at h
  by_cases hh : hasP p i
  · have hi := has_in hh
    have hm : IntKind.i64.wrap (p.no - 1) = p.no - 1 := wrap_small (by omega) (by omega)
    rw [if_pos hh] at h
    by_cases h1 : port = 1
    · rw [if_pos h1] at h
      have d1 : decide (port < 0) = false := decide_eq_false (by omega)
      have d2 : decide (1 < port) = false := decide_eq_false (by omega)
      by_cases hl : i = p.no - 1
      · rw [if_pos hl] at h
        cases h
        exact rfar_e1 p i port w hp hh d1 d2 (int_yes h1) _ hm (int_yes hl)
      · rw [if_neg hl] at h
        cases h
        exact rfar_e2 p i port w hp hh d1 d2 (int_yes h1) _ _ hm (int_no hl) (wrap_small (by omega) (by omega))
    · rw [if_neg h1] at h
      by_cases h0 : port = 0
      · rw [if_pos h0] at h
        have d1 : decide (port < 0) = false := decide_eq_false (by omega)
        have d2 : decide (1 < port) = false := decide_eq_false (by omega)
        by_cases hl : i = 0
        · rw [if_pos hl] at h
          cases h
          exact rfar_w1 p i port w hp hh d1 d2 (int_no h1) _ hm (int_yes hl)
        · rw [if_neg hl] at h
          cases h
          exact rfar_w2 p i port w hp hh d1 d2 (int_no h1) _ (int_no hl) (wrap_small (by omega) (by omega))
      · rw [if_neg h0] at h
        cases h
        by_cases hl : port < 0
        · exact rfar_lo p i port w hp hh (decide_eq_true hl)
        · exact rfar_hi p i port w hp hh (decide_eq_false hl) (decide_eq_true (by omega))
  · rw [if_neg hh] at h
    cases h
    exact rfar_no p i port w hp hh

/-- the address that begins at B -/
def addR (B : Int) (p : Pl) (i : Int) : Int := if hasP p i then B + i else 0
set_option maxRecDepth 100000 in
set_option maxHeartbeats 2000000 in
theorem node_no (p : Pl) (i : Int) (w : World) (hp : Pw p) (hh : ¬ hasP p i) :
    Calls Try.prog 14 #[plV p, .int .i64 i] w fun x w' => x = .returned (.int .u64 0) ∧ Below w.heap.size w w' := by
  have HH := Lib.hid hh
  clear hh
  have HP := Lib.hid hp
  clear hp
  have HA := Lib.hid (Blk.fresh w 24 (plC p))
  have HB := Lib.hid ((Below.refl w.heap.size w).alloc (Nat.le_refl _) (.cells (plC p) 24))
  go_enter Try.func14, Try.ntmps14
  go_upto_region 1 with (fail)
  generalize w.alloc (.cells (plC p) 24) = w0 at HA HB ⊢
  cases cs HA.out
  go_wp2_with (refine wpList_load_row rfl 24 _ rfl _ rfl _ (plC p) _ _ HA.out Try.underlying24 rfl (info_p p) ?_)
  refine (has_no p i w0 HP.out HH.out).mono ?_
  rintro x w1 ⟨rfl, hb⟩
  have HA1 := Lib.hid (HA.out.below hb HA.out.lt)
  have HB1 := Lib.hid (HB.out.trans (hb.mono HB.out.size))
  clear hb
  cases cs HA1.out
  go_wp2
  go_ret
  exact ⟨rfl, HB1.out⟩
set_option maxRecDepth 100000 in
set_option maxHeartbeats 2000000 in
theorem node_yes (p : Pl) (i a : Int) (w : World) (hp : Pw p) (hh : hasP p i) (v1 : IntKind.u64.wrap i = i) (v2 : IntKind.u64.wrap (2199023255553 + i) = a) :
    Calls Try.prog 14 #[plV p, .int .i64 i] w fun x w' => x = .returned (.int .u64 a) ∧ Below w.heap.size w w' := by
  have HH := Lib.hid hh
  clear hh
  have HP := Lib.hid hp
  clear hp
  have HA := Lib.hid (Blk.fresh w 24 (plC p))
  have HB := Lib.hid ((Below.refl w.heap.size w).alloc (Nat.le_refl _) (.cells (plC p) 24))
  go_enter Try.func14, Try.ntmps14
  go_upto_region 1 with (fail)
  generalize w.alloc (.cells (plC p) 24) = w0 at HA HB ⊢
  cases cs HA.out
  go_wp2_with (refine wpList_load_row rfl 24 _ rfl _ rfl _ (plC p) _ _ HA.out Try.underlying24 rfl (info_p p) ?_)
  refine (has_yes p i w0 HP.out HH.out).mono ?_
  rintro x w1 ⟨rfl, hb⟩
  have HA1 := Lib.hid (HA.out.below hb HA.out.lt)
  have HB1 := Lib.hid (HB.out.trans (hb.mono HB.out.size))
  clear hb
  cases cs HA1.out
  go_wp2
  go_ret
  exact ⟨rfl, HB1.out⟩
theorem node_at {a : Int} (p : Pl) (i : Int) (w : World) (hp : Pw p) (h : addR 2199023255553 p i = a) : Calls Try.prog 14 #[plV p, .int .i64 i] w fun x w' => x = .returned (.int .u64 a) ∧ Below w.heap.size w w' := by
  unfold addR at h
  by_cases hh : hasP p i
  · have hi := has_in hh
    rw [if_pos hh] at h
    exact node_yes p i a w hp hh (by rw [IntKind.wrap_u64]; omega) (by rw [IntKind.wrap_u64, ← h]; omega)
  · rw [if_neg hh] at h
    subst h
    exact node_no p i w hp hh
set_option maxRecDepth 100000 in
set_option maxHeartbeats 2000000 in
theorem host_no (p : Pl) (i : Int) (w : World) (hp : Pw p) (hh : ¬ hasP p i) :
    Calls Try.prog 16 #[plV p, .int .i64 i] w fun x w' => x = .returned (.int .u64 0) ∧ Below w.heap.size w w' := by
  have HH := Lib.hid hh
  clear hh
  have HP := Lib.hid hp
  clear hp
  have HA := Lib.hid (Blk.fresh w 24 (plC p))
  have HB := Lib.hid ((Below.refl w.heap.size w).alloc (Nat.le_refl _) (.cells (plC p) 24))
  go_enter Try.func16, Try.ntmps16
  go_upto_region 1 with (fail)
  generalize w.alloc (.cells (plC p) 24) = w0 at HA HB ⊢
  cases cs HA.out
  go_wp2_with (refine wpList_load_row rfl 24 _ rfl _ rfl _ (plC p) _ _ HA.out Try.underlying24 rfl (info_p p) ?_)
  refine (has_no p i w0 HP.out HH.out).mono ?_
  rintro x w1 ⟨rfl, hb⟩
  have HA1 := Lib.hid (HA.out.below hb HA.out.lt)
  have HB1 := Lib.hid (HB.out.trans (hb.mono HB.out.size))
  clear hb
  cases cs HA1.out
  go_wp2
  go_ret
  exact ⟨rfl, HB1.out⟩
set_option maxRecDepth 100000 in
set_option maxHeartbeats 2000000 in
theorem host_yes (p : Pl) (i a : Int) (w : World) (hp : Pw p) (hh : hasP p i) (v1 : IntKind.u64.wrap i = i) (v2 : IntKind.u64.wrap (6597069766657 + i) = a) :
    Calls Try.prog 16 #[plV p, .int .i64 i] w fun x w' => x = .returned (.int .u64 a) ∧ Below w.heap.size w w' := by
  have HH := Lib.hid hh
  clear hh
  have HP := Lib.hid hp
  clear hp
  have HA := Lib.hid (Blk.fresh w 24 (plC p))
  have HB := Lib.hid ((Below.refl w.heap.size w).alloc (Nat.le_refl _) (.cells (plC p) 24))
  go_enter Try.func16, Try.ntmps16
  go_upto_region 1 with (fail)
  generalize w.alloc (.cells (plC p) 24) = w0 at HA HB ⊢
  cases cs HA.out
  go_wp2_with (refine wpList_load_row rfl 24 _ rfl _ rfl _ (plC p) _ _ HA.out Try.underlying24 rfl (info_p p) ?_)
  refine (has_yes p i w0 HP.out HH.out).mono ?_
  rintro x w1 ⟨rfl, hb⟩
  have HA1 := Lib.hid (HA.out.below hb HA.out.lt)
  have HB1 := Lib.hid (HB.out.trans (hb.mono HB.out.size))
  clear hb
  cases cs HA1.out
  go_wp2
  go_ret
  exact ⟨rfl, HB1.out⟩
theorem host_at {a : Int} (p : Pl) (i : Int) (w : World) (hp : Pw p) (h : addR 6597069766657 p i = a) : Calls Try.prog 16 #[plV p, .int .i64 i] w fun x w' => x = .returned (.int .u64 a) ∧ Below w.heap.size w w' := by
  unfold addR at h
  by_cases hh : hasP p i
  · have hi := has_in hh
    rw [if_pos hh] at h
    exact host_yes p i a w hp hh (by rw [IntKind.wrap_u64]; omega) (by rw [IntKind.wrap_u64, ← h]; omega)
  · rw [if_neg hh] at h
    subst h
    exact host_no p i w hp hh
set_option maxRecDepth 100000 in
set_option maxHeartbeats 2000000 in
theorem rnode_no (p : Pl) (i : Int) (w : World) (hp : Pw p) (hh : ¬ hasP p i) :
    Calls Try.prog 15 #[plV p, .int .i64 i] w fun x w' => x = .returned (.int .u64 0) ∧ Below w.heap.size w w' := by
  have HH := Lib.hid hh
  clear hh
  have HP := Lib.hid hp
  clear hp
  have HA := Lib.hid (Blk.fresh w 29 (plC p))
  have HB := Lib.hid ((Below.refl w.heap.size w).alloc (Nat.le_refl _) (.cells (plC p) 29))
  go_enter Try.func15, Try.ntmps15
  go_upto_region 1 with (fail)
  generalize w.alloc (.cells (plC p) 29) = w0 at HA HB ⊢
  cases cs HA.out
  go_wp2_with (refine wpList_load_row rfl 29 _ rfl _ rfl _ (plC p) _ _ HA.out Try.underlying29 rfl (info_rp p) ?_)
  refine (rhas_no p i w0 HP.out HH.out).mono ?_
  rintro x w1 ⟨rfl, hb⟩
  have HA1 := Lib.hid (HA.out.below hb HA.out.lt)
  have HB1 := Lib.hid (HB.out.trans (hb.mono HB.out.size))
  clear hb
  cases cs HA1.out
  go_wp2
  go_ret
  exact ⟨rfl, HB1.out⟩
set_option maxRecDepth 100000 in
set_option maxHeartbeats 2000000 in
theorem rnode_yes (p : Pl) (i a : Int) (w : World) (hp : Pw p) (hh : hasP p i) (v1 : IntKind.u64.wrap i = i) (v2 : IntKind.u64.wrap (2199023255553 + i) = a) :
    Calls Try.prog 15 #[plV p, .int .i64 i] w fun x w' => x = .returned (.int .u64 a) ∧ Below w.heap.size w w' := by
  have HH := Lib.hid hh
  clear hh
  have HP := Lib.hid hp
  clear hp
  have HA := Lib.hid (Blk.fresh w 29 (plC p))
  have HB := Lib.hid ((Below.refl w.heap.size w).alloc (Nat.le_refl _) (.cells (plC p) 29))
  go_enter Try.func15, Try.ntmps15
  go_upto_region 1 with (fail)
  generalize w.alloc (.cells (plC p) 29) = w0 at HA HB ⊢
  cases cs HA.out
  go_wp2_with (refine wpList_load_row rfl 29 _ rfl _ rfl _ (plC p) _ _ HA.out Try.underlying29 rfl (info_rp p) ?_)
  refine (rhas_yes p i w0 HP.out HH.out).mono ?_
  rintro x w1 ⟨rfl, hb⟩
  have HA1 := Lib.hid (HA.out.below hb HA.out.lt)
  have HB1 := Lib.hid (HB.out.trans (hb.mono HB.out.size))
  clear hb
  cases cs HA1.out
  go_wp2
  go_ret
  exact ⟨rfl, HB1.out⟩
theorem rnode_at {a : Int} (p : Pl) (i : Int) (w : World) (hp : Pw p) (h : addR 2199023255553 p i = a) : Calls Try.prog 15 #[plV p, .int .i64 i] w fun x w' => x = .returned (.int .u64 a) ∧ Below w.heap.size w w' := by
  unfold addR at h
  by_cases hh : hasP p i
  · have hi := has_in hh
    rw [if_pos hh] at h
    exact rnode_yes p i a w hp hh (by rw [IntKind.wrap_u64]; omega) (by rw [IntKind.wrap_u64, ← h]; omega)
  · rw [if_neg hh] at h
    subst h
    exact rnode_no p i w hp hh
set_option maxRecDepth 100000 in
set_option maxHeartbeats 2000000 in
theorem rhost_no (p : Pl) (i : Int) (w : World) (hp : Pw p) (hh : ¬ hasP p i) :
    Calls Try.prog 17 #[plV p, .int .i64 i] w fun x w' => x = .returned (.int .u64 0) ∧ Below w.heap.size w w' := by
  have HH := Lib.hid hh
  clear hh
  have HP := Lib.hid hp
  clear hp
  have HA := Lib.hid (Blk.fresh w 29 (plC p))
  have HB := Lib.hid ((Below.refl w.heap.size w).alloc (Nat.le_refl _) (.cells (plC p) 29))
  go_enter Try.func17, Try.ntmps17
  go_upto_region 1 with (fail)
  generalize w.alloc (.cells (plC p) 29) = w0 at HA HB ⊢
  cases cs HA.out
  go_wp2_with (refine wpList_load_row rfl 29 _ rfl _ rfl _ (plC p) _ _ HA.out Try.underlying29 rfl (info_rp p) ?_)
  refine (rhas_no p i w0 HP.out HH.out).mono ?_
  rintro x w1 ⟨rfl, hb⟩
  have HA1 := Lib.hid (HA.out.below hb HA.out.lt)
  have HB1 := Lib.hid (HB.out.trans (hb.mono HB.out.size))
  clear hb
  cases cs HA1.out
  go_wp2
  go_ret
  exact ⟨rfl, HB1.out⟩
set_option maxRecDepth 100000 in
set_option maxHeartbeats 2000000 in
theorem rhost_yes (p : Pl) (i a : Int) (w : World) (hp : Pw p) (hh : hasP p i) (v1 : IntKind.u64.wrap i = i) (v2 : IntKind.u64.wrap (6597069766657 + i) = a) :
    Calls Try.prog 17 #[plV p, .int .i64 i] w fun x w' => x = .returned (.int .u64 a) ∧ Below w.heap.size w w' := by
  have HH := Lib.hid hh
  clear hh
  have HP := Lib.hid hp
  clear hp
  have HA := Lib.hid (Blk.fresh w 29 (plC p))
  have HB := Lib.hid ((Below.refl w.heap.size w).alloc (Nat.le_refl _) (.cells (plC p) 29))
  go_enter Try.func17, Try.ntmps17
  go_upto_region 1 with (fail)
  generalize w.alloc (.cells (plC p) 29) = w0 at HA HB ⊢
  cases cs HA.out
  go_wp2_with (refine wpList_load_row rfl 29 _ rfl _ rfl _ (plC p) _ _ HA.out Try.underlying29 rfl (info_rp p) ?_)
  refine (rhas_yes p i w0 HP.out HH.out).mono ?_
  rintro x w1 ⟨rfl, hb⟩
  have HA1 := Lib.hid (HA.out.below hb HA.out.lt)
  have HB1 := Lib.hid (HB.out.trans (hb.mono HB.out.size))
  clear hb
  cases cs HA1.out
  go_wp2
  go_ret
  exact ⟨rfl, HB1.out⟩
theorem rhost_at {a : Int} (p : Pl) (i : Int) (w : World) (hp : Pw p) (h : addR 6597069766657 p i = a) : Calls Try.prog 17 #[plV p, .int .i64 i] w fun x w' => x = .returned (.int .u64 a) ∧ Below w.heap.size w w' := by
  unfold addR at h
  by_cases hh : hasP p i
  · have hi := has_in hh
    rw [if_pos hh] at h
    exact rhost_yes p i a w hp hh (by rw [IntKind.wrap_u64]; omega) (by rw [IntKind.wrap_u64, ← h]; omega)
  · rw [if_neg hh] at h
    subst h
    exact rhost_no p i w hp hh
def roleR (p : Pl) (i : Int) : Int × Int := if hasP p i then (if i = p.ow then (1, 1) else if i = (farR p p.ow 1).1 then (2, 0) else (0, -1)) else (0, -1)
theorem far_own {p : Pl} {i : Int} (h : hasP p i) : farR p p.ow 1 = ((farR p p.ow 1).1, 0) := by
  unfold farR
  rw [if_pos (has_own h), if_pos rfl]
set_option maxRecDepth 100000 in
set_option maxHeartbeats 2000000 in
theorem role_no (p : Pl) (i : Int) (w : World) (hp : Pw p) (hh : ¬ hasP p i) :
    Calls Try.prog 10 #[plV p, .int .i64 i] w fun x w' => x = .returned (.tuple #[.int .i64 0, .int .i64 (-1)]) ∧ Below w.heap.size w w' := by
  have HP := Lib.hid hp
  clear hp
  have HH := Lib.hid hh
  clear hh
  have HA := Lib.hid (Blk.fresh w 24 (plC p))
  have HB := Lib.hid ((Below.refl w.heap.size w).alloc (Nat.le_refl _) (.cells (plC p) 24))
  go_enter Try.func10, Try.ntmps10
  go_upto_region 1 with (fail)
  generalize w.alloc (.cells (plC p) 24) = w0 at HA HB ⊢
  cases cs HA.out
  go_wp2_with (refine wpList_load_row rfl 24 _ rfl _ rfl _ (plC p) _ _ HA.out Try.underlying24 rfl (info_p p) ?_)
  refine (has_no p i w0 HP.out HH.out).mono ?_
  rintro x w1 ⟨rfl, hb⟩
  have HA1 := Lib.hid (HA.out.below hb HA.out.lt)
  have HB1 := Lib.hid (HB.out.trans (hb.mono HB.out.size))
  clear hb
  cases cs HA1.out
  go_wp2
  go_ret2
  exact ⟨rfl, HB1.out⟩
set_option maxRecDepth 100000 in
set_option maxHeartbeats 2000000 in
theorem role_o (p : Pl) (i : Int) (w : World) (hp : Pw p) (hh : hasP p i) (n : Int) (hf : farR p p.ow 1 = (n, 0)) (d1 : (i == p.ow) = true) :
    Calls Try.prog 10 #[plV p, .int .i64 i] w fun x w' => x = .returned (.tuple #[.int .i64 1, .int .i64 1]) ∧ Below w.heap.size w w' := by
  have HP := Lib.hid hp
  clear hp
  have HH := Lib.hid hh
  clear hh
  have HF := Lib.hid hf
  clear hf
  have HA := Lib.hid (Blk.fresh w 24 (plC p))
  have HB := Lib.hid ((Below.refl w.heap.size w).alloc (Nat.le_refl _) (.cells (plC p) 24))
  go_enter Try.func10, Try.ntmps10
  go_upto_region 1 with (fail)
  generalize w.alloc (.cells (plC p) 24) = w0 at HA HB ⊢
  cases cs HA.out
  go_wp2_with (refine wpList_load_row rfl 24 _ rfl _ rfl _ (plC p) _ _ HA.out Try.underlying24 rfl (info_p p) ?_)
  refine (has_yes p i w0 HP.out HH.out).mono ?_
  rintro x w1 ⟨rfl, hb⟩
  have HA1 := Lib.hid (HA.out.below hb HA.out.lt)
  have HB1 := Lib.hid (HB.out.trans (hb.mono HB.out.size))
  clear hb
  cases cs HA1.out
  go_wp2_with (refine wpList_load_row rfl 24 _ rfl _ rfl _ (plC p) _ _ HA1.out Try.underlying24 rfl (info_p p) ?_)
  refine (far_at p p.ow 1 w1 HP.out HF.out).mono ?_
  rintro x w2 ⟨rfl, hb⟩
  have HA2 := Lib.hid (HA1.out.below hb HA1.out.lt)
  have HB2 := Lib.hid (HB1.out.trans (hb.mono HB1.out.size))
  clear hb
  cases cs HA2.out
  go_wp2
  go_ret2
  exact ⟨rfl, HB2.out⟩
set_option maxRecDepth 100000 in
set_option maxHeartbeats 2000000 in
theorem role_n (p : Pl) (i : Int) (w : World) (hp : Pw p) (hh : hasP p i) (n : Int) (hf : farR p p.ow 1 = (n, 0)) (d1 : (i == p.ow) = false) (d2 : (i == n) = true) :
    Calls Try.prog 10 #[plV p, .int .i64 i] w fun x w' => x = .returned (.tuple #[.int .i64 2, .int .i64 0]) ∧ Below w.heap.size w w' := by
  have HP := Lib.hid hp
  clear hp
  have HH := Lib.hid hh
  clear hh
  have HF := Lib.hid hf
  clear hf
  have HA := Lib.hid (Blk.fresh w 24 (plC p))
  have HB := Lib.hid ((Below.refl w.heap.size w).alloc (Nat.le_refl _) (.cells (plC p) 24))
  go_enter Try.func10, Try.ntmps10
  go_upto_region 1 with (fail)
  generalize w.alloc (.cells (plC p) 24) = w0 at HA HB ⊢
  cases cs HA.out
  go_wp2_with (refine wpList_load_row rfl 24 _ rfl _ rfl _ (plC p) _ _ HA.out Try.underlying24 rfl (info_p p) ?_)
  refine (has_yes p i w0 HP.out HH.out).mono ?_
  rintro x w1 ⟨rfl, hb⟩
  have HA1 := Lib.hid (HA.out.below hb HA.out.lt)
  have HB1 := Lib.hid (HB.out.trans (hb.mono HB.out.size))
  clear hb
  cases cs HA1.out
  go_wp2_with (refine wpList_load_row rfl 24 _ rfl _ rfl _ (plC p) _ _ HA1.out Try.underlying24 rfl (info_p p) ?_)
  refine (far_at p p.ow 1 w1 HP.out HF.out).mono ?_
  rintro x w2 ⟨rfl, hb⟩
  have HA2 := Lib.hid (HA1.out.below hb HA1.out.lt)
  have HB2 := Lib.hid (HB1.out.trans (hb.mono HB1.out.size))
  clear hb
  cases cs HA2.out
  go_wp2
  go_ret2
  exact ⟨rfl, HB2.out⟩
set_option maxRecDepth 100000 in
set_option maxHeartbeats 2000000 in
theorem role_x (p : Pl) (i : Int) (w : World) (hp : Pw p) (hh : hasP p i) (n : Int) (hf : farR p p.ow 1 = (n, 0)) (d1 : (i == p.ow) = false) (d2 : (i == n) = false) :
    Calls Try.prog 10 #[plV p, .int .i64 i] w fun x w' => x = .returned (.tuple #[.int .i64 0, .int .i64 (-1)]) ∧ Below w.heap.size w w' := by
  have HP := Lib.hid hp
  clear hp
  have HH := Lib.hid hh
  clear hh
  have HF := Lib.hid hf
  clear hf
  have HA := Lib.hid (Blk.fresh w 24 (plC p))
  have HB := Lib.hid ((Below.refl w.heap.size w).alloc (Nat.le_refl _) (.cells (plC p) 24))
  go_enter Try.func10, Try.ntmps10
  go_upto_region 1 with (fail)
  generalize w.alloc (.cells (plC p) 24) = w0 at HA HB ⊢
  cases cs HA.out
  go_wp2_with (refine wpList_load_row rfl 24 _ rfl _ rfl _ (plC p) _ _ HA.out Try.underlying24 rfl (info_p p) ?_)
  refine (has_yes p i w0 HP.out HH.out).mono ?_
  rintro x w1 ⟨rfl, hb⟩
  have HA1 := Lib.hid (HA.out.below hb HA.out.lt)
  have HB1 := Lib.hid (HB.out.trans (hb.mono HB.out.size))
  clear hb
  cases cs HA1.out
  go_wp2_with (refine wpList_load_row rfl 24 _ rfl _ rfl _ (plC p) _ _ HA1.out Try.underlying24 rfl (info_p p) ?_)
  refine (far_at p p.ow 1 w1 HP.out HF.out).mono ?_
  rintro x w2 ⟨rfl, hb⟩
  have HA2 := Lib.hid (HA1.out.below hb HA1.out.lt)
  have HB2 := Lib.hid (HB1.out.trans (hb.mono HB1.out.size))
  clear hb
  cases cs HA2.out
  go_wp2
  go_ret2
  exact ⟨rfl, HB2.out⟩
set_option maxRecDepth 100000 in
set_option maxHeartbeats 2000000 in
theorem rrole_no (p : Pl) (i : Int) (w : World) (hp : Pw p) (hh : ¬ hasP p i) (n e : Int) (hf : farR p p.ow 1 = (n, e)) :
    Calls Try.prog 11 #[plV p, .int .i64 i] w fun x w' => x = .returned (.tuple #[.int .i64 0, .int .i64 (-1)]) ∧ Below w.heap.size w w' := by
  have HP := Lib.hid hp
  clear hp
  have HH := Lib.hid hh
  clear hh
  have HF := Lib.hid hf
  clear hf
  have HA := Lib.hid (Blk.fresh w 29 (plC p))
  have HB := Lib.hid ((Below.refl w.heap.size w).alloc (Nat.le_refl _) (.cells (plC p) 29))
  go_enter Try.func11, Try.ntmps11
  go_upto_region 1 with (fail)
  generalize w.alloc (.cells (plC p) 29) = w0 at HA HB ⊢
  cases cs HA.out
  go_wp2_with (refine wpList_load_row rfl 29 _ rfl _ rfl _ (plC p) _ _ HA.out Try.underlying29 rfl (info_rp p) ?_)
  refine (rhas_no p i w0 HP.out HH.out).mono ?_
  rintro x w1 ⟨rfl, hb⟩
  have HA1 := Lib.hid (HA.out.below hb HA.out.lt)
  have HB1 := Lib.hid (HB.out.trans (hb.mono HB.out.size))
  clear hb
  cases cs HA1.out
  go_wp2_with (refine wpList_load_row rfl 29 _ rfl _ rfl _ (plC p) _ _ HA1.out Try.underlying29 rfl (info_rp p) ?_)
  refine (rfar_at p p.ow 1 w1 HP.out HF.out).mono ?_
  rintro x w2 ⟨rfl, hb⟩
  have HA2 := Lib.hid (HA1.out.below hb HA1.out.lt)
  have HB2 := Lib.hid (HB1.out.trans (hb.mono HB1.out.size))
  clear hb
  cases cs HA2.out
  go_wp2_with (refine wpList_load_row rfl 29 _ rfl _ rfl _ (plC p) _ _ HA2.out Try.underlying29 rfl (info_rp p) ?_)
  refine (rhas_no p i w2 HP.out HH.out).mono ?_
  rintro x w3 ⟨rfl, hb⟩
  have HA3 := Lib.hid (HA2.out.below hb HA2.out.lt)
  have HB3 := Lib.hid (HB2.out.trans (hb.mono HB2.out.size))
  clear hb
  cases cs HA3.out
  go_wp2
  go_ret2
  exact ⟨rfl, HB3.out⟩
set_option maxRecDepth 100000 in
set_option maxHeartbeats 2000000 in
theorem rrole_o (p : Pl) (i : Int) (w : World) (hp : Pw p) (hh : hasP p i) (d1 : (i == p.ow) = true) :
    Calls Try.prog 11 #[plV p, .int .i64 i] w fun x w' => x = .returned (.tuple #[.int .i64 1, .int .i64 1]) ∧ Below w.heap.size w w' := by
  have HP := Lib.hid hp
  clear hp
  have HH := Lib.hid hh
  clear hh
  have HA := Lib.hid (Blk.fresh w 29 (plC p))
  have HB := Lib.hid ((Below.refl w.heap.size w).alloc (Nat.le_refl _) (.cells (plC p) 29))
  go_enter Try.func11, Try.ntmps11
  go_upto_region 1 with (fail)
  generalize w.alloc (.cells (plC p) 29) = w0 at HA HB ⊢
  cases cs HA.out
  go_wp2_with (refine wpList_load_row rfl 29 _ rfl _ rfl _ (plC p) _ _ HA.out Try.underlying29 rfl (info_rp p) ?_)
  refine (rhas_yes p i w0 HP.out HH.out).mono ?_
  rintro x w1 ⟨rfl, hb⟩
  have HA1 := Lib.hid (HA.out.below hb HA.out.lt)
  have HB1 := Lib.hid (HB.out.trans (hb.mono HB.out.size))
  clear hb
  cases cs HA1.out
  go_wp2
  go_ret2
  exact ⟨rfl, HB1.out⟩
set_option maxRecDepth 100000 in
set_option maxHeartbeats 2000000 in
theorem rrole_n (p : Pl) (i : Int) (w : World) (hp : Pw p) (hh : hasP p i) (n : Int) (hf : farR p p.ow 1 = (n, 0)) (d1 : (i == p.ow) = false) (d2 : (i == n) = true) :
    Calls Try.prog 11 #[plV p, .int .i64 i] w fun x w' => x = .returned (.tuple #[.int .i64 2, .int .i64 0]) ∧ Below w.heap.size w w' := by
  have HP := Lib.hid hp
  clear hp
  have HH := Lib.hid hh
  clear hh
  have HF := Lib.hid hf
  clear hf
  have HA := Lib.hid (Blk.fresh w 29 (plC p))
  have HB := Lib.hid ((Below.refl w.heap.size w).alloc (Nat.le_refl _) (.cells (plC p) 29))
  go_enter Try.func11, Try.ntmps11
  go_upto_region 1 with (fail)
  generalize w.alloc (.cells (plC p) 29) = w0 at HA HB ⊢
  cases cs HA.out
  go_wp2_with (refine wpList_load_row rfl 29 _ rfl _ rfl _ (plC p) _ _ HA.out Try.underlying29 rfl (info_rp p) ?_)
  refine (rhas_yes p i w0 HP.out HH.out).mono ?_
  rintro x w1 ⟨rfl, hb⟩
  have HA1 := Lib.hid (HA.out.below hb HA.out.lt)
  have HB1 := Lib.hid (HB.out.trans (hb.mono HB.out.size))
  clear hb
  cases cs HA1.out
  go_wp2_with (refine wpList_load_row rfl 29 _ rfl _ rfl _ (plC p) _ _ HA1.out Try.underlying29 rfl (info_rp p) ?_)
  refine (rfar_at p p.ow 1 w1 HP.out HF.out).mono ?_
  rintro x w2 ⟨rfl, hb⟩
  have HA2 := Lib.hid (HA1.out.below hb HA1.out.lt)
  have HB2 := Lib.hid (HB1.out.trans (hb.mono HB1.out.size))
  clear hb
  cases cs HA2.out
  go_wp2_with (refine wpList_load_row rfl 29 _ rfl _ rfl _ (plC p) _ _ HA2.out Try.underlying29 rfl (info_rp p) ?_)
  refine (rhas_yes p i w2 HP.out HH.out).mono ?_
  rintro x w3 ⟨rfl, hb⟩
  have HA3 := Lib.hid (HA2.out.below hb HA2.out.lt)
  have HB3 := Lib.hid (HB2.out.trans (hb.mono HB2.out.size))
  clear hb
  cases cs HA3.out
  go_wp2
  go_ret2
  exact ⟨rfl, HB3.out⟩
set_option maxRecDepth 100000 in
set_option maxHeartbeats 2000000 in
theorem rrole_x (p : Pl) (i : Int) (w : World) (hp : Pw p) (hh : hasP p i) (n : Int) (hf : farR p p.ow 1 = (n, 0)) (d1 : (i == p.ow) = false) (d2 : (i == n) = false) :
    Calls Try.prog 11 #[plV p, .int .i64 i] w fun x w' => x = .returned (.tuple #[.int .i64 0, .int .i64 (-1)]) ∧ Below w.heap.size w w' := by
  have HP := Lib.hid hp
  clear hp
  have HH := Lib.hid hh
  clear hh
  have HF := Lib.hid hf
  clear hf
  have HA := Lib.hid (Blk.fresh w 29 (plC p))
  have HB := Lib.hid ((Below.refl w.heap.size w).alloc (Nat.le_refl _) (.cells (plC p) 29))
  go_enter Try.func11, Try.ntmps11
  go_upto_region 1 with (fail)
  generalize w.alloc (.cells (plC p) 29) = w0 at HA HB ⊢
  cases cs HA.out
  go_wp2_with (refine wpList_load_row rfl 29 _ rfl _ rfl _ (plC p) _ _ HA.out Try.underlying29 rfl (info_rp p) ?_)
  refine (rhas_yes p i w0 HP.out HH.out).mono ?_
  rintro x w1 ⟨rfl, hb⟩
  have HA1 := Lib.hid (HA.out.below hb HA.out.lt)
  have HB1 := Lib.hid (HB.out.trans (hb.mono HB.out.size))
  clear hb
  cases cs HA1.out
  go_wp2_with (refine wpList_load_row rfl 29 _ rfl _ rfl _ (plC p) _ _ HA1.out Try.underlying29 rfl (info_rp p) ?_)
  refine (rfar_at p p.ow 1 w1 HP.out HF.out).mono ?_
  rintro x w2 ⟨rfl, hb⟩
  have HA2 := Lib.hid (HA1.out.below hb HA1.out.lt)
  have HB2 := Lib.hid (HB1.out.trans (hb.mono HB1.out.size))
  clear hb
  cases cs HA2.out
  go_wp2_with (refine wpList_load_row rfl 29 _ rfl _ rfl _ (plC p) _ _ HA2.out Try.underlying29 rfl (info_rp p) ?_)
  refine (rhas_yes p i w2 HP.out HH.out).mono ?_
  rintro x w3 ⟨rfl, hb⟩
  have HA3 := Lib.hid (HA2.out.below hb HA2.out.lt)
  have HB3 := Lib.hid (HB2.out.trans (hb.mono HB2.out.size))
  clear hb
  cases cs HA3.out
  go_wp2
  go_ret2
  exact ⟨rfl, HB3.out⟩
theorem role_at {n e : Int} (p : Pl) (i : Int) (w : World) (hp : Pw p) (h : roleR p i = (n, e)) : Calls Try.prog 10 #[plV p, .int .i64 i] w fun x w' => x = .returned (.tuple #[.int .i64 n, .int .i64 e]) ∧ Below w.heap.size w w' := by
  unfold roleR at h
  by_cases hh : hasP p i
  · rw [if_pos hh] at h
    by_cases h1 : i = p.ow
    · rw [if_pos h1] at h
      cases h
      exact role_o p i w hp hh _ (far_own hh) (int_yes h1)
    · rw [if_neg h1] at h
      by_cases h2 : i = (farR p p.ow 1).1
      · rw [if_pos h2] at h
        cases h
        exact role_n p i w hp hh _ (far_own hh) (int_no h1) (int_yes h2)
      · rw [if_neg h2] at h
        cases h
        exact role_x p i w hp hh _ (far_own hh) (int_no h1) (int_no h2)
  · rw [if_neg hh] at h
    cases h
    exact role_no p i w hp hh
theorem rrole_at {n e : Int} (p : Pl) (i : Int) (w : World) (hp : Pw p) (h : roleR p i = (n, e)) : Calls Try.prog 11 #[plV p, .int .i64 i] w fun x w' => x = .returned (.tuple #[.int .i64 n, .int .i64 e]) ∧ Below w.heap.size w w' := by
  unfold roleR at h
  by_cases hh : hasP p i
  · rw [if_pos hh] at h
    by_cases h1 : i = p.ow
    · rw [if_pos h1] at h
      cases h
      exact rrole_o p i w hp hh (int_yes h1)
    · rw [if_neg h1] at h
      by_cases h2 : i = (farR p p.ow 1).1
      · rw [if_pos h2] at h
        cases h
        exact rrole_n p i w hp hh _ (far_own hh) (int_no h1) (int_yes h2)
      · rw [if_neg h2] at h
        cases h
        exact rrole_x p i w hp hh _ (far_own hh) (int_no h1) (int_no h2)
  · rw [if_neg hh] at h
    cases h
    exact rrole_no p i w hp hh _ _ (Prod.ext rfl rfl : farR p p.ow 1 = ((farR p p.ow 1).1, (farR p p.ow 1).2))
def endR (p : Pl) (i port : Int) : Int := if hasP p i then (if port = 0 ∨ port = 1 then 2 * i + port + 1 else 0) else 0
theorem ring_yes (port : Int) (w : World) (h : port = 0 ∨ port = 1) : Calls Try.prog 31 #[.int .i64 port] w fun e w' => e = .returned (.bool true) ∧ w = w' := by
  by_cases h0 : port = 0
  · have d0 := int_yes h0
    clear h h0
    go_enter Try.func31, Try.ntmps31
    go_wp2
    go_ret
    exact ⟨rfl, rfl⟩
  · have d0 := int_no h0
    have d1 := int_yes (show port = 1 by omega)
    clear h h0
    go_enter Try.func31, Try.ntmps31
    go_wp2
    go_ret
    exact ⟨rfl, rfl⟩
theorem ring_no (port : Int) (w : World) (h : ¬ (port = 0 ∨ port = 1)) : Calls Try.prog 31 #[.int .i64 port] w fun e w' => e = .returned (.bool false) ∧ w = w' := by
  have d0 := int_no (show ¬ port = 0 by omega)
  have d1 := int_no (show ¬ port = 1 by omega)
  clear h
  go_enter Try.func31, Try.ntmps31
  go_wp2
  go_ret
  exact ⟨rfl, rfl⟩
set_option maxRecDepth 100000 in
set_option maxHeartbeats 2000000 in
theorem end_no (p : Pl) (i port : Int) (w : World) (hp : Pw p) (hh : ¬ hasP p i)  :
    Calls Try.prog 18 #[plV p, .int .i64 i, .int .i64 port] w fun x w' => x = .returned (.int .u16 0) ∧ Below w.heap.size w w' := by
  have HH := Lib.hid hh
  clear hh
  have HP := Lib.hid hp
  clear hp
  have HA := Lib.hid (Blk.fresh w 24 (plC p))
  have HB := Lib.hid ((Below.refl w.heap.size w).alloc (Nat.le_refl _) (.cells (plC p) 24))
  go_enter Try.func18, Try.ntmps18
  go_upto_region 1 with (fail)
  generalize w.alloc (.cells (plC p) 24) = w0 at HA HB ⊢
  cases cs HA.out
  go_wp2_with (refine wpList_load_row rfl 24 _ rfl _ rfl _ (plC p) _ _ HA.out Try.underlying24 rfl (info_p p) ?_)
  refine (has_no p i w0 HP.out HH.out).mono ?_
  rintro x w1 ⟨rfl, hb⟩
  have HA1 := Lib.hid (HA.out.below hb HA.out.lt)
  have HB1 := Lib.hid (HB.out.trans (hb.mono HB.out.size))
  clear hb
  cases cs HA1.out
  go_wp2
  go_ret
  exact ⟨rfl, HB1.out⟩
set_option maxRecDepth 100000 in
set_option maxHeartbeats 2000000 in
theorem end_x (p : Pl) (i port : Int) (w : World) (hp : Pw p) (hh : hasP p i) (hr : ¬ (port = 0 ∨ port = 1)) :
    Calls Try.prog 18 #[plV p, .int .i64 i, .int .i64 port] w fun x w' => x = .returned (.int .u16 0) ∧ Below w.heap.size w w' := by
  have HH := Lib.hid hh
  clear hh
  have HP := Lib.hid hp
  clear hp
  have HR := Lib.hid hr
  clear hr
  have HA := Lib.hid (Blk.fresh w 24 (plC p))
  have HB := Lib.hid ((Below.refl w.heap.size w).alloc (Nat.le_refl _) (.cells (plC p) 24))
  go_enter Try.func18, Try.ntmps18
  go_upto_region 1 with (fail)
  generalize w.alloc (.cells (plC p) 24) = w0 at HA HB ⊢
  cases cs HA.out
  go_wp2_with (refine wpList_load_row rfl 24 _ rfl _ rfl _ (plC p) _ _ HA.out Try.underlying24 rfl (info_p p) ?_)
  refine (has_yes p i w0 HP.out HH.out).mono ?_
  rintro x w1 ⟨rfl, hb⟩
  have HA1 := Lib.hid (HA.out.below hb HA.out.lt)
  have HB1 := Lib.hid (HB.out.trans (hb.mono HB.out.size))
  clear hb
  cases cs HA1.out
  go_wp2_with fail
  refine (ring_no port w1 HR.out).mono ?_
  rintro x wr ⟨rfl, rfl⟩
  go_wp2
  go_ret
  exact ⟨rfl, HB1.out⟩
set_option maxRecDepth 100000 in
set_option maxHeartbeats 2000000 in
theorem end_y (p : Pl) (i port : Int) (w : World) (hp : Pw p) (hh : hasP p i) (hr : port = 0 ∨ port = 1) (a b c d : Int) (v1 : IntKind.i64.wrap (2 * i) = a) (v2 : IntKind.i64.wrap (a + port) = b) (v3 : IntKind.i64.wrap (b + 1) = c) (v4 : IntKind.u16.wrap c = d) :
    Calls Try.prog 18 #[plV p, .int .i64 i, .int .i64 port] w fun x w' => x = .returned (.int .u16 d) ∧ Below w.heap.size w w' := by
  have HH := Lib.hid hh
  clear hh
  have HP := Lib.hid hp
  clear hp
  have HR := Lib.hid hr
  clear hr
  have HA := Lib.hid (Blk.fresh w 24 (plC p))
  have HB := Lib.hid ((Below.refl w.heap.size w).alloc (Nat.le_refl _) (.cells (plC p) 24))
  go_enter Try.func18, Try.ntmps18
  go_upto_region 1 with (fail)
  generalize w.alloc (.cells (plC p) 24) = w0 at HA HB ⊢
  cases cs HA.out
  go_wp2_with (refine wpList_load_row rfl 24 _ rfl _ rfl _ (plC p) _ _ HA.out Try.underlying24 rfl (info_p p) ?_)
  refine (has_yes p i w0 HP.out HH.out).mono ?_
  rintro x w1 ⟨rfl, hb⟩
  have HA1 := Lib.hid (HA.out.below hb HA.out.lt)
  have HB1 := Lib.hid (HB.out.trans (hb.mono HB.out.size))
  clear hb
  cases cs HA1.out
  go_wp2_with fail
  refine (ring_yes port w1 HR.out).mono ?_
  rintro x wr ⟨rfl, rfl⟩
  go_wp2
  go_ret
  exact ⟨rfl, HB1.out⟩
set_option maxRecDepth 100000 in
set_option maxHeartbeats 2000000 in
theorem rend_no (p : Pl) (i port : Int) (w : World) (hp : Pw p) (hh : ¬ hasP p i)  :
    Calls Try.prog 19 #[plV p, .int .i64 i, .int .i64 port] w fun x w' => x = .returned (.int .u16 0) ∧ Below w.heap.size w w' := by
  have HH := Lib.hid hh
  clear hh
  have HP := Lib.hid hp
  clear hp
  have HA := Lib.hid (Blk.fresh w 29 (plC p))
  have HB := Lib.hid ((Below.refl w.heap.size w).alloc (Nat.le_refl _) (.cells (plC p) 29))
  go_enter Try.func19, Try.ntmps19
  go_upto_region 1 with (fail)
  generalize w.alloc (.cells (plC p) 29) = w0 at HA HB ⊢
  cases cs HA.out
  go_wp2_with (refine wpList_load_row rfl 29 _ rfl _ rfl _ (plC p) _ _ HA.out Try.underlying29 rfl (info_rp p) ?_)
  refine (rhas_no p i w0 HP.out HH.out).mono ?_
  rintro x w1 ⟨rfl, hb⟩
  have HA1 := Lib.hid (HA.out.below hb HA.out.lt)
  have HB1 := Lib.hid (HB.out.trans (hb.mono HB.out.size))
  clear hb
  cases cs HA1.out
  go_wp2
  go_ret
  exact ⟨rfl, HB1.out⟩
set_option maxRecDepth 100000 in
set_option maxHeartbeats 2000000 in
theorem rend_lo (p : Pl) (i port : Int) (w : World) (hp : Pw p) (hh : hasP p i) (d1 : decide (port < 0) = true) :
    Calls Try.prog 19 #[plV p, .int .i64 i, .int .i64 port] w fun x w' => x = .returned (.int .u16 0) ∧ Below w.heap.size w w' := by
  have HH := Lib.hid hh
  clear hh
  have HP := Lib.hid hp
  clear hp
  have HA := Lib.hid (Blk.fresh w 29 (plC p))
  have HB := Lib.hid ((Below.refl w.heap.size w).alloc (Nat.le_refl _) (.cells (plC p) 29))
  go_enter Try.func19, Try.ntmps19
  go_upto_region 1 with (fail)
  generalize w.alloc (.cells (plC p) 29) = w0 at HA HB ⊢
  cases cs HA.out
  go_wp2_with (refine wpList_load_row rfl 29 _ rfl _ rfl _ (plC p) _ _ HA.out Try.underlying29 rfl (info_rp p) ?_)
  refine (rhas_yes p i w0 HP.out HH.out).mono ?_
  rintro x w1 ⟨rfl, hb⟩
  have HA1 := Lib.hid (HA.out.below hb HA.out.lt)
  have HB1 := Lib.hid (HB.out.trans (hb.mono HB.out.size))
  clear hb
  cases cs HA1.out
  go_wp2
  go_ret
  exact ⟨rfl, HB1.out⟩
set_option maxRecDepth 100000 in
set_option maxHeartbeats 2000000 in
theorem rend_hi (p : Pl) (i port : Int) (w : World) (hp : Pw p) (hh : hasP p i) (d1 : decide (port < 0) = false) (d2 : decide (1 < port) = true) :
    Calls Try.prog 19 #[plV p, .int .i64 i, .int .i64 port] w fun x w' => x = .returned (.int .u16 0) ∧ Below w.heap.size w w' := by
  have HH := Lib.hid hh
  clear hh
  have HP := Lib.hid hp
  clear hp
  have HA := Lib.hid (Blk.fresh w 29 (plC p))
  have HB := Lib.hid ((Below.refl w.heap.size w).alloc (Nat.le_refl _) (.cells (plC p) 29))
  go_enter Try.func19, Try.ntmps19
  go_upto_region 1 with (fail)
  generalize w.alloc (.cells (plC p) 29) = w0 at HA HB ⊢
  cases cs HA.out
  go_wp2_with (refine wpList_load_row rfl 29 _ rfl _ rfl _ (plC p) _ _ HA.out Try.underlying29 rfl (info_rp p) ?_)
  refine (rhas_yes p i w0 HP.out HH.out).mono ?_
  rintro x w1 ⟨rfl, hb⟩
  have HA1 := Lib.hid (HA.out.below hb HA.out.lt)
  have HB1 := Lib.hid (HB.out.trans (hb.mono HB.out.size))
  clear hb
  cases cs HA1.out
  go_wp2
  go_ret
  exact ⟨rfl, HB1.out⟩
set_option maxRecDepth 100000 in
set_option maxHeartbeats 2000000 in
theorem rend_y (p : Pl) (i port : Int) (w : World) (hp : Pw p) (hh : hasP p i) (d1 : decide (port < 0) = false) (d2 : decide (1 < port) = false) (a b c d : Int) (v1 : IntKind.i64.wrap (i * 2) = a) (v2 : IntKind.i64.wrap (1 + a) = b) (v3 : IntKind.i64.wrap (b + port) = c) (v4 : IntKind.u16.wrap c = d) :
    Calls Try.prog 19 #[plV p, .int .i64 i, .int .i64 port] w fun x w' => x = .returned (.int .u16 d) ∧ Below w.heap.size w w' := by
  have HH := Lib.hid hh
  clear hh
  have HP := Lib.hid hp
  clear hp
  have HA := Lib.hid (Blk.fresh w 29 (plC p))
  have HB := Lib.hid ((Below.refl w.heap.size w).alloc (Nat.le_refl _) (.cells (plC p) 29))
  go_enter Try.func19, Try.ntmps19
  go_upto_region 1 with (fail)
  generalize w.alloc (.cells (plC p) 29) = w0 at HA HB ⊢
  cases cs HA.out
  go_wp2_with (refine wpList_load_row rfl 29 _ rfl _ rfl _ (plC p) _ _ HA.out Try.underlying29 rfl (info_rp p) ?_)
  refine (rhas_yes p i w0 HP.out HH.out).mono ?_
  rintro x w1 ⟨rfl, hb⟩
  have HA1 := Lib.hid (HA.out.below hb HA.out.lt)
  have HB1 := Lib.hid (HB.out.trans (hb.mono HB.out.size))
  clear hb
  cases cs HA1.out
  go_wp2
  go_ret
  exact ⟨rfl, HB1.out⟩
theorem end_at {a : Int} (p : Pl) (i port : Int) (w : World) (hp : Pw p) (h : endR p i port = a) : Calls Try.prog 18 #[plV p, .int .i64 i, .int .i64 port] w fun x w' => x = .returned (.int .u16 a) ∧ Below w.heap.size w w' := by
  unfold endR at h
  by_cases hh : hasP p i
  · have hi := has_in hh
    rw [if_pos hh] at h
    by_cases hr : port = 0 ∨ port = 1
    · rw [if_pos hr] at h
      subst h
      exact end_y p i port w hp hh hr (2 * i) (2 * i + port) (2 * i + port + 1) _ (wrap_small (by omega) (by omega)) (wrap_small (by omega) (by omega)) (wrap_small (by omega) (by omega)) (by rw [IntKind.wrap_u16]; omega)
    · rw [if_neg hr] at h
      subst h
      exact end_x p i port w hp hh hr
  · rw [if_neg hh] at h
    subst h
    exact end_no p i port w hp hh
theorem rend_at {a : Int} (p : Pl) (i port : Int) (w : World) (hp : Pw p) (h : endR p i port = a) : Calls Try.prog 19 #[plV p, .int .i64 i, .int .i64 port] w fun x w' => x = .returned (.int .u16 a) ∧ Below w.heap.size w w' := by
  unfold endR at h
  by_cases hh : hasP p i
  · have hi := has_in hh
    rw [if_pos hh] at h
    by_cases hr : port = 0 ∨ port = 1
    · rw [if_pos hr] at h
      subst h
      exact rend_y p i port w hp hh (decide_eq_false (by omega)) (decide_eq_false (by omega)) (i * 2) (1 + i * 2) (1 + i * 2 + port) _ (wrap_small (by omega) (by omega)) (wrap_small (by omega) (by omega)) (wrap_small (by omega) (by omega)) (by rw [IntKind.wrap_u16]; omega)
    · rw [if_neg hr] at h
      subst h
      by_cases hl : port < 0
      · exact rend_lo p i port w hp hh (decide_eq_true hl)
      · exact rend_hi p i port w hp hh (decide_eq_false hl) (decide_eq_true (by omega))
  · rw [if_neg hh] at h
    subst h
    exact rend_no p i port w hp hh
end Go.Proofs.Ytoiggajjbjcabaa.Pn
