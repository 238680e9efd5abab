/-
  Flush: both sides of Hear at once; the same message again; the example.
-/
import Derived.Test.YthhiagdncjpdcaaFlC
import Derived.Test.YthhiagdncjpdcaaRpJ
namespace Go.Proofs.Ythhiagdncjpdcaa.Fh
open Go.RowKit Go.Proofs.Ythhiagdncjpdcaa.Mm Go.Proofs.Ythhiagdncjpdcaa.Tg Go.Proofs.Ythhiagdncjpdcaa.Rp
set_option linter.unusedVariables false
set_option linter.unusedSimpArgs false

/-- pairs: the first one's three, the second one's -/
abbrev Ps := (Bool × Bool × Nat) × (Bool × Bool × Nat)
abbrev vP (p : Ps) : Value := psV p.1.1 p.1.2.1 p.1.2.2 p.2.1 p.2.2.1 p.2.2.2
abbrev cP (p : Ps) : Array Value := psC p.1.1 p.1.2.1 p.1.2.2 p.2.1 p.2.2.1 p.2.2.2
theorem eqP_self (e : Bool) (n : Nat) : eqP true e n e n = true := by unfold eqP; simp

theorem hear_both (p : Ps) (port : Int) (q : Nat) (b k e : Bool) (n : Nat) : ∃ (p' : Ps) (y : Bool), (∀ w, Calls Try.prog 8 #[vP p, .int .i64 port, msV q b k e n] w fun x w' => x = .returned (.tuple #[vP p', .bool y]) ∧ Below w.heap.size w w') ∧
    (∀ w, Calls Try.prog 9 #[vP p, .int .i64 port, msV q b k e n] w fun x w' => x = .returned (.tuple #[vP p', .bool y]) ∧ Below w.heap.size w w') := by
  obtain ⟨⟨s0, e0, n0⟩, ⟨s1, e1, n1⟩⟩ := p
  by_cases h0 : port = 0
  · subst h0
    by_cases hx : q = 0 ∧ b = false
    · exact ⟨((false, false, 0), (s1, e1, n1)), false, fun w => hear_nr0 s0 e0 n0 s1 e1 n1 q b k e n w hx.1 hx.2, fun w => rhear_nr0 s0 e0 n0 s1 e1 n1 q b k e n w hx.1 hx.2⟩
    · cases hz : eqP s0 e0 n0 e n with
      | true => exact ⟨((s0, e0, n0), (s1, e1, n1)), false, fun w => hear_e0 s0 e0 n0 s1 e1 n1 q b k e n w hx hz, fun w => rhear_e0 s0 e0 n0 s1 e1 n1 q b k e n w hx hz⟩
      | false => exact ⟨((true, e, n), (s1, e1, n1)), _, fun w => hear_d0 s0 e0 n0 s1 e1 n1 q b k e n w _ hx hz rfl, fun w => rhear_d0 s0 e0 n0 s1 e1 n1 q b k e n w _ hx hz rfl⟩
  by_cases h1 : port = 1
  · subst h1
    by_cases hx : q = 0 ∧ b = false
    · exact ⟨((s0, e0, n0), (false, false, 0)), false, fun w => hear_nr1 s0 e0 n0 s1 e1 n1 q b k e n w hx.1 hx.2, fun w => rhear_nr1 s0 e0 n0 s1 e1 n1 q b k e n w hx.1 hx.2⟩
    · cases hz : eqP s1 e1 n1 e n with
      | true => exact ⟨((s0, e0, n0), (s1, e1, n1)), false, fun w => hear_e1 s0 e0 n0 s1 e1 n1 q b k e n w hx hz, fun w => rhear_e1 s0 e0 n0 s1 e1 n1 q b k e n w hx hz⟩
      | false => exact ⟨((s0, e0, n0), (true, e, n)), _, fun w => hear_d1 s0 e0 n0 s1 e1 n1 q b k e n w _ hx hz rfl, fun w => rhear_d1 s0 e0 n0 s1 e1 n1 q b k e n w _ hx hz rfl⟩
  exact ⟨((s0, e0, n0), (s1, e1, n1)), false, fun w => hear_bad port h0 h1 s0 e0 n0 s1 e1 n1 q b k e n w, fun w => rhear_bad port h0 h1 s0 e0 n0 s1 e1 n1 q b k e n w⟩

/-- the same message, again at that port, or then at the other one, empties nothing -/
theorem again0 (p : Ps) (q : Nat) (b k e : Bool) (n : Nat) : ∃ (p1 p2 p3 : Ps) (y : Bool), (∀ w, Calls Try.prog 8 #[vP p, .int .i64 0, msV q b k e n] w fun x w' => x = .returned (.tuple #[vP p1, .bool y]) ∧ Below w.heap.size w w') ∧
    (∀ w, Calls Try.prog 8 #[vP p1, .int .i64 0, msV q b k e n] w fun x w' => x = .returned (.tuple #[vP p2, .bool false]) ∧ Below w.heap.size w w') ∧ (∀ w, Calls Try.prog 8 #[vP p1, .int .i64 1, msV q b k e n] w fun x w' => x = .returned (.tuple #[vP p3, .bool false]) ∧ Below w.heap.size w w') := by
  obtain ⟨⟨s0, e0, n0⟩, ⟨s1, e1, n1⟩⟩ := p
  by_cases hx : q = 0 ∧ b = false
  · exact ⟨((false, false, 0), (s1, e1, n1)), ((false, false, 0), (s1, e1, n1)), ((false, false, 0), (false, false, 0)), false, fun w => hear_nr0 s0 e0 n0 s1 e1 n1 q b k e n w hx.1 hx.2, fun w => hear_nr0 false false 0 s1 e1 n1 q b k e n w hx.1 hx.2, fun w => hear_nr1 false false 0 s1 e1 n1 q b k e n w hx.1 hx.2⟩
  have h1 : ∃ y, (∀ w, Calls Try.prog 8 #[vP ((s0, e0, n0), (s1, e1, n1)), .int .i64 0, msV q b k e n] w fun x w' => x = .returned (.tuple #[vP ((true, e, n), (s1, e1, n1)), .bool y]) ∧ Below w.heap.size w w') := by
    rcases eqP_cases s0 e0 n0 e n with ⟨r1, r2, r3, r4⟩ | ⟨r4, _⟩
    · subst r1 r2 r3
      exact ⟨false, fun w => hear_e0 true e0 n0 s1 e1 n1 q b k e0 n0 w hx r4⟩
    · exact ⟨_, fun w => hear_d0 s0 e0 n0 s1 e1 n1 q b k e n w _ hx r4 rfl⟩
  have h3 : ∃ p3 : Ps, (∀ w, Calls Try.prog 8 #[vP ((true, e, n), (s1, e1, n1)), .int .i64 1, msV q b k e n] w fun x w' => x = .returned (.tuple #[vP p3, .bool false]) ∧ Below w.heap.size w w') := by
    cases hz : eqP s1 e1 n1 e n with
    | true => exact ⟨((true, e, n), (s1, e1, n1)), fun w => hear_e1 true e n s1 e1 n1 q b k e n w hx hz⟩
    | false =>
      have h := fun w => hear_d1 true e n s1 e1 n1 q b k e n w true hx hz (eqP_self e n)
      rw [show (!k && !true) = false by cases k <;> rfl] at h
      exact ⟨((true, e, n), (true, e, n)), h⟩
  obtain ⟨y, h1⟩ := h1
  obtain ⟨p3, h3⟩ := h3
  exact ⟨((true, e, n), (s1, e1, n1)), ((true, e, n), (s1, e1, n1)), p3, y, h1, fun w => hear_e0 true e n s1 e1 n1 q b k e n w hx (eqP_self e n), h3⟩

/-- the same message, again at that port, or then at the other one, empties nothing -/
theorem again1 (p : Ps) (q : Nat) (b k e : Bool) (n : Nat) : ∃ (p1 p2 p3 : Ps) (y : Bool), (∀ w, Calls Try.prog 8 #[vP p, .int .i64 1, msV q b k e n] w fun x w' => x = .returned (.tuple #[vP p1, .bool y]) ∧ Below w.heap.size w w') ∧
    (∀ w, Calls Try.prog 8 #[vP p1, .int .i64 1, msV q b k e n] w fun x w' => x = .returned (.tuple #[vP p2, .bool false]) ∧ Below w.heap.size w w') ∧ (∀ w, Calls Try.prog 8 #[vP p1, .int .i64 0, msV q b k e n] w fun x w' => x = .returned (.tuple #[vP p3, .bool false]) ∧ Below w.heap.size w w') := by
  obtain ⟨⟨s0, e0, n0⟩, ⟨s1, e1, n1⟩⟩ := p
  by_cases hx : q = 0 ∧ b = false
  · exact ⟨((s0, e0, n0), (false, false, 0)), ((s0, e0, n0), (false, false, 0)), ((false, false, 0), (false, false, 0)), false, fun w => hear_nr1 s0 e0 n0 s1 e1 n1 q b k e n w hx.1 hx.2, fun w => hear_nr1 s0 e0 n0 false false 0 q b k e n w hx.1 hx.2, fun w => hear_nr0 s0 e0 n0 false false 0 q b k e n w hx.1 hx.2⟩
  have h1 : ∃ y, (∀ w, Calls Try.prog 8 #[vP ((s0, e0, n0), (s1, e1, n1)), .int .i64 1, msV q b k e n] w fun x w' => x = .returned (.tuple #[vP ((s0, e0, n0), (true, e, n)), .bool y]) ∧ Below w.heap.size w w') := by
    rcases eqP_cases s1 e1 n1 e n with ⟨r1, r2, r3, r4⟩ | ⟨r4, _⟩
    · subst r1 r2 r3
      exact ⟨false, fun w => hear_e1 s0 e0 n0 true e1 n1 q b k e1 n1 w hx r4⟩
    · exact ⟨_, fun w => hear_d1 s0 e0 n0 s1 e1 n1 q b k e n w _ hx r4 rfl⟩
  have h3 : ∃ p3 : Ps, (∀ w, Calls Try.prog 8 #[vP ((s0, e0, n0), (true, e, n)), .int .i64 0, msV q b k e n] w fun x w' => x = .returned (.tuple #[vP p3, .bool false]) ∧ Below w.heap.size w w') := by
    cases hz : eqP s0 e0 n0 e n with
    | true => exact ⟨((s0, e0, n0), (true, e, n)), fun w => hear_e0 s0 e0 n0 true e n q b k e n w hx hz⟩
    | false =>
      have h := fun w => hear_d0 s0 e0 n0 true e n q b k e n w true hx hz (eqP_self e n)
      rw [show (!k && !true) = false by cases k <;> rfl] at h
      exact ⟨((true, e, n), (true, e, n)), h⟩
  obtain ⟨y, h1⟩ := h1
  obtain ⟨p3, h3⟩ := h3
  exact ⟨((s0, e0, n0), (true, e, n)), ((s0, e0, n0), (true, e, n)), p3, y, h1, fun w => hear_e1 s0 e0 n0 true e n q b k e n w hx (eqP_self e n), h3⟩

set_option maxRecDepth 100000 in
set_option maxHeartbeats 2000000 in
theorem awake14 (w : World) : Calls Try.prog 7 #[] w fun e w' => e = .returned (.bool true) ∧ Below w.heap.size w w' := by
  have H1 := Lib.hid (fun w1 => hear_d0 false false 0 false false 0 11 false false false 3 w1 false (by decide) (by decide) (by decide))
  have H2 := Lib.hid (fun w1 => hear_d1 true false 3 false false 0 11 false false false 3 w1 true (by decide) (by decide) (by decide))
  go_enter Try.func7, Try.ntmps7
  go_upto_region 3 with (fail)
  have HA := Lib.hid ((Blk.fresh w 29 (psC false false 0 false false 0)).alloc (.cells (msC 11 false false false 3) 35))
  have HM := Lib.hid (fresh_second w (.cells (psC false false 0 false false 0) 29) 35 (msC 11 false false false 3))
  have HB := Lib.hid (((Below.refl w.heap.size w).alloc (Nat.le_refl _) (.cells (psC false false 0 false false 0) 29)).alloc (by simp) (.cells (msC 11 false false false 3) 35))
  generalize (w.alloc (.cells (psC false false 0 false false 0) 29)).alloc (.cells (msC 11 false false false 3) 35) = w2 at HA HM HB ⊢
  obtain ⟨g, hg⟩ : ∃ g, g = w.heap.size := ⟨_, rfl⟩
  have hgw : w.heap.size ≤ g := by omega
  rw [← hg] at HA HM ⊢
  clear hg
  cases Rw6.row HA.out
  cases Rw5.row HM.out
  go_wp2_with fail
  refine (H1.out w2).mono ?_
  rintro x w3 ⟨rfl, hb⟩
  have HA3 := Lib.hid (HA.out.below hb HA.out.lt)
  have HM3 := Lib.hid (HM.out.below hb HM.out.lt)
  have HB3 := Lib.hid (HB.out.trans (hb.mono HB.out.size))
  clear hb HA HM HB
  cases Rw6.row HA3.out
  go_upto_region 4 with (fail)
  obtain ⟨w4, hw4, b1, b2, b3⟩ : ∃ w4 : World, w4 = Rw6.set w3 g (.bool true) (.bool false) (.int .u64 3) (.bool false) (.bool false) (.int .u64 0) ∧ Blk w4 g 29 (psC true false 3 false false 0) ∧ Blk w4 (g + 1) 35 (msC 11 false false false 3) ∧ Below w.heap.size w w4 := ⟨_, rfl, Rw6.blk_set HA3.out _ _ _ _ _ _, Rw6.far HM3.out (by omega) _ _ _ _ _ _, Rw6.below_set HB3.out hgw _ _ _ _ _ _⟩
  dsimp only [Rw6.set] at hw4
  first | rw [← hw4] | simp only [← hw4]
  have HA := Lib.hid b1; have HM := Lib.hid b2; have HB := Lib.hid b3
  clear hw4 b1 b2 b3 HA3 HM3 HB3
  cases Rw6.row HA.out
  cases Rw5.row HM.out
  go_wp2_with fail
  refine (H2.out w4).mono ?_
  rintro x w5 ⟨rfl, hb⟩
  have HB5 := Lib.hid (HB.out.trans (hb.mono HB.out.size))
  clear hb
  go_upto_region 5 with (fail)
  have HB6 := Lib.hid (HB5.out.alloc HB5.out.size (.cells (psC true false 3 true false 3) 29))
  generalize w5.alloc (.cells (psC true false 3 true false 3) 29) = w6 at HB6 ⊢
  go_wp2_with fail
  refine (awake5 w6).mono ?_
  rintro x w7 ⟨rfl, hb⟩
  have HB7 := Lib.hid (HB6.out.trans (hb.mono HB6.out.size))
  clear hb
  go_wp2
  go_ret
  exact ⟨rfl, HB7.out⟩
end Go.Proofs.Ythhiagdncjpdcaa.Fh
