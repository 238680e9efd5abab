/-
  Flush: what a pair is; the other port; the document's same; the law's Of.
-/
import Derived.Test.YthhiagdncjpdcaaRow6
import Derived.Test.YthhiagdncjpdcaaRapB
import Derived.Test.YthhiagdncjpdcaaRgK
namespace Go.Proofs.Ythhiagdncjpdcaa.Fh
open Go.RowKit Go.Proofs.Ythhiagdncjpdcaa.Mm Go.Proofs.Ythhiagdncjpdcaa.Tg Go.Proofs.Ythhiagdncjpdcaa.Rp
set_option linter.unusedVariables false
set_option linter.unusedSimpArgs false

/-- both pairs as cells: whether there is one, whether its blocked port is the east one, its node -/
abbrev psC (s0 e0 : Bool) (n0 : Nat) (s1 e1 : Bool) (n1 : Nat) : Array Value := #[.bool s0, .bool e0, .int .u64 (n0 : Int), .bool s1, .bool e1, .int .u64 (n1 : Int)]
abbrev psV (s0 e0 : Bool) (n0 : Nat) (s1 e1 : Bool) (n1 : Nat) : Value := .agg (psC s0 e0 n0 s1 e1 n1)
abbrev prC (s e : Bool) (n : Nat) : Array Value := #[.bool s, .bool e, .int .u64 (n : Int)]
abbrev prV (s e : Bool) (n : Nat) : Value := .agg (prC s e n)
theorem info_ps : (Try.prog.info? 29).map (·.size) = some 6 := by kernel_rfl
theorem info_rps : (Try.prog.info? 32).map (·.size) = some 6 := by kernel_rfl

/-- the first pair, or the second, written -/
abbrev setLo (w : World) (g : Nat) (x y z : Value) : World := ((w.setCell ⟨g, 0, none⟩ x).setCell ⟨g, 1, none⟩ y).setCell ⟨g, 2, none⟩ z
abbrev setHi (w : World) (g : Nat) (x y z : Value) : World := ((w.setCell ⟨g, 3, none⟩ x).setCell ⟨g, 4, none⟩ y).setCell ⟨g, 5, none⟩ z
theorem put_lo {w : World} {g : Nat} {t : TypeId} {a b c d e f : Value} (h : Blk w g t #[a, b, c, d, e, f]) (x y z : Value) : Blk (setLo w g x y z) g t #[x, y, z, d, e, f] := by
  have h0 : Blk _ g t #[x, b, c, d, e, f] := h.put 0 x
  have h1 : Blk _ g t #[x, y, c, d, e, f] := h0.put 1 y
  exact h1.put 2 z
theorem put_hi {w : World} {g : Nat} {t : TypeId} {a b c d e f : Value} (h : Blk w g t #[a, b, c, d, e, f]) (x y z : Value) : Blk (setHi w g x y z) g t #[a, b, c, x, y, z] := by
  have h0 : Blk _ g t #[a, b, c, x, e, f] := h.put 3 x
  have h1 : Blk _ g t #[a, b, c, x, y, f] := h0.put 4 y
  exact h1.put 5 z
theorem far_lo {w : World} {g k : Nat} {t : TypeId} {cs : Array Value} (h : Blk w k t cs) (hne : k ≠ g) (x y z : Value) : Blk (setLo w g x y z) k t cs := ((h.far (p := ⟨g, 0, none⟩) hne x).far (p := ⟨g, 1, none⟩) hne y).far (p := ⟨g, 2, none⟩) hne z
theorem far_hi {w : World} {g k : Nat} {t : TypeId} {cs : Array Value} (h : Blk w k t cs) (hne : k ≠ g) (x y z : Value) : Blk (setHi w g x y z) k t cs := ((h.far (p := ⟨g, 3, none⟩) hne x).far (p := ⟨g, 4, none⟩) hne y).far (p := ⟨g, 5, none⟩) hne z
theorem below_lo {a w : World} {B g : Nat} (h : Below B a w) (hg : B ≤ g) (x y z : Value) : Below B a (setLo w g x y z) := ((h.setCell (p := ⟨g, 0, none⟩) hg x).setCell (p := ⟨g, 1, none⟩) hg y).setCell (p := ⟨g, 2, none⟩) hg z
theorem below_hi {a w : World} {B g : Nat} (h : Below B a w) (hg : B ≤ g) (x y z : Value) : Below B a (setHi w g x y z) := ((h.setCell (p := ⟨g, 3, none⟩) hg x).setCell (p := ⟨g, 4, none⟩) hg y).setCell (p := ⟨g, 5, none⟩) hg z

theorem other_a (w : World) : Calls Try.prog 21 #[.int .i64 0] w fun x w' => x = .returned (.int .i64 1) ∧ w = w' := by
  go_enter Try.func21, Try.ntmps21
  go_wp2
  go_ret
  exact ⟨rfl, rfl⟩
theorem other_b (w : World) : Calls Try.prog 21 #[.int .i64 1] w fun x w' => x = .returned (.int .i64 0) ∧ w = w' := by
  go_enter Try.func21, Try.ntmps21
  go_wp2
  go_ret
  exact ⟨rfl, rfl⟩
/-- is a pair there, and that one? -/
def eqP (s e : Bool) (n : Nat) (e' : Bool) (n' : Nat) : Bool := s && (e == e') && (n == n')
theorem eqP_cases (s e : Bool) (n : Nat) (e' : Bool) (n' : Nat) : (s = true ∧ e = e' ∧ n = n' ∧ eqP s e n e' n' = true) ∨ (eqP s e n e' n' = false ∧ (s = false ∨ (s = true ∧ (e == e') = false) ∨ (s = true ∧ e = e' ∧ ¬ n = n'))) := by
  unfold eqP
  cases s <;> cases e <;> cases e' <;> by_cases h : n = n' <;> simp [h]

set_option maxHeartbeats 1000000 in
theorem same_at (s e : Bool) (n q : Nat) (b k e' : Bool) (n' : Nat) (w : World) : Calls Try.prog 22 #[prV s e n, msV q b k e' n'] w fun x w' => x = .returned (.bool (eqP s e n e' n')) ∧ Below w.heap.size w w' := by
  have hb : Below w.heap.size w ((w.alloc (.cells (prC s e n) 31)).alloc (.cells (msC q b k e' n') 43)) := ((Below.refl w.heap.size w).alloc (Nat.le_refl _) _).alloc (by simp) _
  have HB := Lib.hid hb
  have HA := Lib.hid ((Blk.fresh w 31 (prC s e n)).alloc (.cells (msC q b k e' n') 43))
  have HM := Lib.hid (fresh_second w (.cells (prC s e n) 31) 43 (msC q b k e' n'))
  clear hb
  rcases eqP_cases s e n e' n' with ⟨h1, h2, h3, h4⟩ | ⟨h4, h1 | ⟨h1, h2⟩ | ⟨h1, h2, h3⟩⟩
  · rw [h4]
    subst h1 h2 h3
    have f1 : (e == e) = true := beq_iff_eq.2 rfl
    have f2 : ((n : Int) == (n : Int)) = true := beq_iff_eq.2 rfl
    clear h4
    go_enter Try.func22, Try.ntmps22
    go_upto_region 1 with (fail)
    generalize (w.alloc (.cells (prC true e n) 31)).alloc (.cells (msC q b k e n) 43) = w0 at HA HM HB ⊢
    cases Rw3.row HA.out
    cases Rw5.row HM.out
    go_wp2
    go_ret
    exact ⟨rfl, HB.out⟩
  · rw [h4]
    subst h1
    clear h4
    go_enter Try.func22, Try.ntmps22
    go_upto_region 1 with (fail)
    generalize (w.alloc (.cells (prC false e n) 31)).alloc (.cells (msC q b k e' n') 43) = w0 at HA HM HB ⊢
    cases Rw3.row HA.out
    cases Rw5.row HM.out
    go_wp2
    go_ret
    exact ⟨rfl, HB.out⟩
  · rw [h4]
    subst h1
    clear h4
    go_enter Try.func22, Try.ntmps22
    go_upto_region 1 with (fail)
    generalize (w.alloc (.cells (prC true e n) 31)).alloc (.cells (msC q b k e' n') 43) = w0 at HA HM HB ⊢
    cases Rw3.row HA.out
    cases Rw5.row HM.out
    go_wp2
    go_ret
    exact ⟨rfl, HB.out⟩
  · rw [h4]
    subst h1 h2
    have f1 : (e == e) = true := beq_iff_eq.2 rfl
    have f2 : ((n : Int) == (n' : Int)) = false := by simp only [beq_eq_false_iff_ne]; omega
    clear h4 h3
    go_enter Try.func22, Try.ntmps22
    go_upto_region 1 with (fail)
    generalize (w.alloc (.cells (prC true e n) 31)).alloc (.cells (msC q b k e n') 43) = w0 at HA HM HB ⊢
    cases Rw3.row HA.out
    cases Rw5.row HM.out
    go_wp2
    go_ret
    exact ⟨rfl, HB.out⟩

set_option maxRecDepth 100000 in
set_option maxHeartbeats 2000000 in
theorem of14_any (s0 e0 : Bool) (n0 : Nat) (s1 e1 : Bool) (n1 : Nat) (w : World) : Calls Try.prog 11 #[psV s0 e0 n0 s1 e1 n1] w fun x w' => x = .returned (psV s0 e0 n0 s1 e1 n1) ∧ Below w.heap.size w w' := by
  go_enter Try.func11, Try.ntmps11
  go_upto_region 2 with (fail)
  have l0 := ((((Below.refl w.heap.size w).alloc (Nat.le_refl _) (.cells (psC s0 e0 n0 s1 e1 n1) 29)).alloc (by simp) (.cells #[.bool false, .bool false, .int .u64 0, .bool false, .bool false, .int .u64 0] 32)).alloc (by simp; omega) (.cells #[.bool false, .bool false, .int .u64 0, .bool false, .bool false, .int .u64 0] 32))
  have a0 := ((Blk.fresh w 29 (psC s0 e0 n0 s1 e1 n1)).alloc (.cells #[.bool false, .bool false, .int .u64 0, .bool false, .bool false, .int .u64 0] 32)).alloc (.cells #[.bool false, .bool false, .int .u64 0, .bool false, .bool false, .int .u64 0] 32)
  have r0 := (fresh_second w (.cells (psC s0 e0 n0 s1 e1 n1) 29) 32 #[.bool false, .bool false, .int .u64 0, .bool false, .bool false, .int .u64 0]).alloc (.cells #[.bool false, .bool false, .int .u64 0, .bool false, .bool false, .int .u64 0] 32)
  have o0 := fresh_second (w.alloc (.cells (psC s0 e0 n0 s1 e1 n1) 29)) (.cells #[.bool false, .bool false, .int .u64 0, .bool false, .bool false, .int .u64 0] 32) 32 #[.bool false, .bool false, .int .u64 0, .bool false, .bool false, .int .u64 0]
  rw [show (w.alloc (.cells (psC s0 e0 n0 s1 e1 n1) 29)).heap.size = w.heap.size + 1 by simp] at o0
  have HA := Lib.hid a0; have HR := Lib.hid r0; have HO := Lib.hid o0; have HB := Lib.hid l0
  clear a0 r0 o0 l0
  generalize ((w.alloc (.cells (psC s0 e0 n0 s1 e1 n1) 29)).alloc (.cells #[.bool false, .bool false, .int .u64 0, .bool false, .bool false, .int .u64 0] 32)).alloc (.cells #[.bool false, .bool false, .int .u64 0, .bool false, .bool false, .int .u64 0] 32) = w3 at HA HR HO HB ⊢
  obtain ⟨g, hg⟩ : ∃ g, g = w.heap.size := ⟨_, rfl⟩
  have hgw : w.heap.size ≤ g := by omega
  rw [← hg] at HA HR HO ⊢
  clear hg
  go_wp2_with fail
  go_loopw [5] (fun i wr => Blk wr g 29 (psC s0 e0 n0 s1 e1 n1) ∧ Blk wr (g + 1) 32 #[.bool false, .bool false, .int .u64 0, .bool false, .bool false, .int .u64 0] ∧ Below w.heap.size w wr ∧ ((i = .int .i64 0 ∧ Blk wr (g + 1 + 1) 32 #[.bool false, .bool false, .int .u64 0, .bool false, .bool false, .int .u64 0]) ∨ (i = .int .i64 1 ∧ Blk wr (g + 1 + 1) 32 #[.bool s0, .bool e0, .int .u64 (n0 : Int), .bool false, .bool false, .int .u64 0]) ∨ (i = .int .i64 2 ∧ Blk wr (g + 1 + 1) 32 #[.bool s0, .bool e0, .int .u64 (n0 : Int), .bool s1, .bool e1, .int .u64 (n1 : Int)]))) (fun i _ => 2 - (intOf i).toNat)
  case atStart => exact ⟨HA.out, HR.out, HB.out, .inl ⟨rfl, HO.out⟩⟩
  case round =>
    clear HA HR HO HB
    obtain ⟨hA, hR, hB, ⟨rfl, hO⟩ | ⟨rfl, hO⟩ | ⟨rfl, hO⟩⟩ := hrel

    · have HA := Lib.hid hA; have HR := Lib.hid hR; have HO := Lib.hid hO; have HB := Lib.hid hB
      clear hA hR hO hB
      go_upto_region 5 with (fail)
      refine wp_region_held_drew (S := fun wx => Blk wx g 29 (psC s0 e0 n0 s1 e1 n1)) (by kernel_rfl) HA.out.drew (fun hHeld => ?_)
      have HOd := Lib.hid HO.out.drew; have HRd := Lib.hid HR.out.drew; have HBd := Lib.hid HB.out.drew
      clear HA HR HO HB
      generalize wr.drew = wd at hHeld HOd HRd HBd ⊢
      refine Rg.tk 0 (v := ?_) ?_ ?_
      rotate_left
      · (intro wx hSx; go_simp; all_goals with_reducible rfl)
      simp only [Act.put, Rg.e1, Rg.e2, Rg.e3, Rg.e4, Rg.e5, Rg.e6]
      refine Rg.tk 1 (v := ?_) ?_ ?_
      rotate_left
      · (intro wx hSx; go_simp; all_goals with_reducible rfl)
      simp only [Act.put, Rg.e1, Rg.e2, Rg.e3, Rg.e4, Rg.e5, Rg.e6]
      refine Rg.tk 2 (v := ?_) ?_ ?_
      rotate_left
      · (intro wx hSx; go_simp; all_goals with_reducible rfl)
      simp only [Act.put, Rg.e1, Rg.e2, Rg.e3, Rg.e4, Rg.e5, Rg.e6]
      refine Rg.tk 3 (v := ?_) ?_ ?_
      rotate_left
      · (intro wx hSx; go_simp; all_goals with_reducible rfl)
      simp only [Act.put, Rg.e1, Rg.e2, Rg.e3, Rg.e4, Rg.e5, Rg.e6]
      refine Rg.tk 4 (v := ?_) ?_ ?_
      rotate_left
      · intro wx hSx
        cases Rw6.row hSx; go_simp
        all_goals with_reducible rfl
      simp only [Act.put, Rg.e1, Rg.e2, Rg.e3, Rg.e4, Rg.e5, Rg.e6]
      refine Rg.tk 5 (v := ?_) ?_ ?_
      rotate_left
      · (intro wx hSx; go_simp; all_goals with_reducible rfl)
      simp only [Act.put, Rg.e1, Rg.e2, Rg.e3, Rg.e4, Rg.e5, Rg.e6]
      refine Rg.tk 6 (v := ?_) ?_ ?_
      rotate_left
      · (intro wx hSx; go_simp; all_goals with_reducible rfl)
      simp only [Act.put, Rg.e1, Rg.e2, Rg.e3, Rg.e4, Rg.e5, Rg.e6]
      refine Rg.tk 7 (v := ?_) ?_ ?_
      rotate_left
      · (intro wx hSx; go_simp; all_goals with_reducible rfl)
      simp only [Act.put, Rg.e1, Rg.e2, Rg.e3, Rg.e4, Rg.e5, Rg.e6]
      refine Rg.tk 8 (v := ?_) ?_ ?_
      rotate_left
      · intro wx hSx
        cases Rw6.row hSx; go_simp
        all_goals with_reducible rfl
      simp only [Act.put, Rg.e1, Rg.e2, Rg.e3, Rg.e4, Rg.e5, Rg.e6]
      refine Rg.tk 9 (v := ?_) ?_ ?_
      rotate_left
      · (intro wx hSx; go_simp; all_goals with_reducible rfl)
      simp only [Act.put, Rg.e1, Rg.e2, Rg.e3, Rg.e4, Rg.e5, Rg.e6]
      refine Rg.tk 10 (v := ?_) ?_ ?_
      rotate_left
      · (intro wx hSx; go_simp; all_goals with_reducible rfl)
      simp only [Act.put, Rg.e1, Rg.e2, Rg.e3, Rg.e4, Rg.e5, Rg.e6]
      refine Rg.tk 11 (v := ?_) ?_ ?_
      rotate_left
      · (intro wx hSx; go_simp; all_goals with_reducible rfl)
      simp only [Act.put, Rg.e1, Rg.e2, Rg.e3, Rg.e4, Rg.e5, Rg.e6]
      refine Rg.tk 12 (v := ?_) ?_ ?_
      rotate_left
      · intro wx hSx
        cases Rw6.row hSx; go_simp
        all_goals with_reducible rfl
      simp only [Act.put, Rg.e1, Rg.e2, Rg.e3, Rg.e4, Rg.e5, Rg.e6]
      refine Rg.tk 13 (v := ?_) ?_ ?_
      rotate_left
      · (intro wx hSx; go_simp; all_goals with_reducible rfl)
      simp only [Act.put, Rg.e1, Rg.e2, Rg.e3, Rg.e4, Rg.e5, Rg.e6]
      refine Rg.tk 14 (v := ?_) ?_ ?_
      rotate_left
      · (intro wx hSx; go_simp; all_goals with_reducible rfl)
      simp only [Act.put, Rg.e1, Rg.e2, Rg.e3, Rg.e4, Rg.e5, Rg.e6]
      refine wpAnyH_ready (rs := [15]) (by kernel_rfl) (by simp) ?_
      refine .cons (o := _) rfl (fun K hK => ?_) ?_
      · cases Rw6.row HOd.out
        go_simp
        refine Rg.st_same hK (far_lo hHeld (by omega) _ _ _) (fun hHeld => ?_)
        clear hK K
        obtain ⟨W2, hw9⟩ : ∃ W2, W2 = setLo wd (g + 1 + 1) (.bool s0) (.bool e0) (.int .u64 (n0 : Int)) := ⟨_, rfl⟩
        have HO2 : Hid (Blk W2 (g + 1 + 1) 32 #[.bool s0, .bool e0, .int .u64 (n0 : Int), .bool false, .bool false, .int .u64 0]) := Lib.hid (by rw [hw9]; exact put_lo HOd.out _ _ _)
        have HR2 : Hid (Blk W2 (g + 1) 32 #[.bool false, .bool false, .int .u64 0, .bool false, .bool false, .int .u64 0]) := Lib.hid (by rw [hw9]; exact far_lo HRd.out (by omega) _ _ _)
        have HB2 : Hid (Below w.heap.size w W2) := Lib.hid (by rw [hw9]; exact below_lo HBd.out (by omega) _ _ _)
        dsimp only [setLo] at hw9
        rw [← hw9] at hHeld ⊢
        clear hw9
        try simp only [Rg.e1, Rg.e2, Rg.e3]
        refine wpAnyH_done (by kernel_rfl) ?_ _
        go_wp2
        go_roundw
        case rel => exact ⟨hHeld, HR2.out, HB2.out, .inr (.inl ⟨by go_num, HO2.out⟩)⟩
        case measure => simp [intOf]
      exact AllReadyH.nil
    · have HA := Lib.hid hA; have HR := Lib.hid hR; have HO := Lib.hid hO; have HB := Lib.hid hB
      clear hA hR hO hB
      go_upto_region 5 with (fail)
      refine wp_region_held_drew (S := fun wx => Blk wx g 29 (psC s0 e0 n0 s1 e1 n1)) (by kernel_rfl) HA.out.drew (fun hHeld => ?_)
      have HOd := Lib.hid HO.out.drew; have HRd := Lib.hid HR.out.drew; have HBd := Lib.hid HB.out.drew
      clear HA HR HO HB
      generalize wr.drew = wd at hHeld HOd HRd HBd ⊢
      refine Rg.tk 0 (v := ?_) ?_ ?_
      rotate_left
      · (intro wx hSx; go_simp; all_goals with_reducible rfl)
      simp only [Act.put, Rg.e1, Rg.e2, Rg.e3, Rg.e4, Rg.e5, Rg.e6]
      refine Rg.tk 1 (v := ?_) ?_ ?_
      rotate_left
      · (intro wx hSx; go_simp; all_goals with_reducible rfl)
      simp only [Act.put, Rg.e1, Rg.e2, Rg.e3, Rg.e4, Rg.e5, Rg.e6]
      refine Rg.tk 2 (v := ?_) ?_ ?_
      rotate_left
      · (intro wx hSx; go_simp; all_goals with_reducible rfl)
      simp only [Act.put, Rg.e1, Rg.e2, Rg.e3, Rg.e4, Rg.e5, Rg.e6]
      refine Rg.tk 3 (v := ?_) ?_ ?_
      rotate_left
      · (intro wx hSx; go_simp; all_goals with_reducible rfl)
      simp only [Act.put, Rg.e1, Rg.e2, Rg.e3, Rg.e4, Rg.e5, Rg.e6]
      refine Rg.tk 4 (v := ?_) ?_ ?_
      rotate_left
      · intro wx hSx
        cases Rw6.row hSx; go_simp
        all_goals with_reducible rfl
      simp only [Act.put, Rg.e1, Rg.e2, Rg.e3, Rg.e4, Rg.e5, Rg.e6]
      refine Rg.tk 5 (v := ?_) ?_ ?_
      rotate_left
      · (intro wx hSx; go_simp; all_goals with_reducible rfl)
      simp only [Act.put, Rg.e1, Rg.e2, Rg.e3, Rg.e4, Rg.e5, Rg.e6]
      refine Rg.tk 6 (v := ?_) ?_ ?_
      rotate_left
      · (intro wx hSx; go_simp; all_goals with_reducible rfl)
      simp only [Act.put, Rg.e1, Rg.e2, Rg.e3, Rg.e4, Rg.e5, Rg.e6]
      refine Rg.tk 7 (v := ?_) ?_ ?_
      rotate_left
      · (intro wx hSx; go_simp; all_goals with_reducible rfl)
      simp only [Act.put, Rg.e1, Rg.e2, Rg.e3, Rg.e4, Rg.e5, Rg.e6]
      refine Rg.tk 8 (v := ?_) ?_ ?_
      rotate_left
      · intro wx hSx
        cases Rw6.row hSx; go_simp
        all_goals with_reducible rfl
      simp only [Act.put, Rg.e1, Rg.e2, Rg.e3, Rg.e4, Rg.e5, Rg.e6]
      refine Rg.tk 9 (v := ?_) ?_ ?_
      rotate_left
      · (intro wx hSx; go_simp; all_goals with_reducible rfl)
      simp only [Act.put, Rg.e1, Rg.e2, Rg.e3, Rg.e4, Rg.e5, Rg.e6]
      refine Rg.tk 10 (v := ?_) ?_ ?_
      rotate_left
      · (intro wx hSx; go_simp; all_goals with_reducible rfl)
      simp only [Act.put, Rg.e1, Rg.e2, Rg.e3, Rg.e4, Rg.e5, Rg.e6]
      refine Rg.tk 11 (v := ?_) ?_ ?_
      rotate_left
      · (intro wx hSx; go_simp; all_goals with_reducible rfl)
      simp only [Act.put, Rg.e1, Rg.e2, Rg.e3, Rg.e4, Rg.e5, Rg.e6]
      refine Rg.tk 12 (v := ?_) ?_ ?_
      rotate_left
      · intro wx hSx
        cases Rw6.row hSx; go_simp
        all_goals with_reducible rfl
      simp only [Act.put, Rg.e1, Rg.e2, Rg.e3, Rg.e4, Rg.e5, Rg.e6]
      refine Rg.tk 13 (v := ?_) ?_ ?_
      rotate_left
      · (intro wx hSx; go_simp; all_goals with_reducible rfl)
      simp only [Act.put, Rg.e1, Rg.e2, Rg.e3, Rg.e4, Rg.e5, Rg.e6]
      refine Rg.tk 14 (v := ?_) ?_ ?_
      rotate_left
      · (intro wx hSx; go_simp; all_goals with_reducible rfl)
      simp only [Act.put, Rg.e1, Rg.e2, Rg.e3, Rg.e4, Rg.e5, Rg.e6]
      refine wpAnyH_ready (rs := [15]) (by kernel_rfl) (by simp) ?_
      refine .cons (o := _) rfl (fun K hK => ?_) ?_
      · cases Rw6.row HOd.out
        go_simp
        refine Rg.st_same hK (far_hi hHeld (by omega) _ _ _) (fun hHeld => ?_)
        clear hK K
        obtain ⟨W2, hw9⟩ : ∃ W2, W2 = setHi wd (g + 1 + 1) (.bool s1) (.bool e1) (.int .u64 (n1 : Int)) := ⟨_, rfl⟩
        have HO2 : Hid (Blk W2 (g + 1 + 1) 32 #[.bool s0, .bool e0, .int .u64 (n0 : Int), .bool s1, .bool e1, .int .u64 (n1 : Int)]) := Lib.hid (by rw [hw9]; exact put_hi HOd.out _ _ _)
        have HR2 : Hid (Blk W2 (g + 1) 32 #[.bool false, .bool false, .int .u64 0, .bool false, .bool false, .int .u64 0]) := Lib.hid (by rw [hw9]; exact far_hi HRd.out (by omega) _ _ _)
        have HB2 : Hid (Below w.heap.size w W2) := Lib.hid (by rw [hw9]; exact below_hi HBd.out (by omega) _ _ _)
        dsimp only [setHi] at hw9
        rw [← hw9] at hHeld ⊢
        clear hw9
        try simp only [Rg.e1, Rg.e2, Rg.e3]
        refine wpAnyH_done (by kernel_rfl) ?_ _
        go_wp2
        go_roundw
        case rel => exact ⟨hHeld, HR2.out, HB2.out, .inr (.inr ⟨by go_num, HO2.out⟩)⟩
        case measure => simp [intOf]
      exact AllReadyH.nil
    · have HA := Lib.hid hA; have HR := Lib.hid hR; have HO := Lib.hid hO; have HB := Lib.hid hB
      clear hA hR hO hB
      cases Rw6.row HO.out
      cases Rw6.row HR.out
      go_wp2
      (try simp only [Exit.inBlock, Exit.then]); refine bodyPost_ret (results_cell_row rfl _ _ (g + 1) 32 _ (0, 0) _ rfl (Rw6.blk_set HR.out _ _ _ _ _ _) Try.underlying32 rfl info_rps) rfl ?_
      exact ⟨rfl, Rw6.below_set HB.out (by omega) _ _ _ _ _ _⟩
end Go.Proofs.Ythhiagdncjpdcaa.Fh
