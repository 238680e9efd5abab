/-
  Burst: New, Begin, End, Tick, the program's and the document's.
-/
import Derived.Test.YthhiagdncjpdcaaGen
namespace Go.Proofs.Ythhiagdncjpdcaa.Bu
open Go.RowKit Go.Proofs.Ythhiagdncjpdcaa.Mm Go.Proofs.Ythhiagdncjpdcaa.Tg
set_option linter.unusedVariables false

abbrev buC (g p n : Int) (on : Bool) (s : Int) : Array Value := #[.int .i64 g, .int .i64 p, .int .i64 n, .bool on, .int .i64 s]
abbrev buV (g p n : Int) (on : Bool) (s : Int) : Value := .agg (buC g p n on s)
abbrev zeroB : Array Value := buC 0 0 0 false 0
theorem info_b : (Try.prog.info? 50).map (·.size) = some 5 := by kernel_rfl
theorem info_rb : (Try.prog.info? 54).map (·.size) = some 5 := by kernel_rfl
theorem below_two (w : World) (a b : Obj) : Below w.heap.size w ((w.alloc a).alloc b) := ((Below.refl w.heap.size w).alloc (Nat.le_refl _) a).alloc (by simp) b
theorem blk_two (w : World) (t s : TypeId) (x y : Array Value) : Blk ((w.alloc (.cells x t)).alloc (.cells y s)) w.heap.size t x := (Blk.fresh w t x).alloc _

theorem may_yes (n : Int) (w : World) (h1 : 1 ≤ n) (h2 : n ≤ 1048576) : Calls Try.prog 23 #[.int .i64 n] w fun e w' => e = .returned (.bool true) ∧ w = w' := by
  have d1 : decide (1 ≤ n) = true := decide_eq_true h1
  have d2 : decide (n ≤ 1048576) = true := decide_eq_true h2
  go_enter Try.func23, Try.ntmps23
  go_wp2
  go_ret
  exact ⟨rfl, rfl⟩
theorem may_no (n : Int) (w : World) (h : ¬ (1 ≤ n ∧ n ≤ 1048576)) : Calls Try.prog 23 #[.int .i64 n] w fun e w' => e = .returned (.bool false) ∧ w = w' := by
  by_cases h1 : 1 ≤ n
  · have d1 : decide (1 ≤ n) = true := decide_eq_true h1
    have d2 : decide (n ≤ 1048576) = false := decide_eq_false (by omega)
    clear h h1
    go_enter Try.func23, Try.ntmps23
    go_wp2
    go_ret
    exact ⟨rfl, rfl⟩
  · have d1 : decide (1 ≤ n) = false := decide_eq_false h1
    clear h h1
    go_enter Try.func23, Try.ntmps23
    go_wp2
    go_ret
    exact ⟨rfl, rfl⟩
def okT (n : Int) : Prop := 1 ≤ n ∧ n ≤ 1048576

set_option maxHeartbeats 1000000 in
theorem new_ok (g p : Int) (w : World) (h1 : okT g) (h2 : okT p) :
    Calls Try.prog 13 #[.int .i64 g, .int .i64 p] w fun x w' => x = .returned (.tuple #[buV g p 0 false 0, .int .i64 0]) ∧ Below w.heap.size w w' := by
  have H1 := Lib.hid h1
  clear h1
  have H2 := Lib.hid h2
  clear h2
  go_enter Try.func13, Try.ntmps13
  go_upto_region 1 with (fail)
  have HR := Lib.hid (Blk.fresh w 50 zeroB)
  have HB := Lib.hid ((Below.refl w.heap.size w).alloc (Nat.le_refl _) (.cells zeroB 50))
  generalize w.alloc (.cells zeroB 50) = w0 at HR HB ⊢
  cases Rw5.row HR.out
  go_wp2_with fail
  refine (may_yes g w0 H1.out.1 H1.out.2).mono ?_
  rintro x w1 ⟨rfl, rfl⟩
  go_wp2_with fail
  refine (may_yes p w0 H2.out.1 H2.out.2).mono ?_
  rintro x w1 ⟨rfl, rfl⟩
  go_wp2
  (try simp only [Exit.inBlock, Exit.then]); refine bodyPost_ret (results_row2 rfl _ _ w.heap.size 50 _ (0, 0) _ rfl (Rw5.blk_set HR.out _ _ _ _ _) Try.underlying50 rfl info_b) rfl ?_
  exact ⟨rfl, Rw5.below_set HB.out (Nat.le_refl _) _ _ _ _ _⟩
set_option maxHeartbeats 1000000 in
theorem new_bada (g p : Int) (w : World) (h1 : ¬ okT g) :
    Calls Try.prog 13 #[.int .i64 g, .int .i64 p] w fun x w' => x = .returned (.tuple #[buV 0 0 0 false 0, .int .i64 4]) ∧ Below w.heap.size w w' := by
  have H1 := Lib.hid h1
  clear h1
  go_enter Try.func13, Try.ntmps13
  go_upto_region 1 with (fail)
  have HR := Lib.hid (Blk.fresh w 50 zeroB)
  have HB := Lib.hid ((Below.refl w.heap.size w).alloc (Nat.le_refl _) (.cells zeroB 50))
  generalize w.alloc (.cells zeroB 50) = w0 at HR HB ⊢
  cases Rw5.row HR.out
  go_wp2_with fail
  refine (may_no g w0 H1.out).mono ?_
  rintro x w1 ⟨rfl, rfl⟩
  go_wp2
  (try simp only [Exit.inBlock, Exit.then]); refine bodyPost_ret (results_row2 rfl _ _ w.heap.size 50 _ (0, 0) _ rfl (Rw5.blk_set HR.out _ _ _ _ _) Try.underlying50 rfl info_b) rfl ?_
  exact ⟨rfl, Rw5.below_set HB.out (Nat.le_refl _) _ _ _ _ _⟩
set_option maxHeartbeats 1000000 in
theorem new_badb (g p : Int) (w : World) (h1 : okT g) (h2 : ¬ okT p) :
    Calls Try.prog 13 #[.int .i64 g, .int .i64 p] w fun x w' => x = .returned (.tuple #[buV 0 0 0 false 0, .int .i64 4]) ∧ Below w.heap.size w w' := by
  have H1 := Lib.hid h1
  clear h1
  have H2 := Lib.hid h2
  clear h2
  go_enter Try.func13, Try.ntmps13
  go_upto_region 1 with (fail)
  have HR := Lib.hid (Blk.fresh w 50 zeroB)
  have HB := Lib.hid ((Below.refl w.heap.size w).alloc (Nat.le_refl _) (.cells zeroB 50))
  generalize w.alloc (.cells zeroB 50) = w0 at HR HB ⊢
  cases Rw5.row HR.out
  go_wp2_with fail
  refine (may_yes g w0 H1.out.1 H1.out.2).mono ?_
  rintro x w1 ⟨rfl, rfl⟩
  go_wp2_with fail
  refine (may_no p w0 H2.out).mono ?_
  rintro x w1 ⟨rfl, rfl⟩
  go_wp2
  (try simp only [Exit.inBlock, Exit.then]); refine bodyPost_ret (results_row2 rfl _ _ w.heap.size 50 _ (0, 0) _ rfl (Rw5.blk_set HR.out _ _ _ _ _) Try.underlying50 rfl info_b) rfl ?_
  exact ⟨rfl, Rw5.below_set HB.out (Nat.le_refl _) _ _ _ _ _⟩
set_option maxHeartbeats 1000000 in
theorem begin_at (g p n : Int) (on : Bool) (s now : Int) (w : World) : Calls Try.prog 16 #[buV g p n on s, .int .i64 now] w fun x w' => x = .returned (buV g p now true 0) ∧ Below w.heap.size w w' := by
  go_enter Try.func16, Try.ntmps16
  go_upto_region 1 with (fail)
  have HA := Lib.hid (blk_two w 50 50 (buC g p n on s) zeroB)
  have HR := Lib.hid (fresh_second w (.cells (buC g p n on s) 50) 50 zeroB)
  have HB := Lib.hid (below_two w (.cells (buC g p n on s) 50) (.cells zeroB 50))
  generalize (w.alloc (.cells (buC g p n on s) 50)).alloc (.cells zeroB 50) = w0 at HA HR HB ⊢
  cases Rw5.row HA.out
  cases Rw5.row HR.out
  go_wp2
  (try simp only [Exit.inBlock, Exit.then]); refine bodyPost_ret (results_cell_row rfl _ _ (w.heap.size + 1) 50 _ (0, 0) _ rfl (Rw5.blk_set HR.out _ _ _ _ _) Try.underlying50 rfl info_b) rfl ?_
  exact ⟨rfl, Rw5.below_set HB.out (by omega) _ _ _ _ _⟩
set_option maxHeartbeats 1000000 in
theorem end_at (g p n : Int) (on : Bool) (s : Int) (w : World) : Calls Try.prog 18 #[buV g p n on s] w fun x w' => x = .returned (buV g p 0 false 0) ∧ Below w.heap.size w w' := by
  go_enter Try.func18, Try.ntmps18
  go_upto_region 1 with (fail)
  have HA := Lib.hid (blk_two w 50 50 (buC g p n on s) zeroB)
  have HR := Lib.hid (fresh_second w (.cells (buC g p n on s) 50) 50 zeroB)
  have HB := Lib.hid (below_two w (.cells (buC g p n on s) 50) (.cells zeroB 50))
  generalize (w.alloc (.cells (buC g p n on s) 50)).alloc (.cells zeroB 50) = w0 at HA HR HB ⊢
  cases Rw5.row HA.out
  cases Rw5.row HR.out
  go_wp2
  (try simp only [Exit.inBlock, Exit.then]); refine bodyPost_ret (results_cell_row rfl _ _ (w.heap.size + 1) 50 _ (0, 0) _ rfl (Rw5.blk_set HR.out _ _ _ _ _) Try.underlying50 rfl info_b) rfl ?_
  exact ⟨rfl, Rw5.below_set HB.out (by omega) _ _ _ _ _⟩
set_option maxHeartbeats 1000000 in
theorem rbegin_at (g p n : Int) (on : Bool) (s now : Int) (w : World) : Calls Try.prog 17 #[buV g p n on s, .int .i64 now] w fun x w' => x = .returned (buV g p now true 0) ∧ Below w.heap.size w w' := by
  go_enter Try.func17, Try.ntmps17
  go_upto_region 1 with (fail)
  have HA := Lib.hid (blk_two w 54 54 (buC g p n on s) zeroB)
  have HR := Lib.hid (fresh_second w (.cells (buC g p n on s) 54) 54 zeroB)
  have HB := Lib.hid (below_two w (.cells (buC g p n on s) 54) (.cells zeroB 54))
  generalize (w.alloc (.cells (buC g p n on s) 54)).alloc (.cells zeroB 54) = w0 at HA HR HB ⊢
  cases Rw5.row HA.out
  cases Rw5.row HR.out
  go_wp2
  (try simp only [Exit.inBlock, Exit.then]); refine bodyPost_ret (results_cell_row rfl _ _ (w.heap.size + 1) 54 _ (0, 0) _ rfl (Rw5.blk_set HR.out _ _ _ _ _) Try.underlying54 rfl info_rb) rfl ?_
  exact ⟨rfl, Rw5.below_set HB.out (by omega) _ _ _ _ _⟩
set_option maxHeartbeats 1000000 in
theorem rend_at (g p n : Int) (on : Bool) (s : Int) (w : World) : Calls Try.prog 19 #[buV g p n on s] w fun x w' => x = .returned (buV g p 0 false 0) ∧ Below w.heap.size w w' := by
  go_enter Try.func19, Try.ntmps19
  go_upto_region 1 with (fail)
  have HA := Lib.hid (blk_two w 54 54 (buC g p n on s) zeroB)
  have HR := Lib.hid (fresh_second w (.cells (buC g p n on s) 54) 54 zeroB)
  have HB := Lib.hid (below_two w (.cells (buC g p n on s) 54) (.cells zeroB 54))
  generalize (w.alloc (.cells (buC g p n on s) 54)).alloc (.cells zeroB 54) = w0 at HA HR HB ⊢
  cases Rw5.row HA.out
  cases Rw5.row HR.out
  go_wp2
  (try simp only [Exit.inBlock, Exit.then]); refine bodyPost_ret (results_cell_row rfl _ _ (w.heap.size + 1) 54 _ (0, 0) _ rfl (Rw5.blk_set HR.out _ _ _ _ _) Try.underlying54 rfl info_rb) rfl ?_
  exact ⟨rfl, Rw5.below_set HB.out (by omega) _ _ _ _ _⟩
set_option maxHeartbeats 1000000 in
theorem tick_off (g p n : Int) (on : Bool) (s now : Int) (w : World) (h0 : on = false) :
    Calls Try.prog 14 #[buV g p n on s, .int .i64 now] w fun x w' => x = .returned (.tuple #[buV g p n on s, .bool false]) ∧ Below w.heap.size w w' := by
  subst h0
  go_enter Try.func14, Try.ntmps14
  go_upto_region 1 with (fail)
  have HA := Lib.hid (blk_two w 50 50 (buC g p n false s) zeroB)
  have HR := Lib.hid (fresh_second w (.cells (buC g p n false s) 50) 50 zeroB)
  have HB := Lib.hid (below_two w (.cells (buC g p n false s) 50) (.cells zeroB 50))
  generalize (w.alloc (.cells (buC g p n false s) 50)).alloc (.cells zeroB 50) = w0 at HA HR HB ⊢
  cases Rw5.row HA.out
  cases Rw5.row HR.out
  go_wp2
  (try simp only [Exit.inBlock, Exit.then]); refine bodyPost_ret (results_row2 rfl _ _ (w.heap.size + 1) 50 _ (0, 0) _ rfl (Rw5.blk_set HR.out _ _ _ _ _) Try.underlying50 rfl info_b) rfl ?_
  exact ⟨rfl, Rw5.below_set HB.out (by omega) _ _ _ _ _⟩
set_option maxHeartbeats 1000000 in
theorem tick_early (g p n : Int) (on : Bool) (s now : Int) (w : World) (h0 : on = true) (q1 : decide (now < n) = true) :
    Calls Try.prog 14 #[buV g p n on s, .int .i64 now] w fun x w' => x = .returned (.tuple #[buV g p n on s, .bool false]) ∧ Below w.heap.size w w' := by
  subst h0
  go_enter Try.func14, Try.ntmps14
  go_upto_region 1 with (fail)
  have HA := Lib.hid (blk_two w 50 50 (buC g p n true s) zeroB)
  have HR := Lib.hid (fresh_second w (.cells (buC g p n true s) 50) 50 zeroB)
  have HB := Lib.hid (below_two w (.cells (buC g p n true s) 50) (.cells zeroB 50))
  generalize (w.alloc (.cells (buC g p n true s) 50)).alloc (.cells zeroB 50) = w0 at HA HR HB ⊢
  cases Rw5.row HA.out
  cases Rw5.row HR.out
  go_wp2
  (try simp only [Exit.inBlock, Exit.then]); refine bodyPost_ret (results_row2 rfl _ _ (w.heap.size + 1) 50 _ (0, 0) _ rfl (Rw5.blk_set HR.out _ _ _ _ _) Try.underlying50 rfl info_b) rfl ?_
  exact ⟨rfl, Rw5.below_set HB.out (by omega) _ _ _ _ _⟩
set_option maxHeartbeats 1000000 in
theorem tick_s0 (g p n : Int) (on : Bool) (s now : Int) (m1 m2 : Int) (w : World) (h0 : on = true) (q1 : decide (now < n) = false) (v1 : IntKind.i64.wrap (now + p) = m1) (v2 : IntKind.i64.wrap (now + g) = m2) (hs : s = 0) :
    Calls Try.prog 14 #[buV g p n on s, .int .i64 now] w fun x w' => x = .returned (.tuple #[buV g p m2 on 1, .bool true]) ∧ Below w.heap.size w w' := by
  subst h0
  subst hs
  go_enter Try.func14, Try.ntmps14
  go_upto_region 1 with (fail)
  have HA := Lib.hid (blk_two w 50 50 (buC g p n true 0) zeroB)
  have HR := Lib.hid (fresh_second w (.cells (buC g p n true 0) 50) 50 zeroB)
  have HB := Lib.hid (below_two w (.cells (buC g p n true 0) 50) (.cells zeroB 50))
  generalize (w.alloc (.cells (buC g p n true 0) 50)).alloc (.cells zeroB 50) = w0 at HA HR HB ⊢
  cases Rw5.row HA.out
  cases Rw5.row HR.out
  go_wp2
  (try simp only [Exit.inBlock, Exit.then]); refine bodyPost_ret (results_row2 rfl _ _ (w.heap.size + 1) 50 _ (0, 0) _ rfl (Rw5.blk_set (((HR.out.far (p := ⟨w.heap.size, 2, none⟩) (by simp) _).far (p := ⟨w.heap.size, 2, none⟩) (by simp) _).far (p := ⟨w.heap.size, 4, none⟩) (by simp) _) _ _ _ _ _) Try.underlying50 rfl info_b) rfl ?_
  exact ⟨rfl, Rw5.below_set (((HB.out.setCell (p := ⟨w.heap.size, 2, none⟩) (Nat.le_refl _) _).setCell (p := ⟨w.heap.size, 2, none⟩) (Nat.le_refl _) _).setCell (p := ⟨w.heap.size, 4, none⟩) (Nat.le_refl _) _) (by omega) _ _ _ _ _⟩
set_option maxHeartbeats 1000000 in
theorem tick_s1 (g p n : Int) (on : Bool) (s now : Int) (m1 m2 : Int) (w : World) (h0 : on = true) (q1 : decide (now < n) = false) (v1 : IntKind.i64.wrap (now + p) = m1) (v2 : IntKind.i64.wrap (now + g) = m2) (hs : s = 1) :
    Calls Try.prog 14 #[buV g p n on s, .int .i64 now] w fun x w' => x = .returned (.tuple #[buV g p m2 on 2, .bool true]) ∧ Below w.heap.size w w' := by
  subst h0
  subst hs
  go_enter Try.func14, Try.ntmps14
  go_upto_region 1 with (fail)
  have HA := Lib.hid (blk_two w 50 50 (buC g p n true 1) zeroB)
  have HR := Lib.hid (fresh_second w (.cells (buC g p n true 1) 50) 50 zeroB)
  have HB := Lib.hid (below_two w (.cells (buC g p n true 1) 50) (.cells zeroB 50))
  generalize (w.alloc (.cells (buC g p n true 1) 50)).alloc (.cells zeroB 50) = w0 at HA HR HB ⊢
  cases Rw5.row HA.out
  cases Rw5.row HR.out
  go_wp2
  (try simp only [Exit.inBlock, Exit.then]); refine bodyPost_ret (results_row2 rfl _ _ (w.heap.size + 1) 50 _ (0, 0) _ rfl (Rw5.blk_set (((HR.out.far (p := ⟨w.heap.size, 2, none⟩) (by simp) _).far (p := ⟨w.heap.size, 2, none⟩) (by simp) _).far (p := ⟨w.heap.size, 4, none⟩) (by simp) _) _ _ _ _ _) Try.underlying50 rfl info_b) rfl ?_
  exact ⟨rfl, Rw5.below_set (((HB.out.setCell (p := ⟨w.heap.size, 2, none⟩) (Nat.le_refl _) _).setCell (p := ⟨w.heap.size, 2, none⟩) (Nat.le_refl _) _).setCell (p := ⟨w.heap.size, 4, none⟩) (Nat.le_refl _) _) (by omega) _ _ _ _ _⟩
set_option maxHeartbeats 1000000 in
theorem tick_s2 (g p n : Int) (on : Bool) (s now : Int) (m1 m2 : Int) (w : World) (h0 : on = true) (q1 : decide (now < n) = false) (v1 : IntKind.i64.wrap (now + p) = m1) (v2 : IntKind.i64.wrap (now + g) = m2) (hs : s = 2) :
    Calls Try.prog 14 #[buV g p n on s, .int .i64 now] w fun x w' => x = .returned (.tuple #[buV g p m1 on 3, .bool true]) ∧ Below w.heap.size w w' := by
  subst h0
  subst hs
  go_enter Try.func14, Try.ntmps14
  go_upto_region 1 with (fail)
  have HA := Lib.hid (blk_two w 50 50 (buC g p n true 2) zeroB)
  have HR := Lib.hid (fresh_second w (.cells (buC g p n true 2) 50) 50 zeroB)
  have HB := Lib.hid (below_two w (.cells (buC g p n true 2) 50) (.cells zeroB 50))
  generalize (w.alloc (.cells (buC g p n true 2) 50)).alloc (.cells zeroB 50) = w0 at HA HR HB ⊢
  cases Rw5.row HA.out
  cases Rw5.row HR.out
  go_wp2
  (try simp only [Exit.inBlock, Exit.then]); refine bodyPost_ret (results_row2 rfl _ _ (w.heap.size + 1) 50 _ (0, 0) _ rfl (Rw5.blk_set ((HR.out.far (p := ⟨w.heap.size, 2, none⟩) (by simp) _).far (p := ⟨w.heap.size, 4, none⟩) (by simp) _) _ _ _ _ _) Try.underlying50 rfl info_b) rfl ?_
  exact ⟨rfl, Rw5.below_set ((HB.out.setCell (p := ⟨w.heap.size, 2, none⟩) (Nat.le_refl _) _).setCell (p := ⟨w.heap.size, 4, none⟩) (Nat.le_refl _) _) (by omega) _ _ _ _ _⟩
set_option maxHeartbeats 1000000 in
theorem tick_s3 (g p n : Int) (on : Bool) (s now : Int) (m1 m2 : Int) (w : World) (h0 : on = true) (q1 : decide (now < n) = false) (v1 : IntKind.i64.wrap (now + p) = m1) (v2 : IntKind.i64.wrap (now + g) = m2) (hs : s = 3) :
    Calls Try.prog 14 #[buV g p n on s, .int .i64 now] w fun x w' => x = .returned (.tuple #[buV g p m1 on 3, .bool true]) ∧ Below w.heap.size w w' := by
  subst h0
  subst hs
  go_enter Try.func14, Try.ntmps14
  go_upto_region 1 with (fail)
  have HA := Lib.hid (blk_two w 50 50 (buC g p n true 3) zeroB)
  have HR := Lib.hid (fresh_second w (.cells (buC g p n true 3) 50) 50 zeroB)
  have HB := Lib.hid (below_two w (.cells (buC g p n true 3) 50) (.cells zeroB 50))
  generalize (w.alloc (.cells (buC g p n true 3) 50)).alloc (.cells zeroB 50) = w0 at HA HR HB ⊢
  cases Rw5.row HA.out
  cases Rw5.row HR.out
  go_wp2
  (try simp only [Exit.inBlock, Exit.then]); refine bodyPost_ret (results_row2 rfl _ _ (w.heap.size + 1) 50 _ (0, 0) _ rfl (Rw5.blk_set ((HR.out.far (p := ⟨w.heap.size, 2, none⟩) (by simp) _).far (p := ⟨w.heap.size, 4, none⟩) (by simp) _) _ _ _ _ _) Try.underlying50 rfl info_b) rfl ?_
  exact ⟨rfl, Rw5.below_set ((HB.out.setCell (p := ⟨w.heap.size, 2, none⟩) (Nat.le_refl _) _).setCell (p := ⟨w.heap.size, 4, none⟩) (Nat.le_refl _) _) (by omega) _ _ _ _ _⟩
theorem tick_any {n' s' : Int} {y : Bool} (g p n : Int) (on : Bool) (s now : Int) (w : World) (hg : okT g) (hp : okT p) (hs : 0 ≤ s ∧ s ≤ 3) (hn : 0 ≤ now ∧ now ≤ 2199023255552)
    (h : if on = true ∧ n ≤ now then n' = (if s < 2 then now + g else now + p) ∧ s' = (if s < 3 then s + 1 else 3) ∧ y = true else n' = n ∧ s' = s ∧ y = false) :
    Calls Try.prog 14 #[buV g p n on s, .int .i64 now] w fun x w' => x = .returned (.tuple #[buV g p n' on s', .bool y]) ∧ Below w.heap.size w w' := by
  unfold okT at hg hp
  have v1 : IntKind.i64.wrap (now + p) = now + p := by rw [IntKind.wrap_i64]; omega
  have v2 : IntKind.i64.wrap (now + g) = now + g := by rw [IntKind.wrap_i64]; omega
  by_cases h0 : on = true
  · by_cases h1 : n ≤ now
    · rw [if_pos ⟨h0, h1⟩] at h
      have q1 : decide (now < n) = false := decide_eq_false (by omega)
      obtain ⟨hs0, hs3⟩ := hs
      have hk : s = 0 ∨ s = 1 ∨ s = 2 ∨ s = 3 := by omega
      rcases hk with hk | hk | hk | hk
      · subst hk; simp only [show ((0:Int) < 2) = True by simp, show ((0:Int) < 3) = True by simp, if_true] at h; obtain ⟨rfl, rfl, rfl⟩ := h; exact tick_s0 g p n on 0 now _ _ w h0 q1 v1 v2 rfl
      · subst hk; simp only [show ((1:Int) < 2) = True by simp, show ((1:Int) < 3) = True by simp, if_true] at h; obtain ⟨rfl, rfl, rfl⟩ := h; exact tick_s1 g p n on 1 now _ _ w h0 q1 v1 v2 rfl
      · subst hk; simp only [show ((2:Int) < 2) = False by simp, show ((2:Int) < 3) = True by simp, if_true, if_false] at h; obtain ⟨rfl, rfl, rfl⟩ := h; exact tick_s2 g p n on 2 now _ _ w h0 q1 v1 v2 rfl
      · subst hk; simp only [show ((3:Int) < 2) = False by simp, show ((3:Int) < 3) = False by simp, if_false] at h; obtain ⟨rfl, rfl, rfl⟩ := h; exact tick_s3 g p n on 3 now _ _ w h0 q1 v1 v2 rfl
    · rw [if_neg (by intro hh; exact h1 hh.2)] at h
      obtain ⟨rfl, rfl, rfl⟩ := h
      exact tick_early g p _ on _ now w h0 (decide_eq_true (by omega))
  · rw [if_neg (by intro hh; exact h0 hh.1)] at h
    obtain ⟨rfl, rfl, rfl⟩ := h
    exact tick_off g p _ on _ now w (by simpa using h0)
set_option maxHeartbeats 1000000 in
theorem rtick_off (g p n : Int) (on : Bool) (s now : Int) (w : World) (h0 : on = false) :
    Calls Try.prog 15 #[buV g p n on s, .int .i64 now] w fun x w' => x = .returned (.tuple #[buV g p n on s, .bool false]) ∧ Below w.heap.size w w' := by
  subst h0
  go_enter Try.func15, Try.ntmps15
  go_upto_region 1 with (fail)
  have HA := Lib.hid (blk_two w 54 54 (buC g p n false s) zeroB)
  have HR := Lib.hid (fresh_second w (.cells (buC g p n false s) 54) 54 zeroB)
  have HB := Lib.hid (below_two w (.cells (buC g p n false s) 54) (.cells zeroB 54))
  generalize (w.alloc (.cells (buC g p n false s) 54)).alloc (.cells zeroB 54) = w0 at HA HR HB ⊢
  cases Rw5.row HA.out
  cases Rw5.row HR.out
  go_wp2
  (try simp only [Exit.inBlock, Exit.then]); refine bodyPost_ret (results_row2 rfl _ _ (w.heap.size + 1) 54 _ (0, 0) _ rfl (Rw5.blk_set HR.out _ _ _ _ _) Try.underlying54 rfl info_rb) rfl ?_
  exact ⟨rfl, Rw5.below_set HB.out (by omega) _ _ _ _ _⟩
set_option maxHeartbeats 1000000 in
theorem rtick_early (g p n : Int) (on : Bool) (s now : Int) (w : World) (h0 : on = true) (q1 : decide (now < n) = true) :
    Calls Try.prog 15 #[buV g p n on s, .int .i64 now] w fun x w' => x = .returned (.tuple #[buV g p n on s, .bool false]) ∧ Below w.heap.size w w' := by
  subst h0
  go_enter Try.func15, Try.ntmps15
  go_upto_region 1 with (fail)
  have HA := Lib.hid (blk_two w 54 54 (buC g p n true s) zeroB)
  have HR := Lib.hid (fresh_second w (.cells (buC g p n true s) 54) 54 zeroB)
  have HB := Lib.hid (below_two w (.cells (buC g p n true s) 54) (.cells zeroB 54))
  generalize (w.alloc (.cells (buC g p n true s) 54)).alloc (.cells zeroB 54) = w0 at HA HR HB ⊢
  cases Rw5.row HA.out
  cases Rw5.row HR.out
  go_wp2
  (try simp only [Exit.inBlock, Exit.then]); refine bodyPost_ret (results_row2 rfl _ _ (w.heap.size + 1) 54 _ (0, 0) _ rfl (Rw5.blk_set HR.out _ _ _ _ _) Try.underlying54 rfl info_rb) rfl ?_
  exact ⟨rfl, Rw5.below_set HB.out (by omega) _ _ _ _ _⟩
set_option maxHeartbeats 1000000 in
theorem rtick_s0 (g p n : Int) (on : Bool) (s now : Int) (m1 m2 : Int) (w : World) (h0 : on = true) (q1 : decide (now < n) = false) (v1 : IntKind.i64.wrap (now + p) = m1) (v2 : IntKind.i64.wrap (now + g) = m2) (hs : s = 0) :
    Calls Try.prog 15 #[buV g p n on s, .int .i64 now] w fun x w' => x = .returned (.tuple #[buV g p m2 on 1, .bool true]) ∧ Below w.heap.size w w' := by
  subst h0
  subst hs
  go_enter Try.func15, Try.ntmps15
  go_upto_region 1 with (fail)
  have HA := Lib.hid (blk_two w 54 54 (buC g p n true 0) zeroB)
  have HR := Lib.hid (fresh_second w (.cells (buC g p n true 0) 54) 54 zeroB)
  have HB := Lib.hid (below_two w (.cells (buC g p n true 0) 54) (.cells zeroB 54))
  generalize (w.alloc (.cells (buC g p n true 0) 54)).alloc (.cells zeroB 54) = w0 at HA HR HB ⊢
  cases Rw5.row HA.out
  cases Rw5.row HR.out
  go_wp2
  (try simp only [Exit.inBlock, Exit.then]); refine bodyPost_ret (results_row2 rfl _ _ (w.heap.size + 1) 54 _ (0, 0) _ rfl (Rw5.blk_set ((HR.out.far (p := ⟨w.heap.size, 2, none⟩) (by simp) _).far (p := ⟨w.heap.size, 4, none⟩) (by simp) _) _ _ _ _ _) Try.underlying54 rfl info_rb) rfl ?_
  exact ⟨rfl, Rw5.below_set ((HB.out.setCell (p := ⟨w.heap.size, 2, none⟩) (Nat.le_refl _) _).setCell (p := ⟨w.heap.size, 4, none⟩) (Nat.le_refl _) _) (by omega) _ _ _ _ _⟩
set_option maxHeartbeats 1000000 in
theorem rtick_s1 (g p n : Int) (on : Bool) (s now : Int) (m1 m2 : Int) (w : World) (h0 : on = true) (q1 : decide (now < n) = false) (v1 : IntKind.i64.wrap (now + p) = m1) (v2 : IntKind.i64.wrap (now + g) = m2) (hs : s = 1) :
    Calls Try.prog 15 #[buV g p n on s, .int .i64 now] w fun x w' => x = .returned (.tuple #[buV g p m2 on 2, .bool true]) ∧ Below w.heap.size w w' := by
  subst h0
  subst hs
  go_enter Try.func15, Try.ntmps15
  go_upto_region 1 with (fail)
  have HA := Lib.hid (blk_two w 54 54 (buC g p n true 1) zeroB)
  have HR := Lib.hid (fresh_second w (.cells (buC g p n true 1) 54) 54 zeroB)
  have HB := Lib.hid (below_two w (.cells (buC g p n true 1) 54) (.cells zeroB 54))
  generalize (w.alloc (.cells (buC g p n true 1) 54)).alloc (.cells zeroB 54) = w0 at HA HR HB ⊢
  cases Rw5.row HA.out
  cases Rw5.row HR.out
  go_wp2
  (try simp only [Exit.inBlock, Exit.then]); refine bodyPost_ret (results_row2 rfl _ _ (w.heap.size + 1) 54 _ (0, 0) _ rfl (Rw5.blk_set ((HR.out.far (p := ⟨w.heap.size, 2, none⟩) (by simp) _).far (p := ⟨w.heap.size, 4, none⟩) (by simp) _) _ _ _ _ _) Try.underlying54 rfl info_rb) rfl ?_
  exact ⟨rfl, Rw5.below_set ((HB.out.setCell (p := ⟨w.heap.size, 2, none⟩) (Nat.le_refl _) _).setCell (p := ⟨w.heap.size, 4, none⟩) (Nat.le_refl _) _) (by omega) _ _ _ _ _⟩
set_option maxHeartbeats 1000000 in
theorem rtick_s2 (g p n : Int) (on : Bool) (s now : Int) (m1 m2 : Int) (w : World) (h0 : on = true) (q1 : decide (now < n) = false) (v1 : IntKind.i64.wrap (now + p) = m1) (v2 : IntKind.i64.wrap (now + g) = m2) (hs : s = 2) :
    Calls Try.prog 15 #[buV g p n on s, .int .i64 now] w fun x w' => x = .returned (.tuple #[buV g p m1 on 3, .bool true]) ∧ Below w.heap.size w w' := by
  subst h0
  subst hs
  go_enter Try.func15, Try.ntmps15
  go_upto_region 1 with (fail)
  have HA := Lib.hid (blk_two w 54 54 (buC g p n true 2) zeroB)
  have HR := Lib.hid (fresh_second w (.cells (buC g p n true 2) 54) 54 zeroB)
  have HB := Lib.hid (below_two w (.cells (buC g p n true 2) 54) (.cells zeroB 54))
  generalize (w.alloc (.cells (buC g p n true 2) 54)).alloc (.cells zeroB 54) = w0 at HA HR HB ⊢
  cases Rw5.row HA.out
  cases Rw5.row HR.out
  go_wp2
  (try simp only [Exit.inBlock, Exit.then]); refine bodyPost_ret (results_row2 rfl _ _ (w.heap.size + 1) 54 _ (0, 0) _ rfl (Rw5.blk_set ((HR.out.far (p := ⟨w.heap.size, 2, none⟩) (by simp) _).far (p := ⟨w.heap.size, 4, none⟩) (by simp) _) _ _ _ _ _) Try.underlying54 rfl info_rb) rfl ?_
  exact ⟨rfl, Rw5.below_set ((HB.out.setCell (p := ⟨w.heap.size, 2, none⟩) (Nat.le_refl _) _).setCell (p := ⟨w.heap.size, 4, none⟩) (Nat.le_refl _) _) (by omega) _ _ _ _ _⟩
set_option maxHeartbeats 1000000 in
theorem rtick_s3 (g p n : Int) (on : Bool) (s now : Int) (m1 m2 : Int) (w : World) (h0 : on = true) (q1 : decide (now < n) = false) (v1 : IntKind.i64.wrap (now + p) = m1) (v2 : IntKind.i64.wrap (now + g) = m2) (hs : s = 3) :
    Calls Try.prog 15 #[buV g p n on s, .int .i64 now] w fun x w' => x = .returned (.tuple #[buV g p m1 on 3, .bool true]) ∧ Below w.heap.size w w' := by
  subst h0
  subst hs
  go_enter Try.func15, Try.ntmps15
  go_upto_region 1 with (fail)
  have HA := Lib.hid (blk_two w 54 54 (buC g p n true 3) zeroB)
  have HR := Lib.hid (fresh_second w (.cells (buC g p n true 3) 54) 54 zeroB)
  have HB := Lib.hid (below_two w (.cells (buC g p n true 3) 54) (.cells zeroB 54))
  generalize (w.alloc (.cells (buC g p n true 3) 54)).alloc (.cells zeroB 54) = w0 at HA HR HB ⊢
  cases Rw5.row HA.out
  cases Rw5.row HR.out
  go_wp2
  (try simp only [Exit.inBlock, Exit.then]); refine bodyPost_ret (results_row2 rfl _ _ (w.heap.size + 1) 54 _ (0, 0) _ rfl (Rw5.blk_set (HR.out.far (p := ⟨w.heap.size, 2, none⟩) (by simp) _) _ _ _ _ _) Try.underlying54 rfl info_rb) rfl ?_
  exact ⟨rfl, Rw5.below_set (HB.out.setCell (p := ⟨w.heap.size, 2, none⟩) (Nat.le_refl _) _) (by omega) _ _ _ _ _⟩
theorem rtick_any {n' s' : Int} {y : Bool} (g p n : Int) (on : Bool) (s now : Int) (w : World) (hg : okT g) (hp : okT p) (hs : 0 ≤ s ∧ s ≤ 3) (hn : 0 ≤ now ∧ now ≤ 2199023255552)
    (h : if on = true ∧ n ≤ now then n' = (if s < 2 then now + g else now + p) ∧ s' = (if s < 3 then s + 1 else 3) ∧ y = true else n' = n ∧ s' = s ∧ y = false) :
    Calls Try.prog 15 #[buV g p n on s, .int .i64 now] w fun x w' => x = .returned (.tuple #[buV g p n' on s', .bool y]) ∧ Below w.heap.size w w' := by
  unfold okT at hg hp
  have v1 : IntKind.i64.wrap (now + p) = now + p := by rw [IntKind.wrap_i64]; omega
  have v2 : IntKind.i64.wrap (now + g) = now + g := by rw [IntKind.wrap_i64]; omega
  by_cases h0 : on = true
  · by_cases h1 : n ≤ now
    · rw [if_pos ⟨h0, h1⟩] at h
      have q1 : decide (now < n) = false := decide_eq_false (by omega)
      obtain ⟨hs0, hs3⟩ := hs
      have hk : s = 0 ∨ s = 1 ∨ s = 2 ∨ s = 3 := by omega
      rcases hk with hk | hk | hk | hk
      · subst hk; simp only [show ((0:Int) < 2) = True by simp, show ((0:Int) < 3) = True by simp, if_true] at h; obtain ⟨rfl, rfl, rfl⟩ := h; exact rtick_s0 g p n on 0 now _ _ w h0 q1 v1 v2 rfl
      · subst hk; simp only [show ((1:Int) < 2) = True by simp, show ((1:Int) < 3) = True by simp, if_true] at h; obtain ⟨rfl, rfl, rfl⟩ := h; exact rtick_s1 g p n on 1 now _ _ w h0 q1 v1 v2 rfl
      · subst hk; simp only [show ((2:Int) < 2) = False by simp, show ((2:Int) < 3) = True by simp, if_true, if_false] at h; obtain ⟨rfl, rfl, rfl⟩ := h; exact rtick_s2 g p n on 2 now _ _ w h0 q1 v1 v2 rfl
      · subst hk; simp only [show ((3:Int) < 2) = False by simp, show ((3:Int) < 3) = False by simp, if_false] at h; obtain ⟨rfl, rfl, rfl⟩ := h; exact rtick_s3 g p n on 3 now _ _ w h0 q1 v1 v2 rfl
    · rw [if_neg (by intro hh; exact h1 hh.2)] at h
      obtain ⟨rfl, rfl, rfl⟩ := h
      exact rtick_early g p _ on _ now w h0 (decide_eq_true (by omega))
  · rw [if_neg (by intro hh; exact h0 hh.1)] at h
    obtain ⟨rfl, rfl, rfl⟩ := h
    exact rtick_off g p _ on _ now w (by simpa using h0)
end Go.Proofs.Ythhiagdncjpdcaa.Bu
