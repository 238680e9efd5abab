/-
  Tally: the counters of one block; the library's atomic steps in one goroutine; sum, mayCounter.
-/
import Derived.Test.YtaadpallnhgigaaGen
import Derived.Laws.LoneSync
namespace Go.Proofs.Ytaadpallnhgigaa.Ta
open Go.RowKit Go.Proofs.Ytaadpallnhgigaa.Bt Go.Proofs.Ytaadpallnhgigaa.Mm Go.Proofs.Ytaadpallnhgigaa.Fl Go.Proofs.Ytaadpallnhgigaa.Tg

/-- a and b together, or the greatest number, if that is less -/
def sat (a b : Nat) : Nat := if 18446744073709551615 < a + b then 18446744073709551615 else a + b
theorem sat_lt (a b : Nat) : sat a b < 18446744073709551616 := by unfold sat; split <;> omega

theorem sum_any (a b : Nat) (w : World) (ha : a < 18446744073709551616) (_hb : b < 18446744073709551616) :
    Calls Try.prog 18 #[.int .u64 (a : Nat), .int .u64 (b : Nat)] w fun e w' => e = .returned (.int .u64 (sat a b : Nat)) ∧ w' = w := by
  have h1 : IntKind.u64.wrap (18446744073709551615 - (a : Int)) = 18446744073709551615 - (a : Int) := by rw [IntKind.wrap_u64]; omega
  by_cases h : 18446744073709551615 < a + b
  · have h2 : (18446744073709551615 - (a : Int) < (b : Int)) := by omega
    have hs : sat a b = 18446744073709551615 := by unfold sat; rw [if_pos h]
    have HS := Lib.hid hs; clear hs
    go_enter Try.func18, Try.ntmps18
    go_wp2
    go_ret
    exact ⟨by rw [HS.out]; rfl, rfl⟩
  · have h2 : ¬ (18446744073709551615 - (a : Int) < (b : Int)) := by omega
    have hs : sat a b = a + b := by unfold sat; rw [if_neg h]
    have h3 : IntKind.u64.wrap ((a : Int) + (b : Int)) = (a : Int) + (b : Int) := by rw [IntKind.wrap_u64]; omega
    have hc := Lib.hid (Int.natCast_add a b)
    have HS := Lib.hid hs; clear hs
    go_enter Try.func18, Try.ntmps18
    go_wp2
    go_ret
    exact ⟨by rw [HS.out]; exact congrArg (fun x => Ending.returned (.int .u64 x)) hc.out.symm, rfl⟩

theorem load_at (g i : Nat) (x : Int) (w : World) (h : w.cell? ⟨g, i, none⟩ = some (.int .u64 x)) :
    Calls Try.prog 16 #[.pointer (some ⟨g, i, none⟩)] w fun e w' => e = .returned (.int .u64 x) ∧ w' = w := by
  have hl := run_call_load (P := Try.prog) Try.func20 (by kernel_rfl) (by kernel_rfl) (by kernel_rfl) .u64 (by kernel_rfl) h
  go_enter Try.func16, Try.ntmps16
  go_wp2
  go_ret
  exact ⟨rfl, rfl⟩
theorem cas_at (g i : Nat) (x y : Int) (w : World) (h : w.cell? ⟨g, i, none⟩ = some (.int .u64 x)) (hz : w.frozen? ⟨g, i, none⟩ = false) :
    Calls Try.prog 17 #[.pointer (some ⟨g, i, none⟩), .int .u64 x, .int .u64 y] w fun e w' => e = .returned (.bool true) ∧ w' = w.setCell ⟨g, i, none⟩ (.int .u64 y) := by
  have hl := run_call_cas_hit (P := Try.prog) Try.func21 (by kernel_rfl) (by kernel_rfl) (by kernel_rfl) .u64 (by kernel_rfl) (y := y) h hz
  go_enter Try.func17, Try.ntmps17
  go_wp2
  go_ret
  exact ⟨rfl, rfl⟩
theorem run_call_swap {P : Program} {f : FuncId} {fn : Func} (hf : P.funcs[f]? = some fn) (hname : (fn.name == "runtime.NumGoroutine") = false) (hb : fn.body.isNone = true) (hn : Extern.findNext fn = none) (k : IntKind)
    (he : Extern.find fn = some (Extern.Atomic.swapT (.int k))) {a : Addr} {x y : Int} {w : World} (hc : w.cell? a = some (.int k x)) (hz : w.frozen? a = false) :
    (callFunc f #[.pointer (some a), .int k y]).run P w = .ok (.value (.int k x)) (w.setCell a (.int k y)) := by
  rw [run_callFunc_extern hf hname hb hn he]
  change (Sem.run P (do
    let a' ← asAddr (.pointer (some a))
    let old ← Extern.Atomic.read (.int k) a'
    store a' (.int k y) .atomic
    pure old) w).andThen _ = _
  simp [Extern.Atomic.read, asAddr, hc, hz, run_store P w a (.int k y) .atomic rfl, Result.andThen]
theorem swap_at (g i : Nat) (x y : Int) (w : World) (h : w.cell? ⟨g, i, none⟩ = some (.int .u64 x)) (hz : w.frozen? ⟨g, i, none⟩ = false) :
    Calls Try.prog 14 #[.pointer (some ⟨g, i, none⟩), .int .u64 y] w fun e w' => e = .returned (.int .u64 x) ∧ w' = w.setCell ⟨g, i, none⟩ (.int .u64 y) := by
  have hl := run_call_swap (P := Try.prog) Try.func19 (by kernel_rfl) (by kernel_rfl) (by kernel_rfl) .u64 (by kernel_rfl) (y := y) h hz
  go_enter Try.func14, Try.ntmps14
  go_wp2
  go_ret
  exact ⟨rfl, rfl⟩
theorem may_t (k : Int) (t : Bool) (w : World) (ht : Hid (decide (0 ≤ k ∧ k < 16) = t)) :
    Calls Try.prog 15 #[.int .i64 k] w fun e w' => e = .returned (.bool t) ∧ w' = w := by
  by_cases h1 : 0 ≤ k
  · by_cases h2 : k < 16
    · go_enter Try.func15, Try.ntmps15
      go_wp2
      go_ret
      exact ⟨ret_bool ((decide_eq_true ⟨h1, h2⟩).symm.trans ht.out), rfl⟩
    · go_enter Try.func15, Try.ntmps15
      go_wp2
      go_ret
      exact ⟨ret_bool ((decide_eq_false (by omega)).symm.trans ht.out), rfl⟩
  · go_enter Try.func15, Try.ntmps15
    go_wp2
    go_ret
    exact ⟨ret_bool ((decide_eq_false (by omega)).symm.trans ht.out), rfl⟩
theorem may_any (k : Int) (w : World) :
    Calls Try.prog 15 #[.int .i64 k] w fun e w' => e = .returned (.bool (decide (0 ≤ k ∧ k < 16))) ∧ w' = w := may_t k _ w (Lib.hid rfl)
end Go.Proofs.Ytaadpallnhgigaa.Ta
