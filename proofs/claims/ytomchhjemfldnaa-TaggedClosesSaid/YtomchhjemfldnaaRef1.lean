/-
  Contracts of the document's bits and Pack.
-/
import Derived.Test.YtomchhjemfldnaaField3
import Derived.Maps.AppendAt
namespace Go.Proofs.Ytomchhjemfldnaa.Rf
open Go.RowKit Go.Proofs.Ytomchhjemfldnaa.Bt Go.Proofs.Ytomchhjemfldnaa.Mm Go.Proofs.Ytomchhjemfldnaa.Fl

theorem info_int : (Try.prog.info? 3).map (fun i => (i.zero, i.size, i.bytes)) = some (some (.int .i64 0), 1, 8) := by kernel_rfl
/-- of the bits those that have been told, from the last on -/
def low (v n j i : Nat) : Nat := if n ≤ i + j then v / 2 ^ (n - 1 - i) % 2 else 0
theorem low_step (v n j : Nat) (h : j < n) : (numCells .i64 n (low v n j)).setIfInBounds (n - 1 - j) (.int .i64 ((v / 2 ^ j % 2 : Nat) : Int)) = numCells .i64 n (low v n (j + 1)) := by
  refine put_numCells .i64 n _ _ _ _ ?_ ?_
  · unfold low
    rw [if_pos (by omega), show n - 1 - (n - 1 - j) = j by omega]
  · intro i hi
    unfold low
    by_cases e : n ≤ i + j
    · rw [if_pos e, if_pos (by omega)]
    · rw [if_neg e, if_neg (by omega)]

set_option maxHeartbeats 400000 in
theorem bits_any (v n : Nat) (w : World) (hv : v < 18446744073709551616) (hn : n ≤ 64) :
    Calls Try.prog 33 #[.int .u64 v, .int .i64 n] w fun e w' => e = .returned (.tuple #[.slice (some ⟨w.heap.size, 0, none⟩) n n, .bool (decide (v < 2 ^ n))]) ∧
      Blk w' w.heap.size 3 (numCells .i64 n (nth (bitsN v n))) ∧ Below w.heap.size w w' := by
  obtain ⟨i0, hi, hz0, hz1, hz2⟩ := info_parts info_int
  have hmk : (Instr.makeSlice 65 (.int .i64 (n : Int)) (.int .i64 (n : Int))).run Try.prog w =
      .ok (.slice (some ⟨w.heap.size, 0, none⟩) n n) (w.alloc (.cells (numCells .i64 n (low v n 0)) 3)) := by
    have h := run_make (P := Try.prog) w 65 3 i0 (.int .i64 0) Try.underlying65 hi hz0 .i64 .i64 (n : Int) (n : Int) (by omega) (Int.le_refl _) (by rw [hz2]; omega) (by omega)
    rw [show (n : Int).toNat = n by omega, hz1, made_nums, numCells_congr (g := low v n 0) (fun i hi => by unfold low; rw [if_neg (by omega)])] at h
    exact h
  go_enter Try.func33, Try.ntmps33
  go_wp2
  go_loopw [0, 7] (fun x i wr => ∃ j : Nat, j ≤ n ∧ i = .int .i64 ((n : Int) - 1 - j) ∧ x = .int .u64 (v / 2 ^ j : Nat) ∧ Blk wr w.heap.size 3 (numCells .i64 n (low v n j)) ∧ Below w.heap.size w wr) (fun _ i _ => (intOf i + 1).toNat)
  case atStart => exact ⟨0, Nat.zero_le _, by go_num, by simp, Blk.fresh _ _ _, (Below.refl _ _).alloc (Nat.le_refl _) _⟩
  case round =>
    obtain ⟨j, hj, rfl, rfl, hg, hb⟩ := hrel
    have hvj : v / 2 ^ j ≤ v := Nat.div_le_self _ _
    have hstep : v / 2 ^ (j + 1) = v / 2 ^ j / 2 := by rw [Nat.pow_succ, Nat.div_div_eq_div_mul]
    have hfin : decide (v < 2 ^ j) = ((v / 2 ^ j : Nat) == (0 : Int)) := by
      rw [Bool.eq_iff_iff]
      simp only [decide_eq_true_eq, beq_iff_eq]
      have := Nat.two_pow_pos j
      constructor
      · intro h
        rw [Nat.div_eq_of_lt h]; rfl
      · intro h
        rcases Nat.lt_or_ge v (2 ^ j) with h2 | h2
        · exact h2
        · have := Nat.div_pos h2 this; omega
    have HF := Lib.hid hfin; clear hfin
    have hst2 : j < n → (numCells .i64 n (low v n j)).setIfInBounds (n - 1 - j) (.int .i64 ((v / 2 ^ j % 2 : Nat) : Int)) = numCells .i64 n (low v n (j + 1)) := low_step v n j
    generalize v / 2 ^ j = x at *
    have HS := Lib.hid hstep; clear hstep
    have HL := Lib.hid hst2; clear hst2
    by_cases hlt : j < n
    · have c1 := hg.cell (n - 1 - j)
      rw [get_numCells _ _ _ _ (by omega)] at c1
      have c2 := hg.frozen (n - 1 - j)
      have HG := Lib.hid hg; clear hg
      have HB := Lib.hid hb; clear hb
      have hge : (0 : Int) ≤ (n : Int) - 1 - j := by omega
      go_wp2
      go_roundw
      case rel =>
        refine ⟨j + 1, by omega, by go_num, by rw [HS.out]; go_num, ?_, HB.out.setCell (Nat.le_refl _) _⟩
        have h1 := HG.out.put (n - 1 - j) (.int .i64 ((x % 2 : Nat) : Int))
        rw [HL.out hlt] at h1
        exact h1
      case measure => simp [intOf]; omega
    · obtain rfl : j = n := by omega
      have HG := Lib.hid hg; clear hg
      have HB := Lib.hid hb; clear hb
      clear hmk
      go_wp2
      go_ret2
      refine ⟨ret_tup (by rw [HF.out]; rfl), ?_, HB.out⟩
      rw [← numCells_congr (kd := .i64) (m := j) (f := low v j j) (fun i hi => by unfold low; rw [if_pos (by omega), nth_bitsN _ _ _ hi])]
      exact HG.out
end Go.Proofs.Ytomchhjemfldnaa.Rf
