/-
  Contracts of the document's bits and Pack.
-/
import Derived.Test.YtflofehnclaffaaField3
import Derived.Maps.AppendAt
namespace Go.Proofs.Ytflofehnclaffaa.Rf
open Go.RowKit Go.Proofs.Ytflofehnclaffaa.Bt Go.Proofs.Ytflofehnclaffaa.Mm Go.Proofs.Ytflofehnclaffaa.Fl

theorem info_int : (Try.prog.info? 3).map (fun i => (i.zero, i.size, i.bytes)) = some (some (.int .i64 0), 1, 8) := by kernel_rfl
/-- of the bits those that have been told, from the last on -/
def low (v n j i : Nat) : Nat := if n ≤ i + j then v / 2 ^ (n - 1 - i) % 2 else 0
theorem low_step (v n j : Nat) (h : j < n) : (numCells .i64 n (low v n j)).setIfInBounds (n - 1 - j) (.int .i64 ((v / 2 ^ j % 2 : Nat) : Int)) = numCells .i64 n (low v n (j + 1)) := by
  refine put_numCells .i64 n _ _ _ _ ?_ ?_
  · unfold low
    rw [if_pos (by omega), show n - 1 - (n - 1 - j) = j by omega]
  · intro i hi
    unfold low
    by_cases e : n ≤ i + j
    · rw [if_pos e, if_pos (by omega)]
    · rw [if_neg e, if_neg (by omega)]

end Go.Proofs.Ytflofehnclaffaa.Rf
