/-
  Contract of the document's Split.
-/
import Derived.Test.YtflofehnclaffaaRef2
import Derived.Test.YtflofehnclaffaaField4
namespace Go.Proofs.Ytflofehnclaffaa.Rf
open Go.RowKit Go.Proofs.Ytflofehnclaffaa.Bt Go.Proofs.Ytflofehnclaffaa.Mm Go.Proofs.Ytflofehnclaffaa.Fl

theorem bitsB_take_succ (s : ByteArray) (k : Nat) (h : k < s.size) : bitsB (s.data.toList.take (k + 1)) = bitsB (s.data.toList.take k) ++ bitsN s[k].toNat 8 := by
  rw [take_snoc s k h, bitsB_append]
  simp [bitsB]
theorem getB_take (s : ByteArray) (m a n : Nat) (h : a + n ≤ 8 * m) (hm : m ≤ s.size) : val (((bitsB (s.data.toList.take m)).drop a).take n) = getB s a n := by
  unfold getB
  congr 1
  apply ext_nth
  · simp only [List.length_take, List.length_drop, length_bitsB, size_list]
    omega
  · intro i hi
    have hi' : i < n := by simp at hi; omega
    rw [nth_take _ _ _ hi', nth_take _ _ _ hi', nth_drop, nth_drop]
    have e : bitsB s.data.toList = bitsB (s.data.toList.take m) ++ bitsB (s.data.toList.drop m) := by rw [← bitsB_append, List.take_append_drop]
    rw [e, nth_append_left _ _ _ (by rw [length_bitsB, List.length_take, size_list]; omega)]

end Go.Proofs.Ytflofehnclaffaa.Rf
