/-
  Plain lemmas: bits joined, bytes joined, numbers as so many bytes.
-/
import Derived.Test.YtflofehnclaffaaBack
namespace Go.Proofs.Ytflofehnclaffaa.Bt
open Go.Proofs.Ytflofehnclaffaa.Fl

theorem bitsN_join (x y k m : Nat) (hy : y < 2 ^ m) : bitsN (x * 2 ^ m + y) (k + m) = bitsN x k ++ bitsN y m := by
  induction m generalizing y with
  | zero =>
    have : y = 0 := by simpa using hy
    subst this
    simp [bitsN_zero]
  | succ m ih =>
    rw [show k + (m + 1) = (k + m) + 1 by omega, bitsN_snoc, bitsN_snoc, ← List.append_assoc]
    have hp := Nat.two_pow_pos m
    have e0 : 2 ^ (m + 1) = 2 * 2 ^ m := by rw [Nat.pow_succ, Nat.mul_comm]
    have e3 : x * 2 ^ (m + 1) = 2 * (x * 2 ^ m) := by rw [e0, Nat.mul_left_comm]
    have e1 : (x * 2 ^ (m + 1) + y) / 2 = x * 2 ^ m + y / 2 := by rw [e3]; omega
    have e2 : (x * 2 ^ (m + 1) + y) % 2 = y % 2 := by rw [e3]; omega
    rw [e1, e2, ih (y / 2) (by omega)]
theorem bytesOf_append {a b : List Nat} (ha : Bin a) (hb : Bin b) (h8 : a.length % 8 = 0) (h8' : b.length % 8 = 0) : bytesOf (a ++ b) = bytesOf a ++ bytesOf b := by
  have e1 : a ++ b = bitsB (bytesOf a ++ bytesOf b) := by rw [bitsB_append, bitsB_bytesOf ha h8, bitsB_bytesOf hb h8']
  rw [e1, bytesOf_bitsB]
/-- a number as so many bytes -/
def putB (v n : Nat) : List UInt8 := bytesOf (bitsN v (8 * n))
theorem length_putB (v n : Nat) : (putB v n).length = n := by unfold putB; rw [length_bytesOf, length_bitsN]; omega
theorem bitsB_putB (v n : Nat) : bitsB (putB v n) = bitsN v (8 * n) := bitsB_bytesOf (bin_bitsN _ _) (by rw [length_bitsN]; omega)
theorem packR_put {v n : Nat} (hn : 1 ≤ n) (hn8 : n ≤ 8) (hv : v < 2 ^ (8 * n)) : packR [(((8 * n : Nat) : Int), v)] = (putB v n, 0) := by
  have e : allBits [(((8 * n : Nat) : Int), v)] = bitsN v (8 * n) := by
    simp only [allBits, List.flatMap_cons, List.flatMap_nil, List.append_nil, Int.toNat_natCast]
  have hok : ([(((8 * n : Nat) : Int), v)]).all okP = true := by
    simp only [List.all_cons, List.all_nil, Bool.and_true, okP, decide_eq_true_eq, Int.toNat_natCast]
    exact ⟨by omega, by omega, hv⟩
  unfold packR
  rw [if_pos hok, e, if_pos (by rw [length_bitsN]; omega)]
  rfl
/-- the number of so many bytes, from a place on -/
def getN (s : List UInt8) (a n : Nat) : Nat := val (bitsB ((s.drop a).take n))
theorem drop_bitsB (s : List UInt8) (a : Nat) : (bitsB s).drop (8 * a) = bitsB (s.drop a) := by
  rcases Nat.lt_or_ge a s.length with h | h
  · have e : bitsB s = bitsB (s.take a) ++ bitsB (s.drop a) := by rw [← bitsB_append, List.take_append_drop]
    have hl : (bitsB (s.take a)).length = 8 * a := by rw [length_bitsB, List.length_take]; omega
    rw [e, List.drop_left' hl]
  · rw [List.drop_of_length_le (by rw [length_bitsB]; omega), List.drop_of_length_le h]; rfl
theorem take_bitsB (s : List UInt8) (n : Nat) : (bitsB s).take (8 * n) = bitsB (s.take n) := by
  rcases Nat.lt_or_ge n s.length with h | h
  · have e : bitsB s = bitsB (s.take n) ++ bitsB (s.drop n) := by rw [← bitsB_append, List.take_append_drop]
    have hl : (bitsB (s.take n)).length = 8 * n := by rw [length_bitsB, List.length_take]; omega
    rw [e, List.take_left' hl]
  · rw [List.take_of_length_le (by rw [length_bitsB]; omega), List.take_of_length_le h]
theorem getB_getN (s : ByteArray) (a n : Nat) : getB s (8 * a) (8 * n) = getN s.data.toList a n := by
  unfold getB getN
  rw [drop_bitsB, take_bitsB]
theorem getN_lt (s : List UInt8) (a n : Nat) : getN s a n < 2 ^ (8 * n) := by
  have h := val_lt (bin_bitsB ((s.drop a).take n))
  refine Nat.lt_of_lt_of_le h (Nat.pow_le_pow_right (by omega) ?_)
  rw [length_bitsB, List.length_take]
  omega
/-- what is put is got -/
theorem getN_putB (v n : Nat) (hv : v < 2 ^ (8 * n)) (p q : List UInt8) : getN (p ++ putB v n ++ q) p.length n = v := by
  unfold getN
  rw [List.append_assoc, List.drop_left, List.take_left' (length_putB v n), bitsB_putB, val_bitsN, Nat.mod_eq_of_lt hv]
/-- what is got is put -/
theorem putB_getN (s : List UInt8) (a n : Nat) (h : a + n ≤ s.length) : putB (getN s a n) n = (s.drop a).take n := by
  have hl : ((s.drop a).take n).length = n := by rw [List.length_take, List.length_drop]; omega
  have e := bitsN_val (bin_bitsB ((s.drop a).take n))
  rw [length_bitsB, hl] at e
  unfold putB getN
  rw [e, bytesOf_bitsB]
end Go.Proofs.Ytflofehnclaffaa.Bt
