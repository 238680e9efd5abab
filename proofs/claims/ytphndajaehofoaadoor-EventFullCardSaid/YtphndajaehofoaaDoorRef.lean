/-
  Contracts of the document's bits and Pack.
  Contract of the document's Pack.
  Contract of the document's Split.
-/
import Derived.Test.YtphndajaehofoaaDoorFld
import Derived.Maps.AppendAt
import Derived.Deep.RegionWith
import Derived.StillTailTactics
import Derived.Deep.RegionHeld3
namespace Go.Proofs.YtphndajaehofoaaDoor.Rf
open Go.RowKit Go.Proofs.YtphndajaehofoaaDoor.Bt Go.Proofs.YtphndajaehofoaaDoor.Mm Go.Proofs.YtphndajaehofoaaDoor.Fl

theorem info_int : (Tryd.prog.info? 3).map (fun i => (i.zero, i.size, i.bytes)) = some (some (.int .i64 0), 1, 8) := by kernel_rfl
/-- of the bits those that have been told, from the last on -/
def low (v n j i : Nat) : Nat := if n ≤ i + j then v / 2 ^ (n - 1 - i) % 2 else 0
theorem low_step (v n j : Nat) (h : j < n) : (numCells .i64 n (low v n j)).setIfInBounds (n - 1 - j) (.int .i64 ((v / 2 ^ j % 2 : Nat) : Int)) = numCells .i64 n (low v n (j + 1)) := by
  refine put_numCells .i64 n _ _ _ _ ?_ ?_
  · unfold low
    rw [if_pos (by omega), show n - 1 - (n - 1 - j) = j by omega]
  · intro i hi
    unfold low
    by_cases e : n ≤ i + j
    · rw [if_pos e, if_pos (by omega)]
    · rw [if_neg e, if_neg (by omega)]

end Go.Proofs.YtphndajaehofoaaDoor.Rf
namespace Go.Proofs.YtphndajaehofoaaDoor.Rf
open Go.RowKit Go.Proofs.YtphndajaehofoaaDoor.Bt Go.Proofs.YtphndajaehofoaaDoor.Mm Go.Proofs.YtphndajaehofoaaDoor.Fl

theorem bytesOf_next (l : List Nat) (q : Nat) (h : 8 * q + 8 ≤ l.length) (hl : Bin l) : byteVals ((bytesOf l).take (q + 1)) = byteVals ((bytesOf l).take q) ++ [.int .u8 ((val ((l.drop (8 * q)).take 8) : Nat) : Int)] := by
  have hq : q < (bytesOf l).length := by rw [length_bytesOf]; omega
  have e8 : ((l.drop (8 * q)).take 8).length = 8 := by simp; omega
  have hb : val ((l.drop (8 * q)).take 8) = byteF (nth l) q := by
    rw [byte_val _ e8]
    unfold byteF
    simp only [nth_take _ _ _ (show 8 * 0 + 0 < 8 by omega), nth_take _ _ _ (show 8 * 0 + 1 < 8 by omega), nth_take _ _ _ (show 8 * 0 + 2 < 8 by omega), nth_take _ _ _ (show 8 * 0 + 3 < 8 by omega), nth_take _ _ _ (show 8 * 0 + 4 < 8 by omega), nth_take _ _ _ (show 8 * 0 + 5 < 8 by omega), nth_take _ _ _ (show 8 * 0 + 6 < 8 by omega), nth_take _ _ _ (show 8 * 0 + 7 < 8 by omega), nth_drop]
  rw [List.take_succ_eq_append_getElem hq]
  have e : (bytesOf l)[q] = UInt8.ofNat (byteF (nth l) q) := by simp [bytesOf]
  rw [e, hb]
  unfold byteVals
  rw [List.map_append, List.map_singleton, ofNat_toNat _ (byteF_lt (fun i => nth_lt hl i) q)]

end Go.Proofs.YtphndajaehofoaaDoor.Rf
namespace Go.Proofs.YtphndajaehofoaaDoor.Rf
open Go.RowKit Go.Proofs.YtphndajaehofoaaDoor.Bt Go.Proofs.YtphndajaehofoaaDoor.Mm Go.Proofs.YtphndajaehofoaaDoor.Fl

theorem bitsB_take_succ (s : ByteArray) (k : Nat) (h : k < s.size) : bitsB (s.data.toList.take (k + 1)) = bitsB (s.data.toList.take k) ++ bitsN s[k].toNat 8 := by
  rw [take_snoc s k h, bitsB_append]
  simp [bitsB]
theorem getB_take (s : ByteArray) (m a n : Nat) (h : a + n ≤ 8 * m) (hm : m ≤ s.size) : val (((bitsB (s.data.toList.take m)).drop a).take n) = getB s a n := by
  unfold getB
  congr 1
  apply ext_nth
  · simp only [List.length_take, List.length_drop, length_bitsB, size_list]
    omega
  · intro i hi
    have hi' : i < n := by simp at hi; omega
    rw [nth_take _ _ _ hi', nth_take _ _ _ hi', nth_drop, nth_drop]
    have e : bitsB s.data.toList = bitsB (s.data.toList.take m) ++ bitsB (s.data.toList.drop m) := by rw [← bitsB_append, List.take_append_drop]
    rw [e, nth_append_left _ _ _ (by rw [length_bitsB, List.length_take, size_list]; omega)]

end Go.Proofs.YtphndajaehofoaaDoor.Rf
