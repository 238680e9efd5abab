/-
  Contract of the document's Pack.
-/
import Derived.Test.YtflofehnclaffaaRef1
import Derived.Deep.RegionWith
import Derived.StillTailTactics
import Derived.Deep.RegionHeld3
namespace Go.Proofs.Ytflofehnclaffaa.Rf
open Go.RowKit Go.Proofs.Ytflofehnclaffaa.Bt Go.Proofs.Ytflofehnclaffaa.Mm Go.Proofs.Ytflofehnclaffaa.Fl

theorem bytesOf_next (l : List Nat) (q : Nat) (h : 8 * q + 8 ≤ l.length) (hl : Bin l) : byteVals ((bytesOf l).take (q + 1)) = byteVals ((bytesOf l).take q) ++ [.int .u8 ((val ((l.drop (8 * q)).take 8) : Nat) : Int)] := by
  have hq : q < (bytesOf l).length := by rw [length_bytesOf]; omega
  have e8 : ((l.drop (8 * q)).take 8).length = 8 := by simp; omega
  have hb : val ((l.drop (8 * q)).take 8) = byteF (nth l) q := by
    rw [byte_val _ e8]
    unfold byteF
    simp only [nth_take _ _ _ (show 8 * 0 + 0 < 8 by omega), nth_take _ _ _ (show 8 * 0 + 1 < 8 by omega), nth_take _ _ _ (show 8 * 0 + 2 < 8 by omega), nth_take _ _ _ (show 8 * 0 + 3 < 8 by omega), nth_take _ _ _ (show 8 * 0 + 4 < 8 by omega), nth_take _ _ _ (show 8 * 0 + 5 < 8 by omega), nth_take _ _ _ (show 8 * 0 + 6 < 8 by omega), nth_take _ _ _ (show 8 * 0 + 7 < 8 by omega), nth_drop]
  rw [List.take_succ_eq_append_getElem hq]
  have e : (bytesOf l)[q] = UInt8.ofNat (byteF (nth l) q) := by simp [bytesOf]
  rw [e, hb]
  unfold byteVals
  rw [List.map_append, List.map_singleton, ofNat_toNat _ (byteF_lt (fun i => nth_lt hl i) q)]

end Go.Proofs.Ytflofehnclaffaa.Rf
