/-
  Contract: mac's String.
-/
import Derived.Test.YtomchhjemfldnaaMac4
namespace Go.Proofs.Ytomchhjemfldnaa.Mc
open Go.RowKit Go.Proofs.Ytomchhjemfldnaa.Bt Go.Proofs.Ytomchhjemfldnaa.Mm Go.Proofs.Ytomchhjemfldnaa.Fl Go.Proofs.Ytomchhjemfldnaa.Rf Go.Proofs.Ytomchhjemfldnaa.Hx Go.Proofs.Ytomchhjemfldnaa.Lw

theorem and15 (c : Nat) (hc : c < 256) : bits .and .u8 (c : Int) 15 = ((c % 16 : Nat) : Int) := by
  have e := u8_and_nat c 15 hc (by omega)
  rw [nat_mask4] at e
  exact e
theorem byteVals_append (a b : List UInt8) : byteVals (a ++ b) = byteVals a ++ byteVals b := by simp [byteVals]
theorem byteVals_pair (c : UInt8) : byteVals [UInt8.ofNat (hexD (c.toNat / 16)), UInt8.ofNat (hexD (c.toNat % 16))] = [.int .u8 (hexD (c.toNat / 16) : Nat), .int .u8 (hexD (c.toNat % 16) : Nat)] := by
  have h := UInt8.toNat_lt c
  simp only [byteVals, List.map_cons, List.map_nil, toNat_hexD (show c.toNat / 16 < 16 by omega), toNat_hexD (show c.toNat % 16 < 16 by omega)]
theorem length_byteVals (l : List UInt8) : (byteVals l).length = l.length := by simp [byteVals]

end Go.Proofs.Ytomchhjemfldnaa.Mc
