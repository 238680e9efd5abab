/-
  Contract: the document's Parse.
-/
import Derived.Test.YtomchhjemfldnaaMac3
namespace Go.Proofs.Ytomchhjemfldnaa.Mc
open Go.RowKit Go.Proofs.Ytomchhjemfldnaa.Bt Go.Proofs.Ytomchhjemfldnaa.Mm Go.Proofs.Ytomchhjemfldnaa.Fl Go.Proofs.Ytomchhjemfldnaa.Rf Go.Proofs.Ytomchhjemfldnaa.Hx Go.Proofs.Ytomchhjemfldnaa.Lw

def rdvN (c : Nat) : Int := if hexOk c = true then (hexN c : Int) else -1
end Go.Proofs.Ytomchhjemfldnaa.Mc
