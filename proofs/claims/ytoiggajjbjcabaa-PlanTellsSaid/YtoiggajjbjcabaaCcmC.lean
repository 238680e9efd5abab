/-
  Contract of ccm's Open.
-/
import Derived.Test.YtoiggajjbjcabaaCcmB
namespace Go.Proofs.Ytoiggajjbjcabaa.Cc
open Go.RowKit Go.Proofs.Ytoiggajjbjcabaa.Bt Go.Proofs.Ytoiggajjbjcabaa.Mm Go.Proofs.Ytoiggajjbjcabaa.Fl Go.Proofs.Ytoiggajjbjcabaa.Lw Go.Proofs.Ytoiggajjbjcabaa.Hx Go.Proofs.Ytoiggajjbjcabaa.Mc Go.Proofs.Ytoiggajjbjcabaa.Tg Go.Proofs.Ytoiggajjbjcabaa.Oa Go.Proofs.Ytoiggajjbjcabaa.Rp
end Go.Proofs.Ytoiggajjbjcabaa.Cc
