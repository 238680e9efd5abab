/-
  Contract of the document's Open of a ring's message.
  Contract of the document's Open of a ring's message.
-/
import Derived.Test.YthhiagdncjpdcaaRapC
namespace Go.Proofs.Ythhiagdncjpdcaa.Rp
open Go.RowKit Go.Proofs.Ythhiagdncjpdcaa.Bt Go.Proofs.Ythhiagdncjpdcaa.Mm Go.Proofs.Ythhiagdncjpdcaa.Fl Go.Proofs.Ythhiagdncjpdcaa.Lw Go.Proofs.Ythhiagdncjpdcaa.Hx Go.Proofs.Ythhiagdncjpdcaa.Mc Go.Proofs.Ythhiagdncjpdcaa.Tg Go.Proofs.Ythhiagdncjpdcaa.Oa
end Go.Proofs.Ythhiagdncjpdcaa.Rp
namespace Go.Proofs.Ythhiagdncjpdcaa.Rp
open Go.RowKit Go.Proofs.Ythhiagdncjpdcaa.Bt Go.Proofs.Ythhiagdncjpdcaa.Mm Go.Proofs.Ythhiagdncjpdcaa.Fl Go.Proofs.Ythhiagdncjpdcaa.Lw Go.Proofs.Ythhiagdncjpdcaa.Hx Go.Proofs.Ythhiagdncjpdcaa.Mc Go.Proofs.Ythhiagdncjpdcaa.Tg Go.Proofs.Ythhiagdncjpdcaa.Oa
theorem byte_idx2 (l : List UInt8) (i : Nat) (h : i < (⟨l.toArray⟩ : ByteArray).size) : ((⟨l.toArray⟩ : ByteArray)[i]'h).toNat = byteAt l i := byte_idx ⟨l.toArray⟩ i h
end Go.Proofs.Ythhiagdncjpdcaa.Rp
