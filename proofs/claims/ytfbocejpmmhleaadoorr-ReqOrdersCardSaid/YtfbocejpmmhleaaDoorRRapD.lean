/-
  Contract of the document's Open of a ring's message.
  Contract of the document's Open of a ring's message.
-/
import Derived.Test.YtfbocejpmmhleaaDoorRRapC
namespace Go.Proofs.YtfbocejpmmhleaaDoorR.Rp
open Go.RowKit Go.Proofs.YtfbocejpmmhleaaDoorR.Bt Go.Proofs.YtfbocejpmmhleaaDoorR.Mm Go.Proofs.YtfbocejpmmhleaaDoorR.Fl Go.Proofs.YtfbocejpmmhleaaDoorR.Lw Go.Proofs.YtfbocejpmmhleaaDoorR.Hx Go.Proofs.YtfbocejpmmhleaaDoorR.Mc Go.Proofs.YtfbocejpmmhleaaDoorR.Tg Go.Proofs.YtfbocejpmmhleaaDoorR.Oa
end Go.Proofs.YtfbocejpmmhleaaDoorR.Rp
namespace Go.Proofs.YtfbocejpmmhleaaDoorR.Rp
open Go.RowKit Go.Proofs.YtfbocejpmmhleaaDoorR.Bt Go.Proofs.YtfbocejpmmhleaaDoorR.Mm Go.Proofs.YtfbocejpmmhleaaDoorR.Fl Go.Proofs.YtfbocejpmmhleaaDoorR.Lw Go.Proofs.YtfbocejpmmhleaaDoorR.Hx Go.Proofs.YtfbocejpmmhleaaDoorR.Mc Go.Proofs.YtfbocejpmmhleaaDoorR.Tg Go.Proofs.YtfbocejpmmhleaaDoorR.Oa
theorem byte_idx2 (l : List UInt8) (i : Nat) (h : i < (⟨l.toArray⟩ : ByteArray).size) : ((⟨l.toArray⟩ : ByteArray)[i]'h).toNat = byteAt l i := byte_idx ⟨l.toArray⟩ i h
end Go.Proofs.YtfbocejpmmhleaaDoorR.Rp
