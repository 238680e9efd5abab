/-
  DERIVED. GIVEN WITH THE SEED: THE CARDS: each row of YtfbocejpmmhleaaDoorRRows.lean that lists a variable, with what it lists TIED to the program's text (the seventh form; the later family's looks); each row that meets fmt, with fmt's text TOLD by the authors' own Lean function (tested against real Go, not proved from fmt's source: count such statements apart). THE CARD IS WHAT COUNTS. Prove the row's statement (the work); the ties are given (YtfbocejpmmhleaaDoorRTie.lean); close each card by the builder's one call (the guide's Derived/Test/ToyasCard.lean, 'card_holds'). Laid BY PROGRAM, IN A SANDBOX (cutbox-door.mjs). By AI agents, Wed Nov 11 2026. No macro, syntax, notation, axiom, sorry.
-/
import Derived.Test.YtfbocejpmmhleaaDoorRRows
import GoSem.ClaimSeven
namespace Go.Proofs.YtfbocejpmmhleaaDoorR
namespace Rows

/-- THE TIED CARD OF 'carousellaw12.ReqKinds'. -/
def reqKindsCard : Claim7 := { stood := { row := reqKindsRow, standIns := [], harness := (true, "1d63eebce86dc46cb5cba78a5248db639283ff3c53f280daac2ebc1dd5af1494"), looks := false }, kinds := [], alts := [], laidByText := true, laidKinds := [.data], laidTests := true, laidLooks := .later }
def ReqKindsCardSaid : Prop := Claim7.holds Tryd.pinned (.plain (OpenSpec.ofChange reqKindsSpec)) reqKindsCard

/-- THE TIED CARD OF 'carousellaw12.ReqOrders'. -/
def reqOrdersCard : Claim7 := { stood := { row := reqOrdersRow, standIns := [], harness := (true, "1d63eebce86dc46cb5cba78a5248db639283ff3c53f280daac2ebc1dd5af1494"), looks := false }, kinds := [], alts := [], laidByText := true, laidKinds := [.data], laidTests := true, laidLooks := .later }
def ReqOrdersCardSaid : Prop := Claim7.holds Tryd.pinned (.plain (OpenSpec.ofChange reqOrdersSpec)) reqOrdersCard

/-- THE SECOND FORM's CARD OF 'carousellaw12.ReqKinds'. -/
def reqKindsUptoCard : Claim7 := { stood := { row := reqKindsUptoRow, standIns := [], harness := (true, "1d63eebce86dc46cb5cba78a5248db639283ff3c53f280daac2ebc1dd5af1494"), looks := false }, kinds := [], alts := [], laidByText := true, laidKinds := [.data], laidTests := true, laidLooks := .later }
def ReqKindsUptoCardSaid : Prop := Claim7.holds Tryd.pinned (.plain (OpenSpec.upto reqKindsSpec)) reqKindsUptoCard

/-- THE SECOND FORM's CARD OF 'carousellaw12.ReqOrders'. -/
def reqOrdersUptoCard : Claim7 := { stood := { row := reqOrdersUptoRow, standIns := [], harness := (true, "1d63eebce86dc46cb5cba78a5248db639283ff3c53f280daac2ebc1dd5af1494"), looks := false }, kinds := [], alts := [], laidByText := true, laidKinds := [.data], laidTests := true, laidLooks := .later }
def ReqOrdersUptoCardSaid : Prop := Claim7.holds Tryd.pinned (.plain (OpenSpec.upto reqOrdersSpec)) reqOrdersUptoCard
end Rows
end Go.Proofs.YtfbocejpmmhleaaDoorR
