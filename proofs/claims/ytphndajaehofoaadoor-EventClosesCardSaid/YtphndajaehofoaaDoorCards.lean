/-
  DERIVED. GIVEN WITH THE SEED: THE CARDS: each row of YtphndajaehofoaaDoorRows.lean that lists a variable, with what it lists TIED to the program's text (the seventh form; the later family's looks); each row that meets fmt, with fmt's text TOLD by the authors' own Lean function (tested against real Go, not proved from fmt's source: count such statements apart). THE CARD IS WHAT COUNTS. Prove the row's statement (the work); the ties are given (YtphndajaehofoaaDoorTie.lean); close each card by the builder's one call (the guide's Derived/Test/ToyasCard.lean, 'card_holds'). Laid BY PROGRAM, IN A SANDBOX (cutbox-door.mjs). By AI agents, Wed Nov 11 2026. No macro, syntax, notation, axiom, sorry.
-/
import Derived.Test.YtphndajaehofoaaDoorRows
import GoSem.ClaimSeven
namespace Go.Proofs.YtphndajaehofoaaDoor
namespace Rows

/-- THE TIED CARD OF 'carousellaw22.EventCloses'. -/
def eventClosesCard : Claim7 := { stood := { row := eventClosesRow, standIns := [], harness := (true, "11d61b5abebb88067335c6780e0648f8e048e15a617f23d42f787497eabbee60"), looks := false }, kinds := [], alts := [], laidByText := true, laidKinds := [.data], laidTests := true, laidLooks := .later }
def EventClosesCardSaid : Prop := Claim7.holds Tryd.pinned (.plain (OpenSpec.ofChange eventClosesSpec)) eventClosesCard

/-- THE TIED CARD OF 'carousellaw22.EventOpens'. -/
def eventOpensCard : Claim7 := { stood := { row := eventOpensRow, standIns := [], harness := (true, "11d61b5abebb88067335c6780e0648f8e048e15a617f23d42f787497eabbee60"), looks := false }, kinds := [], alts := [], laidByText := true, laidKinds := [.data], laidTests := true, laidLooks := .later }
def EventOpensCardSaid : Prop := Claim7.holds Tryd.pinned (.plain (OpenSpec.ofChange eventOpensSpec)) eventOpensCard

/-- THE TIED CARD OF 'carousellaw22.EventBack'. -/
def eventBackCard : Claim7 := { stood := { row := eventBackRow, standIns := [], harness := (true, "11d61b5abebb88067335c6780e0648f8e048e15a617f23d42f787497eabbee60"), looks := false }, kinds := [], alts := [], laidByText := true, laidKinds := [.data], laidTests := true, laidLooks := .later }
def EventBackCardSaid : Prop := Claim7.holds Tryd.pinned (.plain (OpenSpec.ofChange eventBackSpec)) eventBackCard

/-- THE TIED CARD OF 'carousellaw22.EventFull'. -/
def eventFullCard : Claim7 := { stood := { row := eventFullRow, standIns := [], harness := (true, "11d61b5abebb88067335c6780e0648f8e048e15a617f23d42f787497eabbee60"), looks := false }, kinds := [], alts := [], laidByText := true, laidKinds := [.data], laidTests := true, laidLooks := .later }
def EventFullCardSaid : Prop := Claim7.holds Tryd.pinned (.plain (OpenSpec.ofChange eventFullSpec)) eventFullCard

/-- THE SECOND FORM's CARD OF 'carousellaw22.EventCloses'. -/
def eventClosesUptoCard : Claim7 := { stood := { row := eventClosesUptoRow, standIns := [], harness := (true, "11d61b5abebb88067335c6780e0648f8e048e15a617f23d42f787497eabbee60"), looks := false }, kinds := [], alts := [], laidByText := true, laidKinds := [.data], laidTests := true, laidLooks := .later }
def EventClosesUptoCardSaid : Prop := Claim7.holds Tryd.pinned (.plain (OpenSpec.upto eventClosesSpec)) eventClosesUptoCard

/-- THE SECOND FORM's CARD OF 'carousellaw22.EventOpens'. -/
def eventOpensUptoCard : Claim7 := { stood := { row := eventOpensUptoRow, standIns := [], harness := (true, "11d61b5abebb88067335c6780e0648f8e048e15a617f23d42f787497eabbee60"), looks := false }, kinds := [], alts := [], laidByText := true, laidKinds := [.data], laidTests := true, laidLooks := .later }
def EventOpensUptoCardSaid : Prop := Claim7.holds Tryd.pinned (.plain (OpenSpec.upto eventOpensSpec)) eventOpensUptoCard

/-- THE SECOND FORM's CARD OF 'carousellaw22.EventBack'. -/
def eventBackUptoCard : Claim7 := { stood := { row := eventBackUptoRow, standIns := [], harness := (true, "11d61b5abebb88067335c6780e0648f8e048e15a617f23d42f787497eabbee60"), looks := false }, kinds := [], alts := [], laidByText := true, laidKinds := [.data], laidTests := true, laidLooks := .later }
def EventBackUptoCardSaid : Prop := Claim7.holds Tryd.pinned (.plain (OpenSpec.upto eventBackSpec)) eventBackUptoCard

/-- THE SECOND FORM's CARD OF 'carousellaw22.EventFull'. -/
def eventFullUptoCard : Claim7 := { stood := { row := eventFullUptoRow, standIns := [], harness := (true, "11d61b5abebb88067335c6780e0648f8e048e15a617f23d42f787497eabbee60"), looks := false }, kinds := [], alts := [], laidByText := true, laidKinds := [.data], laidTests := true, laidLooks := .later }
def EventFullUptoCardSaid : Prop := Claim7.holds Tryd.pinned (.plain (OpenSpec.upto eventFullSpec)) eventFullUptoCard
end Rows
end Go.Proofs.YtphndajaehofoaaDoor
