/-
  NARROWER THAN 'FOR EVERY INPUT', by the rows' own cells (each row's printed sentence says how): EventCloses: laid · EventOpens: laid · EventBack: laid · EventFull: laid.
  DERIVED. THE GIVEN ROWS OF THIS SEAT. 4 by the template 'for every input the law returns true; each argument reads behind the call as it read before'; 0 by the template 'total and deterministic' (their statements: YtphndajaehofoaaDoorTotals.lean).
  GIVEN WITH THE SEED: the statements are not yours to turn. If you find one false, say at which input.
  Laid BY PROGRAM, IN A SANDBOX (cutbox-rows.mjs): the forced cells as the released guide's own fill.sh prints them over the translation f463126960cf9594… (all of the seat's roots in one cut). By AI agents, Wed Nov 11 2026. No macro, syntax, notation, axiom, sorry.
-/
import Derived.Test.YtphndajaehofoaaDoorChecked
import GoSem.Claim
import GoSem.ClaimJoined
import GoSem.ClaimMapViews
import Derived.JoinedTies
import Derived.KernelRfl
namespace Go.Proofs.YtphndajaehofoaaDoor
/- THE CELL 'sum', in the pinned program and in every row, IS THE sha256 OF THE DUMP (.gsa) THAT YtphndajaehofoaaDoorProg.lean LOADS. Nothing in Lean hashes anything: it is a label: what it is worth is what the hold of that sum in a sandbox is worth. -/
noncomputable def Tryd.pinned : Pinned := { name := "ytphndajaehofoaadoor", sum := "f463126960cf9594809ae75015b29669aba4b14efa656ed1617b9f7e0826b5aa", checked := Tryd.checked }
namespace Rows
def none {H : Type} : Left H := { results := [], args := [] }

/- WHAT THE LISTED PACKAGE-LEVEL VARIABLES READ AS WHEN THE CALL BEGINS. Each datum BY PROGRAM (the guide's laid-datum.mjs) off the statement by which the dump's own 'gosem.cut.vars' lays the variable. In a bare row this is a premise. The card (YtphndajaehofoaaDoorCards.lean) ties it to the program's text. -/
def laid_carousel_event_words {H : Type} : DataW H := .agg [.lit (.string [116, 105, 99, 107]), .lit (.string [100, 101, 108, 105, 118, 101, 114]), .lit (.string [100, 114, 111, 112]), .lit (.string [100, 111, 119, 110]), .lit (.string [117, 112]), .lit (.string [111, 114, 100, 101, 114]), .lit (.string [104, 111, 115, 116]), .lit (.string [102, 108, 111, 119])]

/-- 'carousellaw22.EventCloses': WHATEVER THE INPUT: true; the input reads as it did. -/
def eventClosesSpec : ChangeSpec := { name := "eventCloses", fn := fun _ => fun
  | [d1, d2] => { results := [.lit (.bool true)], args := [d1, d2] }
  | _ => none }
def eventClosesRow : OpenClaim := { program := "ytphndajaehofoaadoor", sum := "f463126960cf9594809ae75015b29669aba4b14efa656ed1617b9f7e0826b5aa", func := "carousel/carousellaw22.EventCloses", spec := "eventCloses", inPlace := ["internal/abi.NoEscape"], named := ["carousel/event.words"], apart := false, laid := [("carousel/event.words", laid_carousel_event_words)] }
def EventClosesSaid : Prop := eventClosesRow.holds Tryd.pinned (OpenSpec.ofChange eventClosesSpec)

/-- ITS FALSE NEIGHBOUR: 'it returns false'. Refute it at one input. -/
def eventClosesWrong : ChangeSpec := { name := "eventCloses", fn := fun _ => fun
  | [d1, d2] => { results := [.lit (.bool false)], args := [d1, d2] }
  | _ => none }
def EventClosesWrongFalsely : Prop := eventClosesRow.holds Tryd.pinned (OpenSpec.ofChange eventClosesWrong)

/-- 'carousellaw22.EventOpens': WHATEVER THE INPUT: true; the input reads as it did. -/
def eventOpensSpec : ChangeSpec := { name := "eventOpens", fn := fun _ => fun
  | [d] => { results := [.lit (.bool true)], args := [d] }
  | _ => none }
def eventOpensRow : OpenClaim := { program := "ytphndajaehofoaadoor", sum := "f463126960cf9594809ae75015b29669aba4b14efa656ed1617b9f7e0826b5aa", func := "carousel/carousellaw22.EventOpens", spec := "eventOpens", inPlace := ["internal/abi.NoEscape"], unfollowed := true, recurses := true, named := ["carousel/event.words"], apart := false, laid := [("carousel/event.words", laid_carousel_event_words)] }
def EventOpensSaid : Prop := eventOpensRow.holds Tryd.pinned (OpenSpec.ofChange eventOpensSpec)

/-- ITS FALSE NEIGHBOUR: 'it returns false'. Refute it at one input. -/
def eventOpensWrong : ChangeSpec := { name := "eventOpens", fn := fun _ => fun
  | [d] => { results := [.lit (.bool false)], args := [d] }
  | _ => none }
def EventOpensWrongFalsely : Prop := eventOpensRow.holds Tryd.pinned (OpenSpec.ofChange eventOpensWrong)

/-- 'carousellaw22.EventBack': WHATEVER THE INPUT: true; the input reads as it did. -/
def eventBackSpec : ChangeSpec := { name := "eventBack", fn := fun _ => fun
  | [d1, d2] => { results := [.lit (.bool true)], args := [d1, d2] }
  | _ => none }
def eventBackRow : OpenClaim := { program := "ytphndajaehofoaadoor", sum := "f463126960cf9594809ae75015b29669aba4b14efa656ed1617b9f7e0826b5aa", func := "carousel/carousellaw22.EventBack", spec := "eventBack", inPlace := ["internal/abi.NoEscape"], unfollowed := true, recurses := true, named := ["carousel/event.words"], apart := false, laid := [("carousel/event.words", laid_carousel_event_words)] }
def EventBackSaid : Prop := eventBackRow.holds Tryd.pinned (OpenSpec.ofChange eventBackSpec)

/-- ITS FALSE NEIGHBOUR: 'it returns false'. Refute it at one input. -/
def eventBackWrong : ChangeSpec := { name := "eventBack", fn := fun _ => fun
  | [d1, d2] => { results := [.lit (.bool false)], args := [d1, d2] }
  | _ => none }
def EventBackWrongFalsely : Prop := eventBackRow.holds Tryd.pinned (OpenSpec.ofChange eventBackWrong)

/-- 'carousellaw22.EventFull': WHATEVER THE INPUT: true; the input reads as it did. -/
def eventFullSpec : ChangeSpec := { name := "eventFull", fn := fun _ => fun
  | [d] => { results := [.lit (.bool true)], args := [d] }
  | _ => none }
def eventFullRow : OpenClaim := { program := "ytphndajaehofoaadoor", sum := "f463126960cf9594809ae75015b29669aba4b14efa656ed1617b9f7e0826b5aa", func := "carousel/carousellaw22.EventFull", spec := "eventFull", inPlace := ["internal/abi.NoEscape"], unfollowed := true, recurses := true, named := ["carousel/event.words"], apart := false, laid := [("carousel/event.words", laid_carousel_event_words)] }
def EventFullSaid : Prop := eventFullRow.holds Tryd.pinned (OpenSpec.ofChange eventFullSpec)

/-- ITS FALSE NEIGHBOUR: 'it returns false'. Refute it at one input. -/
def eventFullWrong : ChangeSpec := { name := "eventFull", fn := fun _ => fun
  | [d] => { results := [.lit (.bool false)], args := [d] }
  | _ => none }
def EventFullWrongFalsely : Prop := eventFullRow.holds Tryd.pinned (OpenSpec.ofChange eventFullWrong)

/- THE SECOND FORM. 'bulk': how many values and letters a reading holds, each counted each time it is reached (what is shared counts as often as it is met; a slice's spare places count too). A statement '..UptoSaid' is the law's where the arguments, and the package variables that the reading takes, are together of bulk at most 1048576: NARROWER than '..Said'. Prove '..Said' where nothing that the law and all that it calls make is longer than what came in: it says more and counts as full. Else prove '..UptoSaid'. A law counts once. -/
mutual
def uptoBulk {H : Type} : DataW H → Nat
  | .lit (.string bytes) => bytes.length + 1
  | .lit _ => 1
  | .nil => 1
  | .ptr d => uptoBulk d + 1
  | .slice elems spare => uptoBulkAll elems + uptoBulkAll spare + 1
  | .agg parts => uptoBulkAll parts + 1
  | .iface _ d => uptoBulk d + 1
  | .map entries => uptoBulkEntries entries + 1
  | .held _ => 1
def uptoBulkAll {H : Type} : List (DataW H) → Nat
  | [] => 0
  | d :: r => uptoBulk d + uptoBulkAll r
def uptoBulkEntries {H : Type} : List (Lit × DataW H) → Nat
  | [] => 0
  | x :: r => uptoBulkEntry x + uptoBulkEntries r
def uptoBulkEntry {H : Type} : Lit × DataW H → Nat
  | (.string bytes, d) => bytes.length + uptoBulk d + 1
  | (_, d) => uptoBulk d + 1
 end
def uptoSmall : (H : Type) → List (DataW H) → Bool := fun _ ds => decide (uptoBulkAll ds ≤ 1048576)
def OpenSpec.upto (s : _root_.Go.ChangeSpec) : _root_.Go.OpenSpec := { _root_.Go.OpenSpec.ofChange s with cond := some uptoSmall }

/-- 'carousellaw22.EventCloses', WHERE WHAT IT READS IS OF BULK AT MOST 1048576: true; the input reads as it did. -/
def eventClosesUptoRow : OpenClaim := { program := "ytphndajaehofoaadoor", sum := "f463126960cf9594809ae75015b29669aba4b14efa656ed1617b9f7e0826b5aa", func := "carousel/carousellaw22.EventCloses", spec := "eventCloses", inPlace := ["internal/abi.NoEscape"], named := ["carousel/event.words"], apart := false, laid := [("carousel/event.words", laid_carousel_event_words)], narrowed := true }
def EventClosesUptoSaid : Prop := eventClosesUptoRow.holds Tryd.pinned (OpenSpec.upto eventClosesSpec)

/-- 'carousellaw22.EventOpens', WHERE WHAT IT READS IS OF BULK AT MOST 1048576: true; the input reads as it did. -/
def eventOpensUptoRow : OpenClaim := { program := "ytphndajaehofoaadoor", sum := "f463126960cf9594809ae75015b29669aba4b14efa656ed1617b9f7e0826b5aa", func := "carousel/carousellaw22.EventOpens", spec := "eventOpens", inPlace := ["internal/abi.NoEscape"], unfollowed := true, recurses := true, named := ["carousel/event.words"], apart := false, laid := [("carousel/event.words", laid_carousel_event_words)], narrowed := true }
def EventOpensUptoSaid : Prop := eventOpensUptoRow.holds Tryd.pinned (OpenSpec.upto eventOpensSpec)

/-- 'carousellaw22.EventBack', WHERE WHAT IT READS IS OF BULK AT MOST 1048576: true; the input reads as it did. -/
def eventBackUptoRow : OpenClaim := { program := "ytphndajaehofoaadoor", sum := "f463126960cf9594809ae75015b29669aba4b14efa656ed1617b9f7e0826b5aa", func := "carousel/carousellaw22.EventBack", spec := "eventBack", inPlace := ["internal/abi.NoEscape"], unfollowed := true, recurses := true, named := ["carousel/event.words"], apart := false, laid := [("carousel/event.words", laid_carousel_event_words)], narrowed := true }
def EventBackUptoSaid : Prop := eventBackUptoRow.holds Tryd.pinned (OpenSpec.upto eventBackSpec)

/-- 'carousellaw22.EventFull', WHERE WHAT IT READS IS OF BULK AT MOST 1048576: true; the input reads as it did. -/
def eventFullUptoRow : OpenClaim := { program := "ytphndajaehofoaadoor", sum := "f463126960cf9594809ae75015b29669aba4b14efa656ed1617b9f7e0826b5aa", func := "carousel/carousellaw22.EventFull", spec := "eventFull", inPlace := ["internal/abi.NoEscape"], unfollowed := true, recurses := true, named := ["carousel/event.words"], apart := false, laid := [("carousel/event.words", laid_carousel_event_words)], narrowed := true }
def EventFullUptoSaid : Prop := eventFullUptoRow.holds Tryd.pinned (OpenSpec.upto eventFullSpec)

end Rows
end Go.Proofs.YtphndajaehofoaaDoor
