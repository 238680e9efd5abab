/-
  NARROWER THAN 'FOR EVERY INPUT', by the rows' own cells (each row's printed sentence says how): ReqKinds: laid · ReqOrders: laid.
  DERIVED. THE GIVEN ROWS OF THIS SEAT. 2 by the template 'for every input the law returns true; each argument reads behind the call as it read before'; 0 by the template 'total and deterministic' (their statements: YtfbocejpmmhleaaDoorRTotals.lean).
  GIVEN WITH THE SEED: the statements are not yours to turn. If you find one false, say at which input.
  Laid BY PROGRAM, IN A SANDBOX (cutbox-rows.mjs): the forced cells as the released guide's own fill.sh prints them over the translation 4031fa28e6ee814d… (all of the seat's roots in one cut). By AI agents, Wed Nov 11 2026. No macro, syntax, notation, axiom, sorry.
-/
import Derived.Test.YtfbocejpmmhleaaDoorRChecked
import GoSem.Claim
import GoSem.ClaimJoined
import GoSem.ClaimMapViews
import Derived.JoinedTies
import Derived.KernelRfl
namespace Go.Proofs.YtfbocejpmmhleaaDoorR
/- THE CELL 'sum', in the pinned program and in every row, IS THE sha256 OF THE DUMP (.gsa) THAT YtfbocejpmmhleaaDoorRProg.lean LOADS. Nothing in Lean hashes anything: it is a label: what it is worth is what the hold of that sum in a sandbox is worth. -/
noncomputable def Tryd.pinned : Pinned := { name := "ytfbocejpmmhleaadoorr", sum := "4031fa28e6ee814d733c080ff66b11c37739d5f4692195b5eeb8cdb1db453fc9", checked := Tryd.checked }
namespace Rows
def none {H : Type} : Left H := { results := [], args := [] }

/- WHAT THE LISTED PACKAGE-LEVEL VARIABLES READ AS WHEN THE CALL BEGINS. Each datum BY PROGRAM (the guide's laid-datum.mjs) off the statement by which the dump's own 'gosem.cut.vars' lays the variable. In a bare row this is a premise. The card (YtfbocejpmmhleaaDoorRCards.lean) ties it to the program's text. -/
def laid_carousel_req_words {H : Type} : DataW H := .agg [.lit (.string [99, 108, 101, 97, 114]), .lit (.string [102, 115]), .lit (.string [114, 101, 109, 111, 116, 101, 45, 102, 115]), .lit (.string [115, 102]), .lit (.string [99, 108, 101, 97, 114, 45, 115, 102]), .lit (.string [114, 101, 109, 111, 116, 101, 45, 115, 102]), .lit (.string [114, 101, 109, 111, 116, 101, 45, 109, 115]), .lit (.string [109, 115]), .lit (.string [114, 101, 115, 116, 45, 111, 118, 101, 114]), .lit (.string [114, 101, 115, 116, 45, 114, 117, 110, 115]), .lit (.string [98, 108, 111, 99, 107, 45, 111, 118, 101, 114]), .lit (.string [98, 108, 111, 99, 107, 45, 114, 117, 110, 115]), .lit (.string [114, 101, 109, 111, 116, 101, 45, 105, 100, 108, 101]), .lit (.string [114, 101, 109, 111, 116, 101, 45, 110, 111, 110, 101])]

/-- 'carousellaw12.ReqKinds': WHATEVER THE INPUT: true; the input reads as it did. -/
def reqKindsSpec : ChangeSpec := { name := "reqKinds", fn := fun _ => fun
  | [d1, d2] => { results := [.lit (.bool true)], args := [d1, d2] }
  | _ => none }
def reqKindsRow : OpenClaim := { program := "ytfbocejpmmhleaadoorr", sum := "4031fa28e6ee814d733c080ff66b11c37739d5f4692195b5eeb8cdb1db453fc9", func := "carousel/carousellaw12.ReqKinds", spec := "reqKinds", named := ["carousel/req.words"], apart := false, laid := [("carousel/req.words", laid_carousel_req_words)] }
def ReqKindsSaid : Prop := reqKindsRow.holds Tryd.pinned (OpenSpec.ofChange reqKindsSpec)

/-- ITS FALSE NEIGHBOUR: 'it returns false'. Refute it at one input. -/
def reqKindsWrong : ChangeSpec := { name := "reqKinds", fn := fun _ => fun
  | [d1, d2] => { results := [.lit (.bool false)], args := [d1, d2] }
  | _ => none }
def ReqKindsWrongFalsely : Prop := reqKindsRow.holds Tryd.pinned (OpenSpec.ofChange reqKindsWrong)

/-- 'carousellaw12.ReqOrders': WHATEVER THE INPUT: true; the input reads as it did. -/
def reqOrdersSpec : ChangeSpec := { name := "reqOrders", fn := fun _ => fun
  | [d1, d2, d3, d4] => { results := [.lit (.bool true)], args := [d1, d2, d3, d4] }
  | _ => none }
def reqOrdersRow : OpenClaim := { program := "ytfbocejpmmhleaadoorr", sum := "4031fa28e6ee814d733c080ff66b11c37739d5f4692195b5eeb8cdb1db453fc9", func := "carousel/carousellaw12.ReqOrders", spec := "reqOrders", named := ["carousel/req.words"], apart := false, laid := [("carousel/req.words", laid_carousel_req_words)] }
def ReqOrdersSaid : Prop := reqOrdersRow.holds Tryd.pinned (OpenSpec.ofChange reqOrdersSpec)

/-- ITS FALSE NEIGHBOUR: 'it returns false'. Refute it at one input. -/
def reqOrdersWrong : ChangeSpec := { name := "reqOrders", fn := fun _ => fun
  | [d1, d2, d3, d4] => { results := [.lit (.bool false)], args := [d1, d2, d3, d4] }
  | _ => none }
def ReqOrdersWrongFalsely : Prop := reqOrdersRow.holds Tryd.pinned (OpenSpec.ofChange reqOrdersWrong)

/- THE SECOND FORM. 'bulk': how many values and letters a reading holds, each counted each time it is reached (what is shared counts as often as it is met; a slice's spare places count too). A statement '..UptoSaid' is the law's where the arguments, and the package variables that the reading takes, are together of bulk at most 1048576: NARROWER than '..Said'. Prove '..Said' where nothing that the law and all that it calls make is longer than what came in: it says more and counts as full. Else prove '..UptoSaid'. A law counts once. -/
mutual
def uptoBulk {H : Type} : DataW H → Nat
  | .lit (.string bytes) => bytes.length + 1
  | .lit _ => 1
  | .nil => 1
  | .ptr d => uptoBulk d + 1
  | .slice elems spare => uptoBulkAll elems + uptoBulkAll spare + 1
  | .agg parts => uptoBulkAll parts + 1
  | .iface _ d => uptoBulk d + 1
  | .map entries => uptoBulkEntries entries + 1
  | .held _ => 1
def uptoBulkAll {H : Type} : List (DataW H) → Nat
  | [] => 0
  | d :: r => uptoBulk d + uptoBulkAll r
def uptoBulkEntries {H : Type} : List (Lit × DataW H) → Nat
  | [] => 0
  | x :: r => uptoBulkEntry x + uptoBulkEntries r
def uptoBulkEntry {H : Type} : Lit × DataW H → Nat
  | (.string bytes, d) => bytes.length + uptoBulk d + 1
  | (_, d) => uptoBulk d + 1
 end
def uptoSmall : (H : Type) → List (DataW H) → Bool := fun _ ds => decide (uptoBulkAll ds ≤ 1048576)
def OpenSpec.upto (s : _root_.Go.ChangeSpec) : _root_.Go.OpenSpec := { _root_.Go.OpenSpec.ofChange s with cond := some uptoSmall }

/-- 'carousellaw12.ReqKinds', WHERE WHAT IT READS IS OF BULK AT MOST 1048576: true; the input reads as it did. -/
def reqKindsUptoRow : OpenClaim := { program := "ytfbocejpmmhleaadoorr", sum := "4031fa28e6ee814d733c080ff66b11c37739d5f4692195b5eeb8cdb1db453fc9", func := "carousel/carousellaw12.ReqKinds", spec := "reqKinds", named := ["carousel/req.words"], apart := false, laid := [("carousel/req.words", laid_carousel_req_words)], narrowed := true }
def ReqKindsUptoSaid : Prop := reqKindsUptoRow.holds Tryd.pinned (OpenSpec.upto reqKindsSpec)

/-- 'carousellaw12.ReqOrders', WHERE WHAT IT READS IS OF BULK AT MOST 1048576: true; the input reads as it did. -/
def reqOrdersUptoRow : OpenClaim := { program := "ytfbocejpmmhleaadoorr", sum := "4031fa28e6ee814d733c080ff66b11c37739d5f4692195b5eeb8cdb1db453fc9", func := "carousel/carousellaw12.ReqOrders", spec := "reqOrders", named := ["carousel/req.words"], apart := false, laid := [("carousel/req.words", laid_carousel_req_words)], narrowed := true }
def ReqOrdersUptoSaid : Prop := reqOrdersUptoRow.holds Tryd.pinned (OpenSpec.upto reqOrdersSpec)

end Rows
end Go.Proofs.YtfbocejpmmhleaaDoorR
