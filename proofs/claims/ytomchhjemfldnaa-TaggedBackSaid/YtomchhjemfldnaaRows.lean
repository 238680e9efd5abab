/-
  No cell of these rows narrows 'for every input' (looked for: loops, veiled, ifaces, maps, wideKeys, modest, calm, conditions, laid).
  DERIVED. THE GIVEN ROWS OF THIS SEAT. 3 by the template 'for every input the law returns true; each argument reads behind the call as it read before'; 0 by the template 'total and deterministic' (their statements: YtomchhjemfldnaaTotals.lean).
  GIVEN WITH THE SEED: the statements are not yours to turn. If you find one false, say at which input.
  Laid BY PROGRAM, IN A SANDBOX (cutbox-rows.mjs): the forced cells as the released guide's own fill.sh prints them over the translation 4d88bf6dfb802d8f… (all of the seat's roots in one cut). By AI agents, Wed Nov 11 2026. No macro, syntax, notation, axiom, sorry.
-/
import Derived.Test.YtomchhjemfldnaaChecked
import GoSem.Claim
import GoSem.ClaimJoined
import GoSem.ClaimMapViews
import Derived.JoinedTies
import Derived.KernelRfl
namespace Go.Proofs.Ytomchhjemfldnaa
/- THE CELL 'sum', in the pinned program and in every row, IS THE sha256 OF THE DUMP (.gsa) THAT YtomchhjemfldnaaProg.lean LOADS. Nothing in Lean hashes anything: it is a label: what it is worth is what the hold of that sum in a sandbox is worth. -/
noncomputable def Try.pinned : Pinned := { name := "ytomchhjemfldnaa", sum := "4d88bf6dfb802d8f23f42316a61bd9a0538caf00aee9dc92b0cd3cc6a65c6137", checked := Try.checked }
namespace Rows
def none {H : Type} : Left H := { results := [], args := [] }

/-- 'carousellaw03.TaggedCloses': WHATEVER THE INPUT: true; the input reads as it did. -/
def taggedClosesSpec : ChangeSpec := { name := "taggedCloses", fn := fun _ => fun
  | [d] => { results := [.lit (.bool true)], args := [d] }
  | _ => none }
def taggedClosesRow : OpenClaim := { program := "ytomchhjemfldnaa", sum := "4d88bf6dfb802d8f23f42316a61bd9a0538caf00aee9dc92b0cd3cc6a65c6137", func := "carousel/carousellaw03.TaggedCloses", spec := "taggedCloses", apart := false }
def TaggedClosesSaid : Prop := taggedClosesRow.holds Try.pinned (OpenSpec.ofChange taggedClosesSpec)

/-- ITS FALSE NEIGHBOUR: 'it returns false'. Refute it at one input. -/
def taggedClosesWrong : ChangeSpec := { name := "taggedCloses", fn := fun _ => fun
  | [d] => { results := [.lit (.bool false)], args := [d] }
  | _ => none }
def TaggedClosesWrongFalsely : Prop := taggedClosesRow.holds Try.pinned (OpenSpec.ofChange taggedClosesWrong)

/-- 'carousellaw03.TaggedOpens': WHATEVER THE INPUT: true; the input reads as it did. -/
def taggedOpensSpec : ChangeSpec := { name := "taggedOpens", fn := fun _ => fun
  | [d] => { results := [.lit (.bool true)], args := [d] }
  | _ => none }
def taggedOpensRow : OpenClaim := { program := "ytomchhjemfldnaa", sum := "4d88bf6dfb802d8f23f42316a61bd9a0538caf00aee9dc92b0cd3cc6a65c6137", func := "carousel/carousellaw03.TaggedOpens", spec := "taggedOpens", apart := false }
def TaggedOpensSaid : Prop := taggedOpensRow.holds Try.pinned (OpenSpec.ofChange taggedOpensSpec)

/-- ITS FALSE NEIGHBOUR: 'it returns false'. Refute it at one input. -/
def taggedOpensWrong : ChangeSpec := { name := "taggedOpens", fn := fun _ => fun
  | [d] => { results := [.lit (.bool false)], args := [d] }
  | _ => none }
def TaggedOpensWrongFalsely : Prop := taggedOpensRow.holds Try.pinned (OpenSpec.ofChange taggedOpensWrong)

/-- 'carousellaw03.TaggedBack': WHATEVER THE INPUT: true; the input reads as it did. -/
def taggedBackSpec : ChangeSpec := { name := "taggedBack", fn := fun _ => fun
  | [d1, d2] => { results := [.lit (.bool true)], args := [d1, d2] }
  | _ => none }
def taggedBackRow : OpenClaim := { program := "ytomchhjemfldnaa", sum := "4d88bf6dfb802d8f23f42316a61bd9a0538caf00aee9dc92b0cd3cc6a65c6137", func := "carousel/carousellaw03.TaggedBack", spec := "taggedBack", apart := false }
def TaggedBackSaid : Prop := taggedBackRow.holds Try.pinned (OpenSpec.ofChange taggedBackSpec)

/-- ITS FALSE NEIGHBOUR: 'it returns false'. Refute it at one input. -/
def taggedBackWrong : ChangeSpec := { name := "taggedBack", fn := fun _ => fun
  | [d1, d2] => { results := [.lit (.bool false)], args := [d1, d2] }
  | _ => none }
def TaggedBackWrongFalsely : Prop := taggedBackRow.holds Try.pinned (OpenSpec.ofChange taggedBackWrong)

/- THE SECOND FORM. 'bulk': how many values and letters a reading holds, each counted each time it is reached (what is shared counts as often as it is met; a slice's spare places count too). A statement '..UptoSaid' is the law's where the arguments, and the package variables that the reading takes, are together of bulk at most 1048576: NARROWER than '..Said'. Prove '..Said' where nothing that the law and all that it calls make is longer than what came in: it says more and counts as full. Else prove '..UptoSaid'. A law counts once. -/
mutual
def uptoBulk {H : Type} : DataW H → Nat
  | .lit (.string bytes) => bytes.length + 1
  | .lit _ => 1
  | .nil => 1
  | .ptr d => uptoBulk d + 1
  | .slice elems spare => uptoBulkAll elems + uptoBulkAll spare + 1
  | .agg parts => uptoBulkAll parts + 1
  | .iface _ d => uptoBulk d + 1
  | .map entries => uptoBulkEntries entries + 1
  | .held _ => 1
def uptoBulkAll {H : Type} : List (DataW H) → Nat
  | [] => 0
  | d :: r => uptoBulk d + uptoBulkAll r
def uptoBulkEntries {H : Type} : List (Lit × DataW H) → Nat
  | [] => 0
  | x :: r => uptoBulkEntry x + uptoBulkEntries r
def uptoBulkEntry {H : Type} : Lit × DataW H → Nat
  | (.string bytes, d) => bytes.length + uptoBulk d + 1
  | (_, d) => uptoBulk d + 1
 end
def uptoSmall : (H : Type) → List (DataW H) → Bool := fun _ ds => decide (uptoBulkAll ds ≤ 1048576)
def OpenSpec.upto (s : _root_.Go.ChangeSpec) : _root_.Go.OpenSpec := { _root_.Go.OpenSpec.ofChange s with cond := some uptoSmall }

/-- 'carousellaw03.TaggedCloses', WHERE WHAT IT READS IS OF BULK AT MOST 1048576: true; the input reads as it did. -/
def taggedClosesUptoRow : OpenClaim := { program := "ytomchhjemfldnaa", sum := "4d88bf6dfb802d8f23f42316a61bd9a0538caf00aee9dc92b0cd3cc6a65c6137", func := "carousel/carousellaw03.TaggedCloses", spec := "taggedCloses", apart := false, narrowed := true }
def TaggedClosesUptoSaid : Prop := taggedClosesUptoRow.holds Try.pinned (OpenSpec.upto taggedClosesSpec)

/-- 'carousellaw03.TaggedOpens', WHERE WHAT IT READS IS OF BULK AT MOST 1048576: true; the input reads as it did. -/
def taggedOpensUptoRow : OpenClaim := { program := "ytomchhjemfldnaa", sum := "4d88bf6dfb802d8f23f42316a61bd9a0538caf00aee9dc92b0cd3cc6a65c6137", func := "carousel/carousellaw03.TaggedOpens", spec := "taggedOpens", apart := false, narrowed := true }
def TaggedOpensUptoSaid : Prop := taggedOpensUptoRow.holds Try.pinned (OpenSpec.upto taggedOpensSpec)

/-- 'carousellaw03.TaggedBack', WHERE WHAT IT READS IS OF BULK AT MOST 1048576: true; the input reads as it did. -/
def taggedBackUptoRow : OpenClaim := { program := "ytomchhjemfldnaa", sum := "4d88bf6dfb802d8f23f42316a61bd9a0538caf00aee9dc92b0cd3cc6a65c6137", func := "carousel/carousellaw03.TaggedBack", spec := "taggedBack", apart := false, narrowed := true }
def TaggedBackUptoSaid : Prop := taggedBackUptoRow.holds Try.pinned (OpenSpec.upto taggedBackSpec)

end Rows
end Go.Proofs.Ytomchhjemfldnaa
