/-
  No cell of these rows narrows 'for every input' (looked for: loops, veiled, ifaces, maps, wideKeys, modest, calm, conditions, laid).
  DERIVED. THE GIVEN ROWS OF THIS SEAT. 6 by the template 'for every input the law returns true; each argument reads behind the call as it read before'; 0 by the template 'total and deterministic' (their statements: YtnapbmdkaldncaaTotals.lean).
  GIVEN WITH THE SEED: the statements are not yours to turn. If you find one false, say at which input.
  Laid BY PROGRAM, IN A SANDBOX (cutbox-rows.mjs): the forced cells as the released guide's own fill.sh prints them over the translation c4a4c8d910c409f0… (all of the seat's roots in one cut). By AI agents, Wed Nov 11 2026. No macro, syntax, notation, axiom, sorry.
-/
import Derived.Test.YtnapbmdkaldncaaChecked
import GoSem.Claim
import GoSem.ClaimJoined
import GoSem.ClaimMapViews
import Derived.JoinedTies
import Derived.KernelRfl
namespace Go.Proofs.Ytnapbmdkaldncaa
/- THE CELL 'sum', in the pinned program and in every row, IS THE sha256 OF THE DUMP (.gsa) THAT YtnapbmdkaldncaaProg.lean LOADS. Nothing in Lean hashes anything: it is a label: what it is worth is what the hold of that sum in a sandbox is worth. -/
noncomputable def Try.pinned : Pinned := { name := "ytnapbmdkaldncaa", sum := "c4a4c8d910c409f0600239d1fc2642fa8cd10725e87bad036fca7941ebe015d3", checked := Try.checked }
namespace Rows
def none {H : Type} : Left H := { results := [], args := [] }

/-- 'carousellaw05.RapsCloses': WHATEVER THE INPUT: true; the input reads as it did. -/
def rapsClosesSpec : ChangeSpec := { name := "rapsCloses", fn := fun _ => fun
  | [d1, d2] => { results := [.lit (.bool true)], args := [d1, d2] }
  | _ => none }
def rapsClosesRow : OpenClaim := { program := "ytnapbmdkaldncaa", sum := "c4a4c8d910c409f0600239d1fc2642fa8cd10725e87bad036fca7941ebe015d3", func := "carousel/carousellaw05.RapsCloses", spec := "rapsCloses", apart := false }
def RapsClosesSaid : Prop := rapsClosesRow.holds Try.pinned (OpenSpec.ofChange rapsClosesSpec)

/-- ITS FALSE NEIGHBOUR: 'it returns false'. Refute it at one input. -/
def rapsClosesWrong : ChangeSpec := { name := "rapsCloses", fn := fun _ => fun
  | [d1, d2] => { results := [.lit (.bool false)], args := [d1, d2] }
  | _ => none }
def RapsClosesWrongFalsely : Prop := rapsClosesRow.holds Try.pinned (OpenSpec.ofChange rapsClosesWrong)

/-- 'carousellaw05.RapsOpens': WHATEVER THE INPUT: true; the input reads as it did. -/
def rapsOpensSpec : ChangeSpec := { name := "rapsOpens", fn := fun _ => fun
  | [d1, d2] => { results := [.lit (.bool true)], args := [d1, d2] }
  | _ => none }
def rapsOpensRow : OpenClaim := { program := "ytnapbmdkaldncaa", sum := "c4a4c8d910c409f0600239d1fc2642fa8cd10725e87bad036fca7941ebe015d3", func := "carousel/carousellaw05.RapsOpens", spec := "rapsOpens", apart := false }
def RapsOpensSaid : Prop := rapsOpensRow.holds Try.pinned (OpenSpec.ofChange rapsOpensSpec)

/-- ITS FALSE NEIGHBOUR: 'it returns false'. Refute it at one input. -/
def rapsOpensWrong : ChangeSpec := { name := "rapsOpens", fn := fun _ => fun
  | [d1, d2] => { results := [.lit (.bool false)], args := [d1, d2] }
  | _ => none }
def RapsOpensWrongFalsely : Prop := rapsOpensRow.holds Try.pinned (OpenSpec.ofChange rapsOpensWrong)

/-- 'carousellaw05.RapsBack': WHATEVER THE INPUT: true; the input reads as it did. -/
def rapsBackSpec : ChangeSpec := { name := "rapsBack", fn := fun _ => fun
  | [d1, d2, d3, d4] => { results := [.lit (.bool true)], args := [d1, d2, d3, d4] }
  | _ => none }
def rapsBackRow : OpenClaim := { program := "ytnapbmdkaldncaa", sum := "c4a4c8d910c409f0600239d1fc2642fa8cd10725e87bad036fca7941ebe015d3", func := "carousel/carousellaw05.RapsBack", spec := "rapsBack", apart := false }
def RapsBackSaid : Prop := rapsBackRow.holds Try.pinned (OpenSpec.ofChange rapsBackSpec)

/-- ITS FALSE NEIGHBOUR: 'it returns false'. Refute it at one input. -/
def rapsBackWrong : ChangeSpec := { name := "rapsBack", fn := fun _ => fun
  | [d1, d2, d3, d4] => { results := [.lit (.bool false)], args := [d1, d2, d3, d4] }
  | _ => none }
def RapsBackWrongFalsely : Prop := rapsBackRow.holds Try.pinned (OpenSpec.ofChange rapsBackWrong)

/-- 'carousellaw06.CcmCloses': WHATEVER THE INPUT: true; the input reads as it did. -/
def ccmClosesSpec : ChangeSpec := { name := "ccmCloses", fn := fun _ => fun
  | [d1, d2, d3] => { results := [.lit (.bool true)], args := [d1, d2, d3] }
  | _ => none }
def ccmClosesRow : OpenClaim := { program := "ytnapbmdkaldncaa", sum := "c4a4c8d910c409f0600239d1fc2642fa8cd10725e87bad036fca7941ebe015d3", func := "carousel/carousellaw06.CcmCloses", spec := "ccmCloses", apart := false }
def CcmClosesSaid : Prop := ccmClosesRow.holds Try.pinned (OpenSpec.ofChange ccmClosesSpec)

/-- ITS FALSE NEIGHBOUR: 'it returns false'. Refute it at one input. -/
def ccmClosesWrong : ChangeSpec := { name := "ccmCloses", fn := fun _ => fun
  | [d1, d2, d3] => { results := [.lit (.bool false)], args := [d1, d2, d3] }
  | _ => none }
def CcmClosesWrongFalsely : Prop := ccmClosesRow.holds Try.pinned (OpenSpec.ofChange ccmClosesWrong)

/-- 'carousellaw06.CcmOpens': WHATEVER THE INPUT: true; the input reads as it did. -/
def ccmOpensSpec : ChangeSpec := { name := "ccmOpens", fn := fun _ => fun
  | [d1, d2] => { results := [.lit (.bool true)], args := [d1, d2] }
  | _ => none }
def ccmOpensRow : OpenClaim := { program := "ytnapbmdkaldncaa", sum := "c4a4c8d910c409f0600239d1fc2642fa8cd10725e87bad036fca7941ebe015d3", func := "carousel/carousellaw06.CcmOpens", spec := "ccmOpens", apart := false }
def CcmOpensSaid : Prop := ccmOpensRow.holds Try.pinned (OpenSpec.ofChange ccmOpensSpec)

/-- ITS FALSE NEIGHBOUR: 'it returns false'. Refute it at one input. -/
def ccmOpensWrong : ChangeSpec := { name := "ccmOpens", fn := fun _ => fun
  | [d1, d2] => { results := [.lit (.bool false)], args := [d1, d2] }
  | _ => none }
def CcmOpensWrongFalsely : Prop := ccmOpensRow.holds Try.pinned (OpenSpec.ofChange ccmOpensWrong)

/-- 'carousellaw06.CcmBack': WHATEVER THE INPUT: true; the input reads as it did. -/
def ccmBackSpec : ChangeSpec := { name := "ccmBack", fn := fun _ => fun
  | [d1, d2, d3] => { results := [.lit (.bool true)], args := [d1, d2, d3] }
  | _ => none }
def ccmBackRow : OpenClaim := { program := "ytnapbmdkaldncaa", sum := "c4a4c8d910c409f0600239d1fc2642fa8cd10725e87bad036fca7941ebe015d3", func := "carousel/carousellaw06.CcmBack", spec := "ccmBack", apart := false }
def CcmBackSaid : Prop := ccmBackRow.holds Try.pinned (OpenSpec.ofChange ccmBackSpec)

/-- ITS FALSE NEIGHBOUR: 'it returns false'. Refute it at one input. -/
def ccmBackWrong : ChangeSpec := { name := "ccmBack", fn := fun _ => fun
  | [d1, d2, d3] => { results := [.lit (.bool false)], args := [d1, d2, d3] }
  | _ => none }
def CcmBackWrongFalsely : Prop := ccmBackRow.holds Try.pinned (OpenSpec.ofChange ccmBackWrong)

/- THE SECOND FORM. 'bulk': how many values and letters a reading holds, each counted each time it is reached (what is shared counts as often as it is met; a slice's spare places count too). A statement '..UptoSaid' is the law's where the arguments, and the package variables that the reading takes, are together of bulk at most 1048576: NARROWER than '..Said'. Prove '..Said' where nothing that the law and all that it calls make is longer than what came in: it says more and counts as full. Else prove '..UptoSaid'. A law counts once. -/
mutual
def uptoBulk {H : Type} : DataW H → Nat
  | .lit (.string bytes) => bytes.length + 1
  | .lit _ => 1
  | .nil => 1
  | .ptr d => uptoBulk d + 1
  | .slice elems spare => uptoBulkAll elems + uptoBulkAll spare + 1
  | .agg parts => uptoBulkAll parts + 1
  | .iface _ d => uptoBulk d + 1
  | .map entries => uptoBulkEntries entries + 1
  | .held _ => 1
def uptoBulkAll {H : Type} : List (DataW H) → Nat
  | [] => 0
  | d :: r => uptoBulk d + uptoBulkAll r
def uptoBulkEntries {H : Type} : List (Lit × DataW H) → Nat
  | [] => 0
  | x :: r => uptoBulkEntry x + uptoBulkEntries r
def uptoBulkEntry {H : Type} : Lit × DataW H → Nat
  | (.string bytes, d) => bytes.length + uptoBulk d + 1
  | (_, d) => uptoBulk d + 1
 end
def uptoSmall : (H : Type) → List (DataW H) → Bool := fun _ ds => decide (uptoBulkAll ds ≤ 1048576)
def OpenSpec.upto (s : _root_.Go.ChangeSpec) : _root_.Go.OpenSpec := { _root_.Go.OpenSpec.ofChange s with cond := some uptoSmall }

/-- 'carousellaw05.RapsCloses', WHERE WHAT IT READS IS OF BULK AT MOST 1048576: true; the input reads as it did. -/
def rapsClosesUptoRow : OpenClaim := { program := "ytnapbmdkaldncaa", sum := "c4a4c8d910c409f0600239d1fc2642fa8cd10725e87bad036fca7941ebe015d3", func := "carousel/carousellaw05.RapsCloses", spec := "rapsCloses", apart := false, narrowed := true }
def RapsClosesUptoSaid : Prop := rapsClosesUptoRow.holds Try.pinned (OpenSpec.upto rapsClosesSpec)

/-- 'carousellaw05.RapsOpens', WHERE WHAT IT READS IS OF BULK AT MOST 1048576: true; the input reads as it did. -/
def rapsOpensUptoRow : OpenClaim := { program := "ytnapbmdkaldncaa", sum := "c4a4c8d910c409f0600239d1fc2642fa8cd10725e87bad036fca7941ebe015d3", func := "carousel/carousellaw05.RapsOpens", spec := "rapsOpens", apart := false, narrowed := true }
def RapsOpensUptoSaid : Prop := rapsOpensUptoRow.holds Try.pinned (OpenSpec.upto rapsOpensSpec)

/-- 'carousellaw05.RapsBack', WHERE WHAT IT READS IS OF BULK AT MOST 1048576: true; the input reads as it did. -/
def rapsBackUptoRow : OpenClaim := { program := "ytnapbmdkaldncaa", sum := "c4a4c8d910c409f0600239d1fc2642fa8cd10725e87bad036fca7941ebe015d3", func := "carousel/carousellaw05.RapsBack", spec := "rapsBack", apart := false, narrowed := true }
def RapsBackUptoSaid : Prop := rapsBackUptoRow.holds Try.pinned (OpenSpec.upto rapsBackSpec)

/-- 'carousellaw06.CcmCloses', WHERE WHAT IT READS IS OF BULK AT MOST 1048576: true; the input reads as it did. -/
def ccmClosesUptoRow : OpenClaim := { program := "ytnapbmdkaldncaa", sum := "c4a4c8d910c409f0600239d1fc2642fa8cd10725e87bad036fca7941ebe015d3", func := "carousel/carousellaw06.CcmCloses", spec := "ccmCloses", apart := false, narrowed := true }
def CcmClosesUptoSaid : Prop := ccmClosesUptoRow.holds Try.pinned (OpenSpec.upto ccmClosesSpec)

/-- 'carousellaw06.CcmOpens', WHERE WHAT IT READS IS OF BULK AT MOST 1048576: true; the input reads as it did. -/
def ccmOpensUptoRow : OpenClaim := { program := "ytnapbmdkaldncaa", sum := "c4a4c8d910c409f0600239d1fc2642fa8cd10725e87bad036fca7941ebe015d3", func := "carousel/carousellaw06.CcmOpens", spec := "ccmOpens", apart := false, narrowed := true }
def CcmOpensUptoSaid : Prop := ccmOpensUptoRow.holds Try.pinned (OpenSpec.upto ccmOpensSpec)

/-- 'carousellaw06.CcmBack', WHERE WHAT IT READS IS OF BULK AT MOST 1048576: true; the input reads as it did. -/
def ccmBackUptoRow : OpenClaim := { program := "ytnapbmdkaldncaa", sum := "c4a4c8d910c409f0600239d1fc2642fa8cd10725e87bad036fca7941ebe015d3", func := "carousel/carousellaw06.CcmBack", spec := "ccmBack", apart := false, narrowed := true }
def CcmBackUptoSaid : Prop := ccmBackUptoRow.holds Try.pinned (OpenSpec.upto ccmBackSpec)

end Rows
end Go.Proofs.Ytnapbmdkaldncaa
