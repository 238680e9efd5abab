/-
  No cell of these rows narrows 'for every input' (looked for: loops, veiled, ifaces, maps, wideKeys, modest, calm, conditions, laid).
  DERIVED. THE GIVEN ROWS OF THIS SEAT. 3 by the template 'for every input the law returns true; each argument reads behind the call as it read before'; 0 by the template 'total and deterministic' (their statements: YtlbnigdindpnfaaTotals.lean).
  GIVEN WITH THE SEED: the statements are not yours to turn. If you find one false, say at which input.
  Laid BY PROGRAM, IN A SANDBOX (cutbox-rows.mjs): the forced cells as the released guide's own fill.sh prints them over the translation d5094ff093aae847… (all of the seat's roots in one cut). By AI agents, Wed Nov 11 2026. No macro, syntax, notation, axiom, sorry.
-/
import Derived.Test.YtlbnigdindpnfaaChecked
import GoSem.Claim
import GoSem.ClaimJoined
import GoSem.ClaimMapViews
import Derived.JoinedTies
import Derived.KernelRfl
namespace Go.Proofs.Ytlbnigdindpnfaa
/- THE CELL 'sum', in the pinned program and in every row, IS THE sha256 OF THE DUMP (.gsa) THAT YtlbnigdindpnfaaProg.lean LOADS. Nothing in Lean hashes anything: it is a label: what it is worth is what the hold of that sum in a sandbox is worth. -/
noncomputable def Try.pinned : Pinned := { name := "ytlbnigdindpnfaa", sum := "d5094ff093aae847f764f94fffa9074002649ca6eb0ff67465b82aa60e891145", checked := Try.checked }
namespace Rows
def none {H : Type} : Left H := { results := [], args := [] }

/-- 'carousellaw09.WatchPlays': WHATEVER THE INPUT: true; the input reads as it did. -/
def watchPlaysSpec : ChangeSpec := { name := "watchPlays", fn := fun _ => fun
  | [d1, d2, d3] => { results := [.lit (.bool true)], args := [d1, d2, d3] }
  | _ => none }
def watchPlaysRow : OpenClaim := { program := "ytlbnigdindpnfaa", sum := "d5094ff093aae847f764f94fffa9074002649ca6eb0ff67465b82aa60e891145", func := "carousel/carousellaw09.WatchPlays", spec := "watchPlays", apart := false }
def WatchPlaysSaid : Prop := watchPlaysRow.holds Try.pinned (OpenSpec.ofChange watchPlaysSpec)

/-- ITS FALSE NEIGHBOUR: 'it returns false'. Refute it at one input. -/
def watchPlaysWrong : ChangeSpec := { name := "watchPlays", fn := fun _ => fun
  | [d1, d2, d3] => { results := [.lit (.bool false)], args := [d1, d2, d3] }
  | _ => none }
def WatchPlaysWrongFalsely : Prop := watchPlaysRow.holds Try.pinned (OpenSpec.ofChange watchPlaysWrong)

/-- 'carousellaw09.WatchLoses': WHATEVER THE INPUT: true; the input reads as it did. -/
def watchLosesSpec : ChangeSpec := { name := "watchLoses", fn := fun _ => fun
  | [d1, d2] => { results := [.lit (.bool true)], args := [d1, d2] }
  | _ => none }
def watchLosesRow : OpenClaim := { program := "ytlbnigdindpnfaa", sum := "d5094ff093aae847f764f94fffa9074002649ca6eb0ff67465b82aa60e891145", func := "carousel/carousellaw09.WatchLoses", spec := "watchLoses", apart := false }
def WatchLosesSaid : Prop := watchLosesRow.holds Try.pinned (OpenSpec.ofChange watchLosesSpec)

/-- ITS FALSE NEIGHBOUR: 'it returns false'. Refute it at one input. -/
def watchLosesWrong : ChangeSpec := { name := "watchLoses", fn := fun _ => fun
  | [d1, d2] => { results := [.lit (.bool false)], args := [d1, d2] }
  | _ => none }
def WatchLosesWrongFalsely : Prop := watchLosesRow.holds Try.pinned (OpenSpec.ofChange watchLosesWrong)

/-- 'carousellaw09.WatchSends': WHATEVER THE INPUT: true; the input reads as it did. -/
def watchSendsSpec : ChangeSpec := { name := "watchSends", fn := fun _ => fun
  | [d1, d2] => { results := [.lit (.bool true)], args := [d1, d2] }
  | _ => none }
def watchSendsRow : OpenClaim := { program := "ytlbnigdindpnfaa", sum := "d5094ff093aae847f764f94fffa9074002649ca6eb0ff67465b82aa60e891145", func := "carousel/carousellaw09.WatchSends", spec := "watchSends", apart := false }
def WatchSendsSaid : Prop := watchSendsRow.holds Try.pinned (OpenSpec.ofChange watchSendsSpec)

/-- ITS FALSE NEIGHBOUR: 'it returns false'. Refute it at one input. -/
def watchSendsWrong : ChangeSpec := { name := "watchSends", fn := fun _ => fun
  | [d1, d2] => { results := [.lit (.bool false)], args := [d1, d2] }
  | _ => none }
def WatchSendsWrongFalsely : Prop := watchSendsRow.holds Try.pinned (OpenSpec.ofChange watchSendsWrong)

/- THE SECOND FORM. 'bulk': how many values and letters a reading holds, each counted each time it is reached (what is shared counts as often as it is met; a slice's spare places count too). A statement '..UptoSaid' is the law's where the arguments, and the package variables that the reading takes, are together of bulk at most 1048576: NARROWER than '..Said'. Prove '..Said' where nothing that the law and all that it calls make is longer than what came in: it says more and counts as full. Else prove '..UptoSaid'. A law counts once. -/
mutual
def uptoBulk {H : Type} : DataW H → Nat
  | .lit (.string bytes) => bytes.length + 1
  | .lit _ => 1
  | .nil => 1
  | .ptr d => uptoBulk d + 1
  | .slice elems spare => uptoBulkAll elems + uptoBulkAll spare + 1
  | .agg parts => uptoBulkAll parts + 1
  | .iface _ d => uptoBulk d + 1
  | .map entries => uptoBulkEntries entries + 1
  | .held _ => 1
def uptoBulkAll {H : Type} : List (DataW H) → Nat
  | [] => 0
  | d :: r => uptoBulk d + uptoBulkAll r
def uptoBulkEntries {H : Type} : List (Lit × DataW H) → Nat
  | [] => 0
  | x :: r => uptoBulkEntry x + uptoBulkEntries r
def uptoBulkEntry {H : Type} : Lit × DataW H → Nat
  | (.string bytes, d) => bytes.length + uptoBulk d + 1
  | (_, d) => uptoBulk d + 1
 end
def uptoSmall : (H : Type) → List (DataW H) → Bool := fun _ ds => decide (uptoBulkAll ds ≤ 1048576)
def OpenSpec.upto (s : _root_.Go.ChangeSpec) : _root_.Go.OpenSpec := { _root_.Go.OpenSpec.ofChange s with cond := some uptoSmall }

/-- 'carousellaw09.WatchPlays', WHERE WHAT IT READS IS OF BULK AT MOST 1048576: true; the input reads as it did. -/
def watchPlaysUptoRow : OpenClaim := { program := "ytlbnigdindpnfaa", sum := "d5094ff093aae847f764f94fffa9074002649ca6eb0ff67465b82aa60e891145", func := "carousel/carousellaw09.WatchPlays", spec := "watchPlays", apart := false, narrowed := true }
def WatchPlaysUptoSaid : Prop := watchPlaysUptoRow.holds Try.pinned (OpenSpec.upto watchPlaysSpec)

/-- 'carousellaw09.WatchLoses', WHERE WHAT IT READS IS OF BULK AT MOST 1048576: true; the input reads as it did. -/
def watchLosesUptoRow : OpenClaim := { program := "ytlbnigdindpnfaa", sum := "d5094ff093aae847f764f94fffa9074002649ca6eb0ff67465b82aa60e891145", func := "carousel/carousellaw09.WatchLoses", spec := "watchLoses", apart := false, narrowed := true }
def WatchLosesUptoSaid : Prop := watchLosesUptoRow.holds Try.pinned (OpenSpec.upto watchLosesSpec)

/-- 'carousellaw09.WatchSends', WHERE WHAT IT READS IS OF BULK AT MOST 1048576: true; the input reads as it did. -/
def watchSendsUptoRow : OpenClaim := { program := "ytlbnigdindpnfaa", sum := "d5094ff093aae847f764f94fffa9074002649ca6eb0ff67465b82aa60e891145", func := "carousel/carousellaw09.WatchSends", spec := "watchSends", apart := false, narrowed := true }
def WatchSendsUptoSaid : Prop := watchSendsUptoRow.holds Try.pinned (OpenSpec.upto watchSendsSpec)

end Rows
end Go.Proofs.Ytlbnigdindpnfaa
