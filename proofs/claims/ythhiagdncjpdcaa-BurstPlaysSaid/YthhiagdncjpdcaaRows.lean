/-
  No cell of these rows narrows 'for every input' (looked for: loops, veiled, ifaces, maps, wideKeys, modest, calm, conditions, laid).
  DERIVED. THE GIVEN ROWS OF THIS SEAT. 4 by the template 'for every input the law returns true; each argument reads behind the call as it read before'; 0 by the template 'total and deterministic' (their statements: YthhiagdncjpdcaaTotals.lean).
  GIVEN WITH THE SEED: the statements are not yours to turn. If you find one false, say at which input.
  Laid BY PROGRAM, IN A SANDBOX (cutbox-rows.mjs): the forced cells as the released guide's own fill.sh prints them over the translation f79c545abf477bf6… (all of the seat's roots in one cut). By AI agents, Wed Nov 11 2026. No macro, syntax, notation, axiom, sorry.
-/
import Derived.Test.YthhiagdncjpdcaaChecked
import GoSem.Claim
import GoSem.ClaimJoined
import GoSem.ClaimMapViews
import Derived.JoinedTies
import Derived.KernelRfl
namespace Go.Proofs.Ythhiagdncjpdcaa
/- THE CELL 'sum', in the pinned program and in every row, IS THE sha256 OF THE DUMP (.gsa) THAT YthhiagdncjpdcaaProg.lean LOADS. Nothing in Lean hashes anything: it is a label: what it is worth is what the hold of that sum in a sandbox is worth. -/
noncomputable def Try.pinned : Pinned := { name := "ythhiagdncjpdcaa", sum := "f79c545abf477bf67a24712ed25ec442d027c81e087208dd8119bfe7fe284d87", checked := Try.checked }
namespace Rows
def none {H : Type} : Left H := { results := [], args := [] }

/-- 'carousellaw14.FlushHears': WHATEVER THE INPUT: true; the input reads as it did. -/
def flushHearsSpec : ChangeSpec := { name := "flushHears", fn := fun _ => fun
  | [d] => { results := [.lit (.bool true)], args := [d] }
  | _ => none }
def flushHearsRow : OpenClaim := { program := "ythhiagdncjpdcaa", sum := "f79c545abf477bf67a24712ed25ec442d027c81e087208dd8119bfe7fe284d87", func := "carousel/carousellaw14.FlushHears", spec := "flushHears", apart := false }
def FlushHearsSaid : Prop := flushHearsRow.holds Try.pinned (OpenSpec.ofChange flushHearsSpec)

/-- ITS FALSE NEIGHBOUR: 'it returns false'. Refute it at one input. -/
def flushHearsWrong : ChangeSpec := { name := "flushHears", fn := fun _ => fun
  | [d] => { results := [.lit (.bool false)], args := [d] }
  | _ => none }
def FlushHearsWrongFalsely : Prop := flushHearsRow.holds Try.pinned (OpenSpec.ofChange flushHearsWrong)

/-- 'carousellaw14.FlushOnce': WHATEVER THE INPUT: true; the input reads as it did. -/
def flushOnceSpec : ChangeSpec := { name := "flushOnce", fn := fun _ => fun
  | [d1, d2, d3] => { results := [.lit (.bool true)], args := [d1, d2, d3] }
  | _ => none }
def flushOnceRow : OpenClaim := { program := "ythhiagdncjpdcaa", sum := "f79c545abf477bf67a24712ed25ec442d027c81e087208dd8119bfe7fe284d87", func := "carousel/carousellaw14.FlushOnce", spec := "flushOnce", apart := false }
def FlushOnceSaid : Prop := flushOnceRow.holds Try.pinned (OpenSpec.ofChange flushOnceSpec)

/-- ITS FALSE NEIGHBOUR: 'it returns false'. Refute it at one input. -/
def flushOnceWrong : ChangeSpec := { name := "flushOnce", fn := fun _ => fun
  | [d1, d2, d3] => { results := [.lit (.bool false)], args := [d1, d2, d3] }
  | _ => none }
def FlushOnceWrongFalsely : Prop := flushOnceRow.holds Try.pinned (OpenSpec.ofChange flushOnceWrong)

/-- 'carousellaw15.BurstPlays': WHATEVER THE INPUT: true; the input reads as it did. -/
def burstPlaysSpec : ChangeSpec := { name := "burstPlays", fn := fun _ => fun
  | [d1, d2, d3] => { results := [.lit (.bool true)], args := [d1, d2, d3] }
  | _ => none }
def burstPlaysRow : OpenClaim := { program := "ythhiagdncjpdcaa", sum := "f79c545abf477bf67a24712ed25ec442d027c81e087208dd8119bfe7fe284d87", func := "carousel/carousellaw15.BurstPlays", spec := "burstPlays", apart := false }
def BurstPlaysSaid : Prop := burstPlaysRow.holds Try.pinned (OpenSpec.ofChange burstPlaysSpec)

/-- ITS FALSE NEIGHBOUR: 'it returns false'. Refute it at one input. -/
def burstPlaysWrong : ChangeSpec := { name := "burstPlays", fn := fun _ => fun
  | [d1, d2, d3] => { results := [.lit (.bool false)], args := [d1, d2, d3] }
  | _ => none }
def BurstPlaysWrongFalsely : Prop := burstPlaysRow.holds Try.pinned (OpenSpec.ofChange burstPlaysWrong)

/-- 'carousellaw15.BurstTimes': WHATEVER THE INPUT: true; the input reads as it did. -/
def burstTimesSpec : ChangeSpec := { name := "burstTimes", fn := fun _ => fun
  | [d1, d2, d3, d4] => { results := [.lit (.bool true)], args := [d1, d2, d3, d4] }
  | _ => none }
def burstTimesRow : OpenClaim := { program := "ythhiagdncjpdcaa", sum := "f79c545abf477bf67a24712ed25ec442d027c81e087208dd8119bfe7fe284d87", func := "carousel/carousellaw15.BurstTimes", spec := "burstTimes", apart := false }
def BurstTimesSaid : Prop := burstTimesRow.holds Try.pinned (OpenSpec.ofChange burstTimesSpec)

/-- ITS FALSE NEIGHBOUR: 'it returns false'. Refute it at one input. -/
def burstTimesWrong : ChangeSpec := { name := "burstTimes", fn := fun _ => fun
  | [d1, d2, d3, d4] => { results := [.lit (.bool false)], args := [d1, d2, d3, d4] }
  | _ => none }
def BurstTimesWrongFalsely : Prop := burstTimesRow.holds Try.pinned (OpenSpec.ofChange burstTimesWrong)

/- THE SECOND FORM. 'bulk': how many values and letters a reading holds, each counted each time it is reached (what is shared counts as often as it is met; a slice's spare places count too). A statement '..UptoSaid' is the law's where the arguments, and the package variables that the reading takes, are together of bulk at most 1048576: NARROWER than '..Said'. Prove '..Said' where nothing that the law and all that it calls make is longer than what came in: it says more and counts as full. Else prove '..UptoSaid'. A law counts once. -/
mutual
def uptoBulk {H : Type} : DataW H → Nat
  | .lit (.string bytes) => bytes.length + 1
  | .lit _ => 1
  | .nil => 1
  | .ptr d => uptoBulk d + 1
  | .slice elems spare => uptoBulkAll elems + uptoBulkAll spare + 1
  | .agg parts => uptoBulkAll parts + 1
  | .iface _ d => uptoBulk d + 1
  | .map entries => uptoBulkEntries entries + 1
  | .held _ => 1
def uptoBulkAll {H : Type} : List (DataW H) → Nat
  | [] => 0
  | d :: r => uptoBulk d + uptoBulkAll r
def uptoBulkEntries {H : Type} : List (Lit × DataW H) → Nat
  | [] => 0
  | x :: r => uptoBulkEntry x + uptoBulkEntries r
def uptoBulkEntry {H : Type} : Lit × DataW H → Nat
  | (.string bytes, d) => bytes.length + uptoBulk d + 1
  | (_, d) => uptoBulk d + 1
 end
def uptoSmall : (H : Type) → List (DataW H) → Bool := fun _ ds => decide (uptoBulkAll ds ≤ 1048576)
def OpenSpec.upto (s : _root_.Go.ChangeSpec) : _root_.Go.OpenSpec := { _root_.Go.OpenSpec.ofChange s with cond := some uptoSmall }

/-- 'carousellaw14.FlushHears', WHERE WHAT IT READS IS OF BULK AT MOST 1048576: true; the input reads as it did. -/
def flushHearsUptoRow : OpenClaim := { program := "ythhiagdncjpdcaa", sum := "f79c545abf477bf67a24712ed25ec442d027c81e087208dd8119bfe7fe284d87", func := "carousel/carousellaw14.FlushHears", spec := "flushHears", apart := false, narrowed := true }
def FlushHearsUptoSaid : Prop := flushHearsUptoRow.holds Try.pinned (OpenSpec.upto flushHearsSpec)

/-- 'carousellaw14.FlushOnce', WHERE WHAT IT READS IS OF BULK AT MOST 1048576: true; the input reads as it did. -/
def flushOnceUptoRow : OpenClaim := { program := "ythhiagdncjpdcaa", sum := "f79c545abf477bf67a24712ed25ec442d027c81e087208dd8119bfe7fe284d87", func := "carousel/carousellaw14.FlushOnce", spec := "flushOnce", apart := false, narrowed := true }
def FlushOnceUptoSaid : Prop := flushOnceUptoRow.holds Try.pinned (OpenSpec.upto flushOnceSpec)

/-- 'carousellaw15.BurstPlays', WHERE WHAT IT READS IS OF BULK AT MOST 1048576: true; the input reads as it did. -/
def burstPlaysUptoRow : OpenClaim := { program := "ythhiagdncjpdcaa", sum := "f79c545abf477bf67a24712ed25ec442d027c81e087208dd8119bfe7fe284d87", func := "carousel/carousellaw15.BurstPlays", spec := "burstPlays", apart := false, narrowed := true }
def BurstPlaysUptoSaid : Prop := burstPlaysUptoRow.holds Try.pinned (OpenSpec.upto burstPlaysSpec)

/-- 'carousellaw15.BurstTimes', WHERE WHAT IT READS IS OF BULK AT MOST 1048576: true; the input reads as it did. -/
def burstTimesUptoRow : OpenClaim := { program := "ythhiagdncjpdcaa", sum := "f79c545abf477bf67a24712ed25ec442d027c81e087208dd8119bfe7fe284d87", func := "carousel/carousellaw15.BurstTimes", spec := "burstTimes", apart := false, narrowed := true }
def BurstTimesUptoSaid : Prop := burstTimesUptoRow.holds Try.pinned (OpenSpec.upto burstTimesSpec)

end Rows
end Go.Proofs.Ythhiagdncjpdcaa
