/-
  The statement FieldPacks: its walk.
  The statement FieldSplits: its walk.
  The statement FieldBack: its walk.
-/
import Derived.Test.YtaolhjmmgippmaaRef
import Derived.Test.YtaolhjmmgippmaaFld
import Derived.Deep.DeepCutAuto
namespace Go.Proofs.Ytaolhjmmgippmaa.Lw
open Go.RowKit Go.Proofs.Ytaolhjmmgippmaa.Bt Go.Proofs.Ytaolhjmmgippmaa.Mm Go.Proofs.Ytaolhjmmgippmaa.Fl Go.Proofs.Ytaolhjmmgippmaa.Rf

theorem awake_packs : packR [(3, 5), (1, 0), (12, 100)] = ([0xa0, 0x64], 0) := by decide +kernel
theorem Rd.of_cells {w : World} {g : Nat} {t : TypeId} {xs : List Value} (h : Blk w g t xs.toArray) : Rd w w.heap.size (some ⟨g, 0, none⟩) xs := by
  have := Rd.of_blk h xs.length
  simpa using this

def Law1 (w : World) (e : Ending) (w' : World) : Prop := e = .returned (.bool true) ∧ Below w.heap.size w w'

end Go.Proofs.Ytaolhjmmgippmaa.Lw
namespace Go.Proofs.Ytaolhjmmgippmaa.Lw
open Go.RowKit Go.Proofs.Ytaolhjmmgippmaa.Bt Go.Proofs.Ytaolhjmmgippmaa.Mm Go.Proofs.Ytaolhjmmgippmaa.Fl Go.Proofs.Ytaolhjmmgippmaa.Rf

def SplitAt (vs : List Nat) (r : ByteArray) (k : Nat) (w : World) (e : Ending) (w' : World) : Prop :=
  ∃ A c, e = .returned (.tuple #[.slice A vs.length c, .string r, .int .i64 (k : Nat)]) ∧ Rd w' w'.heap.size A (nums .u64 vs) ∧ Below w.heap.size w w'
end Go.Proofs.Ytaolhjmmgippmaa.Lw
namespace Go.Proofs.Ytaolhjmmgippmaa.Lw
open Go.RowKit Go.Proofs.Ytaolhjmmgippmaa.Bt Go.Proofs.Ytaolhjmmgippmaa.Mm Go.Proofs.Ytaolhjmmgippmaa.Fl Go.Proofs.Ytaolhjmmgippmaa.Rf

theorem size_app (a b : ByteArray) : (a ++ b).size = a.size + b.size := by simp
theorem list_app (a b : ByteArray) : (a ++ b).data.toList = a.data.toList ++ b.data.toList := by simp
/-- behind an append onto an older row a box is as it was -/
theorem box_kept {wr w2 : World} {cs : Array Value} {t : TypeId} {o : Obj} {row : Option Nat} (hg : ((wr.alloc (.cells cs t)).alloc o).grownBy w2 row) (hr : ∀ g, row = some g → g < wr.heap.size) : Blk w2 wr.heap.size t cs ∧ wr.heap.size + 2 ≤ w2.heap.size := by
  refine ⟨((Blk.fresh wr t cs).alloc o).grown hg (fun e => ?_), ?_⟩
  · have := hr _ e.symm; omega
  · have := hg.size; simp at this; omega

end Go.Proofs.Ytaolhjmmgippmaa.Lw
