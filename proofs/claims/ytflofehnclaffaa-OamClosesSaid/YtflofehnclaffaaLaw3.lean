/-
  The statement FieldBack: its walk.
-/
import Derived.Test.YtflofehnclaffaaLaw2
import Derived.Test.YtflofehnclaffaaBack
import Derived.Deep.DeepCutAuto
namespace Go.Proofs.Ytflofehnclaffaa.Lw
open Go.RowKit Go.Proofs.Ytflofehnclaffaa.Bt Go.Proofs.Ytflofehnclaffaa.Mm Go.Proofs.Ytflofehnclaffaa.Fl Go.Proofs.Ytflofehnclaffaa.Rf

theorem pack_at {b : List UInt8} {k : Nat} (ps : List (Int × Nat)) (A : Option Addr) (c : Nat) (w : World) (h : packR ps = (b, k)) (hn : ps.length ≤ 100000) (hA : Rd w w.heap.size A (partCells ps)) (hv : ∀ p ∈ ps, p.2 < 18446744073709551616) :
    Calls Try.prog 14 #[.slice A ps.length c] w fun e w' => e = .returned (.tuple #[.string ⟨b.toArray⟩, .int .i64 (k : Nat)]) ∧ Below w.heap.size w w' := by
  have := pack_any ps A c w hn hA hv
  rw [h] at this
  exact this
theorem split_len {vs : List Nat} {r : ByteArray} {k : Nat} (s : ByteArray) (zs : List Int) (n m : Nat) (A : Option Addr) (c : Nat) (w : World) (h : splitR s zs = (vs, r, k)) (hn : zs.length = n) (hm : vs.length = m) (hs : s.size ≤ maxLen) (hn2 : n ≤ 100000) (hA : Rd w w.heap.size A (ints zs)) :
    Calls Try.prog 15 #[.string s, .slice A n c] w fun e w' => ∃ A' c', e = .returned (.tuple #[.slice A' m c', .string r, .int .i64 (k : Nat)]) ∧ Rd w' w'.heap.size A' (nums .u64 vs) ∧ Below w.heap.size w w' := by
  subst hn hm
  exact split_at s zs A c w h hs hn2 hA
theorem size_app (a b : ByteArray) : (a ++ b).size = a.size + b.size := by simp
theorem list_app (a b : ByteArray) : (a ++ b).data.toList = a.data.toList ++ b.data.toList := by simp
theorem pack_len {b : List UInt8} {k : Nat} (ps : List (Int × Nat)) (n : Nat) (A : Option Addr) (c : Nat) (w : World) (h : packR ps = (b, k)) (hn : ps.length = n) (hn2 : n ≤ 100000) (hA : Rd w w.heap.size A (partCells ps)) (hv : ∀ p ∈ ps, p.2 < 18446744073709551616) :
    Calls Try.prog 14 #[.slice A n c] w fun e w' => e = .returned (.tuple #[.string ⟨b.toArray⟩, .int .i64 (k : Nat)]) ∧ Below w.heap.size w w' := by
  subst hn
  exact pack_at ps A c w h hn2 hA hv
theorem info_fpart : (Try.prog.info? 43).map (fun i => (i.zero, i.size, i.bytes)) = some (some (.agg #[.int .i64 0, .int .u64 0]), 2, 16) := by kernel_rfl

/-- behind an append onto an older row a box is as it was -/
theorem box_kept {wr w2 : World} {cs : Array Value} {t : TypeId} {o : Obj} {row : Option Nat} (hg : ((wr.alloc (.cells cs t)).alloc o).grownBy w2 row) (hr : ∀ g, row = some g → g < wr.heap.size) : Blk w2 wr.heap.size t cs ∧ wr.heap.size + 2 ≤ w2.heap.size := by
  refine ⟨((Blk.fresh wr t cs).alloc o).grown hg (fun e => ?_), ?_⟩
  · have := hr _ e.symm; omega
  · have := hg.size; simp at this; omega

end Go.Proofs.Ytflofehnclaffaa.Lw
