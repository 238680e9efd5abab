/-
  The statement FieldPacks: its walk.
  The statement FieldSplits: its walk.
  The statement FieldBack: its walk.
-/
import Derived.Test.YtphndajaehofoaaDoorRef
import Derived.Test.YtphndajaehofoaaDoorFld
import Derived.Deep.DeepCutAuto
namespace Go.Proofs.YtphndajaehofoaaDoor.Lw
open Go.RowKit Go.Proofs.YtphndajaehofoaaDoor.Bt Go.Proofs.YtphndajaehofoaaDoor.Mm Go.Proofs.YtphndajaehofoaaDoor.Fl Go.Proofs.YtphndajaehofoaaDoor.Rf

theorem awake_packs : packR [(3, 5), (1, 0), (12, 100)] = ([0xa0, 0x64], 0) := by decide +kernel
theorem Rd.of_cells {w : World} {g : Nat} {t : TypeId} {xs : List Value} (h : Blk w g t xs.toArray) : Rd w w.heap.size (some ⟨g, 0, none⟩) xs := by
  have := Rd.of_blk h xs.length
  simpa using this

/-- Pack of parts that the caller has written out -/
theorem pack_lit (ps : List (Int × Nat)) (cs : Array Value) (s : List UInt8) (n k c : Nat) (t : TypeId) (w : World) (hcs : cs.toList = partCells ps) (hn : ps.length = n) (hn2 : n ≤ 100000) (hv : ∀ p ∈ ps, p.2 < 18446744073709551616) (hr : packR ps = (s, k)) :
    Calls Tryd.prog 23 #[.slice (some ⟨w.heap.size, 0, none⟩) n c] (w.alloc (.cells cs t)) fun e w' => e = .returned (.tuple #[.string ⟨s.toArray⟩, .int .i64 (k : Nat)]) ∧ Below (w.heap.size + 1) (w.alloc (.cells cs t)) w' := by
  subst hn
  have hb := Blk.fresh w t cs
  have hA : Rd (w.alloc (.cells cs t)) (w.alloc (.cells cs t)).heap.size (some ⟨w.heap.size, 0, none⟩) (partCells ps) := by
    rw [← hcs]
    exact Rd.of_cells (xs := cs.toList) (by simpa using hb)
  have h := pack_any ps (some ⟨w.heap.size, 0, none⟩) c (w.alloc (.cells cs t)) hn2 hA hv
  rw [hr] at h
  simpa using h

set_option maxRecDepth 100000 in
set_option maxHeartbeats 400000 in
theorem awake1 (w : World) : Calls Tryd.prog 16 #[] w fun e w' => e = .returned (.bool true) ∧ Below w.heap.size w w' := by
  go_enter Tryd.func16, Tryd.ntmps16
  go_wp2_with fail
  refine (pack_lit [(3, 5), (1, 0), (12, 100)] _ _ _ _ _ _ w rfl rfl (by decide) (by intro p hp; simp at hp; rcases hp with rfl | rfl | rfl <;> omega) awake_packs).mono ?_
  rintro e w1 ⟨rfl, hb⟩
  have HB := Lib.hid (((Below.refl w.heap.size w).alloc (Nat.le_refl _) (.cells #[.int .i64 3, .int .u64 5, .int .i64 1, .int .u64 0, .int .i64 12, .int .u64 100] 64)).trans (hb.mono (by omega)))
  clear hb
  go_wp2
  go_ret
  exact ⟨rfl, HB.out⟩

def Law1 (w : World) (e : Ending) (w' : World) : Prop := e = .returned (.bool true) ∧ Below w.heap.size w w'

end Go.Proofs.YtphndajaehofoaaDoor.Lw
namespace Go.Proofs.YtphndajaehofoaaDoor.Lw
open Go.RowKit Go.Proofs.YtphndajaehofoaaDoor.Bt Go.Proofs.YtphndajaehofoaaDoor.Mm Go.Proofs.YtphndajaehofoaaDoor.Fl Go.Proofs.YtphndajaehofoaaDoor.Rf

def SplitAt (vs : List Nat) (r : ByteArray) (k : Nat) (w : World) (e : Ending) (w' : World) : Prop :=
  ∃ A c, e = .returned (.tuple #[.slice A vs.length c, .string r, .int .i64 (k : Nat)]) ∧ Rd w' w'.heap.size A (nums .u64 vs) ∧ Below w.heap.size w w'
theorem split_at {vs : List Nat} {r : ByteArray} {k : Nat} (s : ByteArray) (zs : List Int) (A : Option Addr) (c : Nat) (w : World) (h : splitR s zs = (vs, r, k)) (hs : s.size ≤ maxLen) (hn : zs.length ≤ 100000) (hA : Rd w w.heap.size A (ints zs)) :
    Calls Tryd.prog 30 #[.string s, .slice A zs.length c] w (SplitAt vs r k w) :=
  (split_any s zs A c w hs hn hA).mono fun e w' ⟨A', c', h1, h2, h3⟩ => by
    rw [h] at h1 h2
    exact ⟨A', c', h1, h2, h3⟩
end Go.Proofs.YtphndajaehofoaaDoor.Lw
namespace Go.Proofs.YtphndajaehofoaaDoor.Lw
open Go.RowKit Go.Proofs.YtphndajaehofoaaDoor.Bt Go.Proofs.YtphndajaehofoaaDoor.Mm Go.Proofs.YtphndajaehofoaaDoor.Fl Go.Proofs.YtphndajaehofoaaDoor.Rf

theorem pack_at {b : List UInt8} {k : Nat} (ps : List (Int × Nat)) (A : Option Addr) (c : Nat) (w : World) (h : packR ps = (b, k)) (hn : ps.length ≤ 100000) (hA : Rd w w.heap.size A (partCells ps)) (hv : ∀ p ∈ ps, p.2 < 18446744073709551616) :
    Calls Tryd.prog 23 #[.slice A ps.length c] w fun e w' => e = .returned (.tuple #[.string ⟨b.toArray⟩, .int .i64 (k : Nat)]) ∧ Below w.heap.size w w' := by
  have := pack_any ps A c w hn hA hv
  rw [h] at this
  exact this
theorem split_len {vs : List Nat} {r : ByteArray} {k : Nat} (s : ByteArray) (zs : List Int) (n m : Nat) (A : Option Addr) (c : Nat) (w : World) (h : splitR s zs = (vs, r, k)) (hn : zs.length = n) (hm : vs.length = m) (hs : s.size ≤ maxLen) (hn2 : n ≤ 100000) (hA : Rd w w.heap.size A (ints zs)) :
    Calls Tryd.prog 30 #[.string s, .slice A n c] w fun e w' => ∃ A' c', e = .returned (.tuple #[.slice A' m c', .string r, .int .i64 (k : Nat)]) ∧ Rd w' w'.heap.size A' (nums .u64 vs) ∧ Below w.heap.size w w' := by
  subst hn hm
  exact split_at s zs A c w h hs hn2 hA
theorem size_app (a b : ByteArray) : (a ++ b).size = a.size + b.size := by simp
theorem list_app (a b : ByteArray) : (a ++ b).data.toList = a.data.toList ++ b.data.toList := by simp
theorem pack_len {b : List UInt8} {k : Nat} (ps : List (Int × Nat)) (n : Nat) (A : Option Addr) (c : Nat) (w : World) (h : packR ps = (b, k)) (hn : ps.length = n) (hn2 : n ≤ 100000) (hA : Rd w w.heap.size A (partCells ps)) (hv : ∀ p ∈ ps, p.2 < 18446744073709551616) :
    Calls Tryd.prog 23 #[.slice A n c] w fun e w' => e = .returned (.tuple #[.string ⟨b.toArray⟩, .int .i64 (k : Nat)]) ∧ Below w.heap.size w w' := by
  subst hn
  exact pack_at ps A c w h hn2 hA hv
theorem info_fpart : (Tryd.prog.info? 64).map (fun i => (i.zero, i.size, i.bytes)) = some (some (.agg #[.int .i64 0, .int .u64 0]), 2, 16) := by kernel_rfl

/-- behind an append onto an older row a box is as it was -/
theorem box_kept {wr w2 : World} {cs : Array Value} {t : TypeId} {o : Obj} {row : Option Nat} (hg : ((wr.alloc (.cells cs t)).alloc o).grownBy w2 row) (hr : ∀ g, row = some g → g < wr.heap.size) : Blk w2 wr.heap.size t cs ∧ wr.heap.size + 2 ≤ w2.heap.size := by
  refine ⟨((Blk.fresh wr t cs).alloc o).grown hg (fun e => ?_), ?_⟩
  · have := hr _ e.symm; omega
  · have := hg.size; simp at this; omega

end Go.Proofs.YtphndajaehofoaaDoor.Lw
