/-
  The statement FieldPacks: its walk.
-/
import Derived.Test.YtflofehnclaffaaRef2
namespace Go.Proofs.Ytflofehnclaffaa.Lw
open Go.RowKit Go.Proofs.Ytflofehnclaffaa.Bt Go.Proofs.Ytflofehnclaffaa.Mm Go.Proofs.Ytflofehnclaffaa.Fl Go.Proofs.Ytflofehnclaffaa.Rf

theorem awake_packs : packR [(3, 5), (1, 0), (12, 100)] = ([0xa0, 0x64], 0) := by decide +kernel
theorem Rd.of_cells {w : World} {g : Nat} {t : TypeId} {xs : List Value} (h : Blk w g t xs.toArray) : Rd w w.heap.size (some ⟨g, 0, none⟩) xs := by
  have := Rd.of_blk h xs.length
  simpa using this

/-- Pack of parts that the caller has written out -/
theorem pack_lit (ps : List (Int × Nat)) (cs : Array Value) (s : List UInt8) (n k c : Nat) (t : TypeId) (w : World) (hcs : cs.toList = partCells ps) (hn : ps.length = n) (hn2 : n ≤ 100000) (hv : ∀ p ∈ ps, p.2 < 18446744073709551616) (hr : packR ps = (s, k)) :
    Calls Try.prog 14 #[.slice (some ⟨w.heap.size, 0, none⟩) n c] (w.alloc (.cells cs t)) fun e w' => e = .returned (.tuple #[.string ⟨s.toArray⟩, .int .i64 (k : Nat)]) ∧ Below (w.heap.size + 1) (w.alloc (.cells cs t)) w' := by
  subst hn
  have hb := Blk.fresh w t cs
  have hA : Rd (w.alloc (.cells cs t)) (w.alloc (.cells cs t)).heap.size (some ⟨w.heap.size, 0, none⟩) (partCells ps) := by
    rw [← hcs]
    exact Rd.of_cells (xs := cs.toList) (by simpa using hb)
  have h := pack_any ps (some ⟨w.heap.size, 0, none⟩) c (w.alloc (.cells cs t)) hn2 hA hv
  rw [hr] at h
  simpa using h

set_option maxHeartbeats 400000 in
theorem awake1 (w : World) : Calls Try.prog 13 #[] w fun e w' => e = .returned (.bool true) ∧ Below w.heap.size w w' := by
  go_enter Try.func13, Try.ntmps13
  go_wp2_with fail
  refine (pack_lit [(3, 5), (1, 0), (12, 100)] _ _ _ _ _ _ w rfl rfl (by decide) (by intro p hp; simp at hp; rcases hp with rfl | rfl | rfl <;> omega) awake_packs).mono ?_
  rintro e w1 ⟨rfl, hb⟩
  have HB := Lib.hid (((Below.refl w.heap.size w).alloc (Nat.le_refl _) (.cells #[.int .i64 3, .int .u64 5, .int .i64 1, .int .u64 0, .int .i64 12, .int .u64 100] 43)).trans (hb.mono (by omega)))
  clear hb
  go_wp2
  go_ret
  exact ⟨rfl, HB.out⟩

def Law1 (w : World) (e : Ending) (w' : World) : Prop := e = .returned (.bool true) ∧ Below w.heap.size w w'

end Go.Proofs.Ytflofehnclaffaa.Lw
