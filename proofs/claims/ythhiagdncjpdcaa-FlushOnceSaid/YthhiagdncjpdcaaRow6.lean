/-
  Blocks of 6 cells: what a walk wants to know of them.
-/
import Derived.Test.YthhiagdncjpdcaaGen
namespace Go.Proofs.Ythhiagdncjpdcaa.Rw6
open Go.RowKit Go.Proofs.Ythhiagdncjpdcaa.Mm Go.Proofs.Ythhiagdncjpdcaa.Tg

theorem keep {w w' : World} {g : Nat} {x0 x1 x2 x3 x4 x5 : Value} (hb : Below w.heap.size w w') (h : g < w.heap.size ∧ w.cell? ⟨g, 0, none⟩ = some x0 ∧ w.cell? ⟨g, 1, none⟩ = some x1 ∧ w.cell? ⟨g, 2, none⟩ = some x2 ∧ w.cell? ⟨g, 3, none⟩ = some x3 ∧ w.cell? ⟨g, 4, none⟩ = some x4 ∧ w.cell? ⟨g, 5, none⟩ = some x5) : g < w'.heap.size ∧ w'.cell? ⟨g, 0, none⟩ = some x0 ∧ w'.cell? ⟨g, 1, none⟩ = some x1 ∧ w'.cell? ⟨g, 2, none⟩ = some x2 ∧ w'.cell? ⟨g, 3, none⟩ = some x3 ∧ w'.cell? ⟨g, 4, none⟩ = some x4 ∧ w'.cell? ⟨g, 5, none⟩ = some x5 := by
  obtain ⟨hg, h0, h1, h2, h3, h4, h5⟩ := h
  exact ⟨Nat.lt_of_lt_of_le hg hb.size, cell_be h0 hb hg, cell_be h1 hb hg, cell_be h2 hb hg, cell_be h3 hb hg, cell_be h4 hb hg, cell_be h5 hb hg⟩
theorem fresh (w : World) (t : TypeId) (x0 x1 x2 x3 x4 x5 : Value) : w.heap.size < (w.alloc (.cells #[x0, x1, x2, x3, x4, x5] t)).heap.size ∧ (w.alloc (.cells #[x0, x1, x2, x3, x4, x5] t)).cell? ⟨w.heap.size, 0, none⟩ = some x0 ∧ (w.alloc (.cells #[x0, x1, x2, x3, x4, x5] t)).cell? ⟨w.heap.size, 1, none⟩ = some x1 ∧ (w.alloc (.cells #[x0, x1, x2, x3, x4, x5] t)).cell? ⟨w.heap.size, 2, none⟩ = some x2 ∧ (w.alloc (.cells #[x0, x1, x2, x3, x4, x5] t)).cell? ⟨w.heap.size, 3, none⟩ = some x3 ∧ (w.alloc (.cells #[x0, x1, x2, x3, x4, x5] t)).cell? ⟨w.heap.size, 4, none⟩ = some x4 ∧ (w.alloc (.cells #[x0, x1, x2, x3, x4, x5] t)).cell? ⟨w.heap.size, 5, none⟩ = some x5 := by
  have h := Blk.fresh w t #[x0, x1, x2, x3, x4, x5]
  exact ⟨h.lt, h.cell 0, h.cell 1, h.cell 2, h.cell 3, h.cell 4, h.cell 5⟩
/-- 6 cells written, one after the other -/
abbrev set (w : World) (g : Nat) (x0 x1 x2 x3 x4 x5 : Value) : World := ((((((w.setCell ⟨g, 0, none⟩ x0).setCell ⟨g, 1, none⟩ x1).setCell ⟨g, 2, none⟩ x2).setCell ⟨g, 3, none⟩ x3).setCell ⟨g, 4, none⟩ x4).setCell ⟨g, 5, none⟩ x5)
theorem blk_set {w : World} {g : Nat} {t : TypeId} {y0 y1 y2 y3 y4 y5 : Value} (h : Blk w g t #[y0, y1, y2, y3, y4, y5]) (x0 x1 x2 x3 x4 x5 : Value) : Blk (set w g x0 x1 x2 x3 x4 x5) g t #[x0, x1, x2, x3, x4, x5] := by
  have h0 : Blk _ g t #[x0, y1, y2, y3, y4, y5] := h.put 0 x0
  have h1 : Blk _ g t #[x0, x1, y2, y3, y4, y5] := h0.put 1 x1
  have h2 : Blk _ g t #[x0, x1, x2, y3, y4, y5] := h1.put 2 x2
  have h3 : Blk _ g t #[x0, x1, x2, x3, y4, y5] := h2.put 3 x3
  have h4 : Blk _ g t #[x0, x1, x2, x3, x4, y5] := h3.put 4 x4
  exact h4.put 5 x5
theorem below_set {a w : World} {B g : Nat} (h : Below B a w) (hg : B ≤ g) (x0 x1 x2 x3 x4 x5 : Value) : Below B a (set w g x0 x1 x2 x3 x4 x5) := ((((((h.setCell (p := ⟨g, 0, none⟩) hg x0).setCell (p := ⟨g, 1, none⟩) hg x1).setCell (p := ⟨g, 2, none⟩) hg x2).setCell (p := ⟨g, 3, none⟩) hg x3).setCell (p := ⟨g, 4, none⟩) hg x4).setCell (p := ⟨g, 5, none⟩) hg x5)
theorem far {w : World} {g k : Nat} {t : TypeId} {cs : Array Value} (h : Blk w k t cs) (hne : k ≠ g) (x0 x1 x2 x3 x4 x5 : Value) : Blk (set w g x0 x1 x2 x3 x4 x5) k t cs := ((((((h.far (p := ⟨g, 0, none⟩) hne x0).far (p := ⟨g, 1, none⟩) hne x1).far (p := ⟨g, 2, none⟩) hne x2).far (p := ⟨g, 3, none⟩) hne x3).far (p := ⟨g, 4, none⟩) hne x4).far (p := ⟨g, 5, none⟩) hne x5)
structure Row (w : World) (g : Nat) (x0 x1 x2 x3 x4 x5 : Value) : Prop where
  c0 : w.cell? ⟨g, 0, none⟩ = some x0
  c1 : w.cell? ⟨g, 1, none⟩ = some x1
  c2 : w.cell? ⟨g, 2, none⟩ = some x2
  c3 : w.cell? ⟨g, 3, none⟩ = some x3
  c4 : w.cell? ⟨g, 4, none⟩ = some x4
  c5 : w.cell? ⟨g, 5, none⟩ = some x5
  z0 : w.frozen? ⟨g, 0, none⟩ = false
  z1 : w.frozen? ⟨g, 1, none⟩ = false
  z2 : w.frozen? ⟨g, 2, none⟩ = false
  z3 : w.frozen? ⟨g, 3, none⟩ = false
  z4 : w.frozen? ⟨g, 4, none⟩ = false
  z5 : w.frozen? ⟨g, 5, none⟩ = false
theorem row {w : World} {g : Nat} {t : TypeId} {x0 x1 x2 x3 x4 x5 : Value} (h : Blk w g t #[x0, x1, x2, x3, x4, x5]) : Row w g x0 x1 x2 x3 x4 x5 := ⟨h.cell 0, h.cell 1, h.cell 2, h.cell 3, h.cell 4, h.cell 5, h.frozen 0, h.frozen 1, h.frozen 2, h.frozen 3, h.frozen 4, h.frozen 5⟩
theorem arr {cs : Array Value} {x0 x1 x2 x3 x4 x5 : Value} (hs : cs.size = 6) (h0 : cs[0]? = some x0) (h1 : cs[1]? = some x1) (h2 : cs[2]? = some x2) (h3 : cs[3]? = some x3) (h4 : cs[4]? = some x4) (h5 : cs[5]? = some x5) : cs = #[x0, x1, x2, x3, x4, x5] := by
  obtain ⟨l⟩ := cs
  match l, hs with
  | [c0, c1, c2, c3, c4, c5], _ =>
    simp at h0 h1 h2 h3 h4 h5
    subst h0 h1 h2 h3 h4 h5
    rfl
end Go.Proofs.Ythhiagdncjpdcaa.Rw6
