/-
  Plan: blocks of sixteen cells; whether a VLAN and ticks may be, what is wrong with a plan (the program's).
-/
import Derived.Test.YtoiggajjbjcabaaGen
namespace Go.Proofs.Ytoiggajjbjcabaa.Rw16
open Go.RowKit Go.Proofs.Ytoiggajjbjcabaa.Mm Go.Proofs.Ytoiggajjbjcabaa.Tg

theorem keep {w w' : World} {g : Nat} {x0 x1 x2 x3 x4 x5 x6 x7 x8 x9 x10 x11 x12 x13 x14 x15 : Value} (hb : Below w.heap.size w w') (h : g < w.heap.size ∧ w.cell? ⟨g, 0, none⟩ = some x0 ∧ w.cell? ⟨g, 1, none⟩ = some x1 ∧ w.cell? ⟨g, 2, none⟩ = some x2 ∧ w.cell? ⟨g, 3, none⟩ = some x3 ∧ w.cell? ⟨g, 4, none⟩ = some x4 ∧ w.cell? ⟨g, 5, none⟩ = some x5 ∧ w.cell? ⟨g, 6, none⟩ = some x6 ∧ w.cell? ⟨g, 7, none⟩ = some x7 ∧ w.cell? ⟨g, 8, none⟩ = some x8 ∧ w.cell? ⟨g, 9, none⟩ = some x9 ∧ w.cell? ⟨g, 10, none⟩ = some x10 ∧ w.cell? ⟨g, 11, none⟩ = some x11 ∧ w.cell? ⟨g, 12, none⟩ = some x12 ∧ w.cell? ⟨g, 13, none⟩ = some x13 ∧ w.cell? ⟨g, 14, none⟩ = some x14 ∧ w.cell? ⟨g, 15, none⟩ = some x15) : g < w'.heap.size ∧ w'.cell? ⟨g, 0, none⟩ = some x0 ∧ w'.cell? ⟨g, 1, none⟩ = some x1 ∧ w'.cell? ⟨g, 2, none⟩ = some x2 ∧ w'.cell? ⟨g, 3, none⟩ = some x3 ∧ w'.cell? ⟨g, 4, none⟩ = some x4 ∧ w'.cell? ⟨g, 5, none⟩ = some x5 ∧ w'.cell? ⟨g, 6, none⟩ = some x6 ∧ w'.cell? ⟨g, 7, none⟩ = some x7 ∧ w'.cell? ⟨g, 8, none⟩ = some x8 ∧ w'.cell? ⟨g, 9, none⟩ = some x9 ∧ w'.cell? ⟨g, 10, none⟩ = some x10 ∧ w'.cell? ⟨g, 11, none⟩ = some x11 ∧ w'.cell? ⟨g, 12, none⟩ = some x12 ∧ w'.cell? ⟨g, 13, none⟩ = some x13 ∧ w'.cell? ⟨g, 14, none⟩ = some x14 ∧ w'.cell? ⟨g, 15, none⟩ = some x15 := by
  obtain ⟨hg, h0, h1, h2, h3, h4, h5, h6, h7, h8, h9, h10, h11, h12, h13, h14, h15⟩ := h
  exact ⟨Nat.lt_of_lt_of_le hg hb.size, cell_be h0 hb hg, cell_be h1 hb hg, cell_be h2 hb hg, cell_be h3 hb hg, cell_be h4 hb hg, cell_be h5 hb hg, cell_be h6 hb hg, cell_be h7 hb hg, cell_be h8 hb hg, cell_be h9 hb hg, cell_be h10 hb hg, cell_be h11 hb hg, cell_be h12 hb hg, cell_be h13 hb hg, cell_be h14 hb hg, cell_be h15 hb hg⟩
theorem fresh (w : World) (t : TypeId) (x0 x1 x2 x3 x4 x5 x6 x7 x8 x9 x10 x11 x12 x13 x14 x15 : Value) : w.heap.size < (w.alloc (.cells #[x0, x1, x2, x3, x4, x5, x6, x7, x8, x9, x10, x11, x12, x13, x14, x15] t)).heap.size ∧ (w.alloc (.cells #[x0, x1, x2, x3, x4, x5, x6, x7, x8, x9, x10, x11, x12, x13, x14, x15] t)).cell? ⟨w.heap.size, 0, none⟩ = some x0 ∧ (w.alloc (.cells #[x0, x1, x2, x3, x4, x5, x6, x7, x8, x9, x10, x11, x12, x13, x14, x15] t)).cell? ⟨w.heap.size, 1, none⟩ = some x1 ∧ (w.alloc (.cells #[x0, x1, x2, x3, x4, x5, x6, x7, x8, x9, x10, x11, x12, x13, x14, x15] t)).cell? ⟨w.heap.size, 2, none⟩ = some x2 ∧ (w.alloc (.cells #[x0, x1, x2, x3, x4, x5, x6, x7, x8, x9, x10, x11, x12, x13, x14, x15] t)).cell? ⟨w.heap.size, 3, none⟩ = some x3 ∧ (w.alloc (.cells #[x0, x1, x2, x3, x4, x5, x6, x7, x8, x9, x10, x11, x12, x13, x14, x15] t)).cell? ⟨w.heap.size, 4, none⟩ = some x4 ∧ (w.alloc (.cells #[x0, x1, x2, x3, x4, x5, x6, x7, x8, x9, x10, x11, x12, x13, x14, x15] t)).cell? ⟨w.heap.size, 5, none⟩ = some x5 ∧ (w.alloc (.cells #[x0, x1, x2, x3, x4, x5, x6, x7, x8, x9, x10, x11, x12, x13, x14, x15] t)).cell? ⟨w.heap.size, 6, none⟩ = some x6 ∧ (w.alloc (.cells #[x0, x1, x2, x3, x4, x5, x6, x7, x8, x9, x10, x11, x12, x13, x14, x15] t)).cell? ⟨w.heap.size, 7, none⟩ = some x7 ∧ (w.alloc (.cells #[x0, x1, x2, x3, x4, x5, x6, x7, x8, x9, x10, x11, x12, x13, x14, x15] t)).cell? ⟨w.heap.size, 8, none⟩ = some x8 ∧ (w.alloc (.cells #[x0, x1, x2, x3, x4, x5, x6, x7, x8, x9, x10, x11, x12, x13, x14, x15] t)).cell? ⟨w.heap.size, 9, none⟩ = some x9 ∧ (w.alloc (.cells #[x0, x1, x2, x3, x4, x5, x6, x7, x8, x9, x10, x11, x12, x13, x14, x15] t)).cell? ⟨w.heap.size, 10, none⟩ = some x10 ∧ (w.alloc (.cells #[x0, x1, x2, x3, x4, x5, x6, x7, x8, x9, x10, x11, x12, x13, x14, x15] t)).cell? ⟨w.heap.size, 11, none⟩ = some x11 ∧ (w.alloc (.cells #[x0, x1, x2, x3, x4, x5, x6, x7, x8, x9, x10, x11, x12, x13, x14, x15] t)).cell? ⟨w.heap.size, 12, none⟩ = some x12 ∧ (w.alloc (.cells #[x0, x1, x2, x3, x4, x5, x6, x7, x8, x9, x10, x11, x12, x13, x14, x15] t)).cell? ⟨w.heap.size, 13, none⟩ = some x13 ∧ (w.alloc (.cells #[x0, x1, x2, x3, x4, x5, x6, x7, x8, x9, x10, x11, x12, x13, x14, x15] t)).cell? ⟨w.heap.size, 14, none⟩ = some x14 ∧ (w.alloc (.cells #[x0, x1, x2, x3, x4, x5, x6, x7, x8, x9, x10, x11, x12, x13, x14, x15] t)).cell? ⟨w.heap.size, 15, none⟩ = some x15 := by
  have h := Blk.fresh w t #[x0, x1, x2, x3, x4, x5, x6, x7, x8, x9, x10, x11, x12, x13, x14, x15]
  exact ⟨h.lt, h.cell 0, h.cell 1, h.cell 2, h.cell 3, h.cell 4, h.cell 5, h.cell 6, h.cell 7, h.cell 8, h.cell 9, h.cell 10, h.cell 11, h.cell 12, h.cell 13, h.cell 14, h.cell 15⟩
/-- 16 cells written, one after the other -/
abbrev set (w : World) (g : Nat) (x0 x1 x2 x3 x4 x5 x6 x7 x8 x9 x10 x11 x12 x13 x14 x15 : Value) : World := ((((((((((((((((w.setCell ⟨g, 0, none⟩ x0).setCell ⟨g, 1, none⟩ x1).setCell ⟨g, 2, none⟩ x2).setCell ⟨g, 3, none⟩ x3).setCell ⟨g, 4, none⟩ x4).setCell ⟨g, 5, none⟩ x5).setCell ⟨g, 6, none⟩ x6).setCell ⟨g, 7, none⟩ x7).setCell ⟨g, 8, none⟩ x8).setCell ⟨g, 9, none⟩ x9).setCell ⟨g, 10, none⟩ x10).setCell ⟨g, 11, none⟩ x11).setCell ⟨g, 12, none⟩ x12).setCell ⟨g, 13, none⟩ x13).setCell ⟨g, 14, none⟩ x14).setCell ⟨g, 15, none⟩ x15)
theorem blk_set {w : World} {g : Nat} {t : TypeId} {y0 y1 y2 y3 y4 y5 y6 y7 y8 y9 y10 y11 y12 y13 y14 y15 : Value} (h : Blk w g t #[y0, y1, y2, y3, y4, y5, y6, y7, y8, y9, y10, y11, y12, y13, y14, y15]) (x0 x1 x2 x3 x4 x5 x6 x7 x8 x9 x10 x11 x12 x13 x14 x15 : Value) : Blk (set w g x0 x1 x2 x3 x4 x5 x6 x7 x8 x9 x10 x11 x12 x13 x14 x15) g t #[x0, x1, x2, x3, x4, x5, x6, x7, x8, x9, x10, x11, x12, x13, x14, x15] := by
  have h0 : Blk _ g t #[x0, y1, y2, y3, y4, y5, y6, y7, y8, y9, y10, y11, y12, y13, y14, y15] := h.put 0 x0
  have h1 : Blk _ g t #[x0, x1, y2, y3, y4, y5, y6, y7, y8, y9, y10, y11, y12, y13, y14, y15] := h0.put 1 x1
  have h2 : Blk _ g t #[x0, x1, x2, y3, y4, y5, y6, y7, y8, y9, y10, y11, y12, y13, y14, y15] := h1.put 2 x2
  have h3 : Blk _ g t #[x0, x1, x2, x3, y4, y5, y6, y7, y8, y9, y10, y11, y12, y13, y14, y15] := h2.put 3 x3
  have h4 : Blk _ g t #[x0, x1, x2, x3, x4, y5, y6, y7, y8, y9, y10, y11, y12, y13, y14, y15] := h3.put 4 x4
  have h5 : Blk _ g t #[x0, x1, x2, x3, x4, x5, y6, y7, y8, y9, y10, y11, y12, y13, y14, y15] := h4.put 5 x5
  have h6 : Blk _ g t #[x0, x1, x2, x3, x4, x5, x6, y7, y8, y9, y10, y11, y12, y13, y14, y15] := h5.put 6 x6
  have h7 : Blk _ g t #[x0, x1, x2, x3, x4, x5, x6, x7, y8, y9, y10, y11, y12, y13, y14, y15] := h6.put 7 x7
  have h8 : Blk _ g t #[x0, x1, x2, x3, x4, x5, x6, x7, x8, y9, y10, y11, y12, y13, y14, y15] := h7.put 8 x8
  have h9 : Blk _ g t #[x0, x1, x2, x3, x4, x5, x6, x7, x8, x9, y10, y11, y12, y13, y14, y15] := h8.put 9 x9
  have h10 : Blk _ g t #[x0, x1, x2, x3, x4, x5, x6, x7, x8, x9, x10, y11, y12, y13, y14, y15] := h9.put 10 x10
  have h11 : Blk _ g t #[x0, x1, x2, x3, x4, x5, x6, x7, x8, x9, x10, x11, y12, y13, y14, y15] := h10.put 11 x11
  have h12 : Blk _ g t #[x0, x1, x2, x3, x4, x5, x6, x7, x8, x9, x10, x11, x12, y13, y14, y15] := h11.put 12 x12
  have h13 : Blk _ g t #[x0, x1, x2, x3, x4, x5, x6, x7, x8, x9, x10, x11, x12, x13, y14, y15] := h12.put 13 x13
  have h14 : Blk _ g t #[x0, x1, x2, x3, x4, x5, x6, x7, x8, x9, x10, x11, x12, x13, x14, y15] := h13.put 14 x14
  exact h14.put 15 x15
theorem below_set {a w : World} {B g : Nat} (h : Below B a w) (hg : B ≤ g) (x0 x1 x2 x3 x4 x5 x6 x7 x8 x9 x10 x11 x12 x13 x14 x15 : Value) : Below B a (set w g x0 x1 x2 x3 x4 x5 x6 x7 x8 x9 x10 x11 x12 x13 x14 x15) := ((((((((((((((((h.setCell (p := ⟨g, 0, none⟩) hg x0).setCell (p := ⟨g, 1, none⟩) hg x1).setCell (p := ⟨g, 2, none⟩) hg x2).setCell (p := ⟨g, 3, none⟩) hg x3).setCell (p := ⟨g, 4, none⟩) hg x4).setCell (p := ⟨g, 5, none⟩) hg x5).setCell (p := ⟨g, 6, none⟩) hg x6).setCell (p := ⟨g, 7, none⟩) hg x7).setCell (p := ⟨g, 8, none⟩) hg x8).setCell (p := ⟨g, 9, none⟩) hg x9).setCell (p := ⟨g, 10, none⟩) hg x10).setCell (p := ⟨g, 11, none⟩) hg x11).setCell (p := ⟨g, 12, none⟩) hg x12).setCell (p := ⟨g, 13, none⟩) hg x13).setCell (p := ⟨g, 14, none⟩) hg x14).setCell (p := ⟨g, 15, none⟩) hg x15)
theorem far {w : World} {g k : Nat} {t : TypeId} {cs : Array Value} (h : Blk w k t cs) (hne : k ≠ g) (x0 x1 x2 x3 x4 x5 x6 x7 x8 x9 x10 x11 x12 x13 x14 x15 : Value) : Blk (set w g x0 x1 x2 x3 x4 x5 x6 x7 x8 x9 x10 x11 x12 x13 x14 x15) k t cs := ((((((((((((((((h.far (p := ⟨g, 0, none⟩) hne x0).far (p := ⟨g, 1, none⟩) hne x1).far (p := ⟨g, 2, none⟩) hne x2).far (p := ⟨g, 3, none⟩) hne x3).far (p := ⟨g, 4, none⟩) hne x4).far (p := ⟨g, 5, none⟩) hne x5).far (p := ⟨g, 6, none⟩) hne x6).far (p := ⟨g, 7, none⟩) hne x7).far (p := ⟨g, 8, none⟩) hne x8).far (p := ⟨g, 9, none⟩) hne x9).far (p := ⟨g, 10, none⟩) hne x10).far (p := ⟨g, 11, none⟩) hne x11).far (p := ⟨g, 12, none⟩) hne x12).far (p := ⟨g, 13, none⟩) hne x13).far (p := ⟨g, 14, none⟩) hne x14).far (p := ⟨g, 15, none⟩) hne x15)
structure Row (w : World) (g : Nat) (x0 x1 x2 x3 x4 x5 x6 x7 x8 x9 x10 x11 x12 x13 x14 x15 : Value) : Prop where
  c0 : w.cell? ⟨g, 0, none⟩ = some x0
  c1 : w.cell? ⟨g, 1, none⟩ = some x1
  c2 : w.cell? ⟨g, 2, none⟩ = some x2
  c3 : w.cell? ⟨g, 3, none⟩ = some x3
  c4 : w.cell? ⟨g, 4, none⟩ = some x4
  c5 : w.cell? ⟨g, 5, none⟩ = some x5
  c6 : w.cell? ⟨g, 6, none⟩ = some x6
  c7 : w.cell? ⟨g, 7, none⟩ = some x7
  c8 : w.cell? ⟨g, 8, none⟩ = some x8
  c9 : w.cell? ⟨g, 9, none⟩ = some x9
  c10 : w.cell? ⟨g, 10, none⟩ = some x10
  c11 : w.cell? ⟨g, 11, none⟩ = some x11
  c12 : w.cell? ⟨g, 12, none⟩ = some x12
  c13 : w.cell? ⟨g, 13, none⟩ = some x13
  c14 : w.cell? ⟨g, 14, none⟩ = some x14
  c15 : w.cell? ⟨g, 15, none⟩ = some x15
  z0 : w.frozen? ⟨g, 0, none⟩ = false
  z1 : w.frozen? ⟨g, 1, none⟩ = false
  z2 : w.frozen? ⟨g, 2, none⟩ = false
  z3 : w.frozen? ⟨g, 3, none⟩ = false
  z4 : w.frozen? ⟨g, 4, none⟩ = false
  z5 : w.frozen? ⟨g, 5, none⟩ = false
  z6 : w.frozen? ⟨g, 6, none⟩ = false
  z7 : w.frozen? ⟨g, 7, none⟩ = false
  z8 : w.frozen? ⟨g, 8, none⟩ = false
  z9 : w.frozen? ⟨g, 9, none⟩ = false
  z10 : w.frozen? ⟨g, 10, none⟩ = false
  z11 : w.frozen? ⟨g, 11, none⟩ = false
  z12 : w.frozen? ⟨g, 12, none⟩ = false
  z13 : w.frozen? ⟨g, 13, none⟩ = false
  z14 : w.frozen? ⟨g, 14, none⟩ = false
  z15 : w.frozen? ⟨g, 15, none⟩ = false
theorem row {w : World} {g : Nat} {t : TypeId} {x0 x1 x2 x3 x4 x5 x6 x7 x8 x9 x10 x11 x12 x13 x14 x15 : Value} (h : Blk w g t #[x0, x1, x2, x3, x4, x5, x6, x7, x8, x9, x10, x11, x12, x13, x14, x15]) : Row w g x0 x1 x2 x3 x4 x5 x6 x7 x8 x9 x10 x11 x12 x13 x14 x15 := ⟨h.cell 0, h.cell 1, h.cell 2, h.cell 3, h.cell 4, h.cell 5, h.cell 6, h.cell 7, h.cell 8, h.cell 9, h.cell 10, h.cell 11, h.cell 12, h.cell 13, h.cell 14, h.cell 15, h.frozen 0, h.frozen 1, h.frozen 2, h.frozen 3, h.frozen 4, h.frozen 5, h.frozen 6, h.frozen 7, h.frozen 8, h.frozen 9, h.frozen 10, h.frozen 11, h.frozen 12, h.frozen 13, h.frozen 14, h.frozen 15⟩
theorem arr {cs : Array Value} {x0 x1 x2 x3 x4 x5 x6 x7 x8 x9 x10 x11 x12 x13 x14 x15 : Value} (hs : cs.size = 16) (h0 : cs[0]? = some x0) (h1 : cs[1]? = some x1) (h2 : cs[2]? = some x2) (h3 : cs[3]? = some x3) (h4 : cs[4]? = some x4) (h5 : cs[5]? = some x5) (h6 : cs[6]? = some x6) (h7 : cs[7]? = some x7) (h8 : cs[8]? = some x8) (h9 : cs[9]? = some x9) (h10 : cs[10]? = some x10) (h11 : cs[11]? = some x11) (h12 : cs[12]? = some x12) (h13 : cs[13]? = some x13) (h14 : cs[14]? = some x14) (h15 : cs[15]? = some x15) : cs = #[x0, x1, x2, x3, x4, x5, x6, x7, x8, x9, x10, x11, x12, x13, x14, x15] := by
  obtain ⟨l⟩ := cs
  match l, hs with
  | [c0, c1, c2, c3, c4, c5, c6, c7, c8, c9, c10, c11, c12, c13, c14, c15], _ =>
    simp at h0 h1 h2 h3 h4 h5 h6 h7 h8 h9 h10 h11 h12 h13 h14 h15
    subst h0 h1 h2 h3 h4 h5 h6 h7 h8 h9 h10 h11 h12 h13 h14 h15
    rfl
end Go.Proofs.Ytoiggajjbjcabaa.Rw16

namespace Go.Proofs.Ytoiggajjbjcabaa.Pn
open Go.RowKit Go.Proofs.Ytoiggajjbjcabaa.Mm Go.Proofs.Ytoiggajjbjcabaa.Tg
set_option linter.unusedVariables false

/-- a plan's numbers -/
structure Pl where
  no : Int
  ow : Int
  lv : Nat
  da : Nat
  ri : Nat
  iv : Int
  ho : Int
  gu : Int
  re : Int
  wa : Int
  ga : Int
  pe : Int
  ag : Int
  ro : Int
  qu : Int
  rv : Bool
abbrev plC (p : Pl) : Array Value := #[.int .i64 p.no, .int .i64 p.ow, .int .u8 (p.lv : Int), .int .u16 (p.da : Int), .int .u16 (p.ri : Int), .int .i64 p.iv, .int .i64 p.ho, .int .i64 p.gu, .int .i64 p.re, .int .i64 p.wa, .int .i64 p.ga, .int .i64 p.pe, .int .i64 p.ag, .int .i64 p.ro, .int .i64 p.qu, .bool p.rv]
abbrev plV (p : Pl) : Value := .agg (plC p)
/-- the cells alone -/
structure Cs (w : World) (g : Nat) (p : Pl) : Prop where
  c0 : w.cell? ⟨g, 0, none⟩ = some (.int .i64 p.no)
  c1 : w.cell? ⟨g, 1, none⟩ = some (.int .i64 p.ow)
  c2 : w.cell? ⟨g, 2, none⟩ = some (.int .u8 (p.lv : Int))
  c3 : w.cell? ⟨g, 3, none⟩ = some (.int .u16 (p.da : Int))
  c4 : w.cell? ⟨g, 4, none⟩ = some (.int .u16 (p.ri : Int))
  c5 : w.cell? ⟨g, 5, none⟩ = some (.int .i64 p.iv)
  c6 : w.cell? ⟨g, 6, none⟩ = some (.int .i64 p.ho)
  c7 : w.cell? ⟨g, 7, none⟩ = some (.int .i64 p.gu)
  c8 : w.cell? ⟨g, 8, none⟩ = some (.int .i64 p.re)
  c9 : w.cell? ⟨g, 9, none⟩ = some (.int .i64 p.wa)
  c10 : w.cell? ⟨g, 10, none⟩ = some (.int .i64 p.ga)
  c11 : w.cell? ⟨g, 11, none⟩ = some (.int .i64 p.pe)
  c12 : w.cell? ⟨g, 12, none⟩ = some (.int .i64 p.ag)
  c13 : w.cell? ⟨g, 13, none⟩ = some (.int .i64 p.ro)
  c14 : w.cell? ⟨g, 14, none⟩ = some (.int .i64 p.qu)
  c15 : w.cell? ⟨g, 15, none⟩ = some (.bool p.rv)
theorem cs {w : World} {g : Nat} {t : TypeId} {p : Pl} (h : Blk w g t (plC p)) : Cs w g p := ⟨h.cell 0, h.cell 1, h.cell 2, h.cell 3, h.cell 4, h.cell 5, h.cell 6, h.cell 7, h.cell 8, h.cell 9, h.cell 10, h.cell 11, h.cell 12, h.cell 13, h.cell 14, h.cell 15⟩
def tk (least n : Int) : Prop := least ≤ n ∧ n ≤ 1048576
instance (a b : Int) : Decidable (tk a b) := by unfold tk; exact inferInstance
def vl (n : Nat) : Prop := 1 ≤ n ∧ n ≤ 4094
instance (n : Nat) : Decidable (vl n) := by unfold vl; exact inferInstance
def okA (p : Pl) : Prop := 3 ≤ p.no ∧ p.no ≤ 16 ∧ 0 ≤ p.ow ∧ p.ow < p.no ∧ p.lv ≤ 7
def okB (p : Pl) : Prop := vl p.da ∧ vl p.ri ∧ p.da ≠ p.ri
def tks (p : Pl) : List Int := [p.iv, p.gu, p.re, p.wa, p.ga, p.pe, p.ag]
def allT (least : Int) (l : List Int) : Bool := l.all fun n => decide (tk least n)
def okD (p : Pl) : Prop := (1 ≤ p.ro ∧ p.ro ≤ 1024) ∧ 1 ≤ p.qu ∧ p.qu ≤ 256
instance (p : Pl) : Decidable (okA p) := by unfold okA; exact inferInstance
instance (p : Pl) : Decidable (okB p) := by unfold okB; exact inferInstance
instance (p : Pl) : Decidable (okD p) := by unfold okD; exact inferInstance
theorem eq_yes {a b : Nat} (h : a = b) : ((a : Int) == (b : Int)) = true := by subst h; simp
theorem eq_no {a b : Nat} (h : ¬ a = b) : ((a : Int) == (b : Int)) = false := by simpa using fun e => h (by omega)
/-- what is wrong with a plan -/
def chk (p : Pl) : Nat := if ¬ okA p then 4 else if ¬ okB p then 5 else if allT 1 (tks p) = false then 4 else if allT 0 [p.ho] = false then 4 else if ¬ okD p then 4 else 0
def ks (l : List Int) : List Value := l.map (Value.int .i64)

theorem vlan_yes (n : Nat) (w : World) (h : vl n) : Calls Try.prog 27 #[.int .u16 (n : Int)] w fun e w' => e = .returned (.bool true) ∧ w = w' := by
  unfold vl at h
  have d1 : decide (1 ≤ (n : Int)) = true := decide_eq_true (by omega)
  have d2 : decide ((n : Int) ≤ 4094) = true := decide_eq_true (by omega)
  clear h
  go_enter Try.func27, Try.ntmps27
  go_wp2
  go_ret
  exact ⟨rfl, rfl⟩
theorem vlan_no (n : Nat) (w : World) (h : ¬ vl n) : Calls Try.prog 27 #[.int .u16 (n : Int)] w fun e w' => e = .returned (.bool false) ∧ w = w' := by
  unfold vl at h
  by_cases h1 : 1 ≤ n
  · have d1 : decide (1 ≤ (n : Int)) = true := decide_eq_true (by omega)
    have d2 : decide ((n : Int) ≤ 4094) = false := decide_eq_false (by omega)
    clear h h1
    go_enter Try.func27, Try.ntmps27
    go_wp2
    go_ret
    exact ⟨rfl, rfl⟩
  · have d1 : decide (1 ≤ (n : Int)) = false := decide_eq_false (by omega)
    clear h h1
    go_enter Try.func27, Try.ntmps27
    go_wp2
    go_ret
    exact ⟨rfl, rfl⟩
theorem allT_succ (least : Int) (l : List Int) (k : Nat) (h : k < l.length) : allT least (l.take (k + 1)) = (allT least (l.take k) && decide (tk least l[k])) := by
  unfold allT
  rw [List.take_succ_eq_append_getElem h, List.all_append]
  simp
theorem allT_false {least : Int} {l : List Int} {k : Nat} (h : allT least (l.take k) = false) : allT least l = false := by
  unfold allT at *
  rw [← List.take_append_drop k l, List.all_append, h]; rfl
set_option maxRecDepth 100000 in
theorem ticks_any (least : Int) (zs : List Int) (A : Option Addr) (c : Nat) (w : World) (hm : zs.length ≤ 1000000) (hA : Rd w w.heap.size A (ks zs)) :
    Calls Try.prog 28 #[.int .i64 least, .slice A zs.length c] w fun e w' => e = .returned (.bool (allT least zs)) ∧ w' = w := by
  have HA := Lib.hid hA
  clear hA
  go_enter Try.func28, Try.ntmps28
  go_wp2_with fail
  go_loop [9] (fun i => ∃ k : Nat, k ≤ zs.length ∧ i = .int .i64 k ∧ allT least (zs.take k) = true) (fun i => zs.length - (intOf i).toNat)
  case atStart => exact ⟨0, Nat.zero_le _, rfl, rfl⟩
  case round =>
    obtain ⟨k, hk, rfl, hal⟩ := hrel
    by_cases hlt : k < zs.length
    · obtain ⟨ad, rfl, hbl, hcell⟩ := HA.out (by simp [ks]; omega)
      have c0 := hcell k (.int .i64 zs[k]) (by simp [ks, hlt])
      clear hcell
      have hs := allT_succ least zs k hlt
      rw [hal, Bool.true_and] at hs
      generalize zs[k] = z at c0 hs
      by_cases h1 : z < least
      · have d1 : decide (z < least) = true := decide_eq_true h1
        rw [decide_eq_false (by unfold tk; omega)] at hs
        have HS := Lib.hid hs
        clear hs h1 hal
        go_wp2
        go_ret
        exact ⟨by rw [allT_false HS.out]; rfl, rfl⟩
      · have d1 : decide (z < least) = false := decide_eq_false h1
        by_cases h2 : 1048576 < z
        · have d2 : decide (1048576 < z) = true := decide_eq_true h2
          rw [decide_eq_false (by unfold tk; omega)] at hs
          have HS := Lib.hid hs
          clear hs h1 h2 hal
          go_wp2
          go_ret
          exact ⟨by rw [allT_false HS.out]; rfl, rfl⟩
        · have d2 : decide (1048576 < z) = false := decide_eq_false h2
          rw [decide_eq_true (by unfold tk; omega)] at hs
          have HS := Lib.hid hs
          clear hs h1 h2 hal
          go_wp2
          go_round
          case rel => exact ⟨k + 1, by omega, by go_num, HS.out⟩
          case measure => simp [intOf]; omega
    · obtain rfl : k = zs.length := by omega
      rw [List.take_length] at hal
      have HS := Lib.hid hal
      clear hal
      go_wp2
      go_ret
      exact ⟨by rw [HS.out]; rfl, rfl⟩
theorem ticks_blk {least : Int} {b : Bool} (zs : List Int) (n c g : Nat) (t : TypeId) (cs : Array Value) (w : World) (hb : Blk w g t cs) (hcs : cs.toList = ks zs) (hn : zs.length = n) (hm : zs.length ≤ 1000000) (h : allT least zs = b) :
    Calls Try.prog 28 #[.int .i64 least, .slice (some ⟨g, 0, none⟩) n c] w fun e w' => e = .returned (.bool b) ∧ w = w' := by
  subst hn
  rw [← h]
  refine (ticks_any least zs _ c w hm ?_).mono fun e w' hh => ⟨hh.1, hh.2.symm⟩
  have := Rd.of_blk hb cs.toList.length
  rw [List.take_length, hcs] at this
  exact this

end Go.Proofs.Ytoiggajjbjcabaa.Pn
