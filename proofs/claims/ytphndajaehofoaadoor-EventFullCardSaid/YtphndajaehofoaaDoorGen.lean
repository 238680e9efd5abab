/-
  Plain and common: cells below calls, Pack and Split of what lies in a block, two results of which one is a cell, numbers of joined bits.
  Blocks of 2 cells: what a walk wants to know of them.
  Blocks of 3 cells: what a walk wants to know of them.
  Blocks of 5 cells: what a walk wants to know of them.
-/
import Derived.Test.YtphndajaehofoaaDoorLawF
import Derived.Laws.ResultCell
namespace Go.Proofs.YtphndajaehofoaaDoor.Tg
open Go.RowKit Go.Proofs.YtphndajaehofoaaDoor.Bt Go.Proofs.YtphndajaehofoaaDoor.Mm Go.Proofs.YtphndajaehofoaaDoor.Fl Go.Proofs.YtphndajaehofoaaDoor.Rf Go.Proofs.YtphndajaehofoaaDoor.Lw

theorem cell_al {w : World} {g k : Nat} {o : Obj} {x : Value} (h : w.cell? ⟨g, k, none⟩ = some x) (hg : g < w.heap.size) : (w.alloc o).cell? ⟨g, k, none⟩ = some x :=
  (((Below.refl w.heap.size w).alloc (Nat.le_refl _) o).cell (p := ⟨g, k, none⟩) hg).trans h
theorem cell_be {w w' : World} {B g k : Nat} {x : Value} (h : w.cell? ⟨g, k, none⟩ = some x) (hb : Below B w w') (hg : g < B) : w'.cell? ⟨g, k, none⟩ = some x := (hb.cell (p := ⟨g, k, none⟩) hg).trans h
theorem cell_ab {w w' : World} {g k : Nat} {o : Obj} {x : Value} (h : w.cell? ⟨g, k, none⟩ = some x) (hb : Below (w.alloc o).drew.heap.size (w.alloc o).drew w') (hg : g < w.heap.size) : w'.cell? ⟨g, k, none⟩ = some x :=
  cell_be (w := (w.alloc o).drew) (cell_al h hg) hb (Nat.lt_of_lt_of_le hg ((Below.refl w.heap.size w).alloc (Nat.le_refl _) o).size)
theorem below_ab {w0 w w' : World} {B : Nat} {o : Obj} (h : Below B w0 w) (hB : B ≤ w.heap.size) (hb : Below (w.alloc o).drew.heap.size (w.alloc o).drew w') : Below B w0 w' :=
  ((h.alloc hB o).drew).trans (hb.mono (Nat.le_trans hB ((Below.refl w.heap.size w).alloc (Nat.le_refl _) o).size))
/-- Pack of parts that lie in a block -/
theorem pack_blk (ps : List (Int × Nat)) (cs : Array Value) (s : List UInt8) (n k c g : Nat) (t : TypeId) (w : World) (hb : Blk w g t cs) (hcs : cs.toList = partCells ps) (hn : ps.length = n) (hn2 : n ≤ 100000) (hv : ∀ p ∈ ps, p.2 < 18446744073709551616) (hr : packR ps = (s, k)) :
    Calls Tryd.prog 23 #[.slice (some ⟨g, 0, none⟩) n c] w fun e w' => e = .returned (.tuple #[.string ⟨s.toArray⟩, .int .i64 (k : Nat)]) ∧ Below w.heap.size w w' := by
  subst hn
  have hA : Rd w w.heap.size (some ⟨g, 0, none⟩) (partCells ps) := by
    have := Rd.of_blk hb cs.toList.length
    rw [List.take_length, hcs] at this
    exact this
  have h := pack_any ps (some ⟨g, 0, none⟩) c w hn2 hA hv
  rw [hr] at h
  exact h
theorem split_blk {vs : List Nat} {r : ByteArray} {k : Nat} (s : ByteArray) (zs : List Int) (cs : Array Value) (n m c g : Nat) (t : TypeId) (w : World) (hb : Blk w g t cs) (hcs : cs.toList = ints zs) (h : splitR s zs = (vs, r, k)) (hn : zs.length = n) (hm : vs.length = m) (hs : s.size ≤ maxLen) (hn2 : n ≤ 100000) :
    Calls Tryd.prog 30 #[.string s, .slice (some ⟨g, 0, none⟩) n c] w fun e w' => ∃ (A' : Option Addr) (c' : Nat), e = .returned (.tuple #[.slice A' m c', .string r, .int .i64 (k : Nat)]) ∧ Rd w' w'.heap.size A' (nums .u64 vs) ∧ Below w.heap.size w w' := by
  have hA : Rd w w.heap.size (some ⟨g, 0, none⟩) (ints zs) := by
    have := Rd.of_blk hb cs.toList.length
    rw [List.take_length, hcs] at this
    exact this
  exact split_len s zs n m _ c w h hn hm hs hn2 hA
theorem results_row2 {P : Program} {fn : Func} {p u : Tmp} {ty : TypeId} (h : fn.results = #[.cell p ty, .tmp u]) (tmps : Array Value) (w : World) (g : Nat) (t : TypeId) (cs : Array Value) (fr : Nat × Nat) (d : TypeDesc)
    (hp : tmps.getD p undef = .pointer (some ⟨g, 0, none⟩)) (hg : w.heap[g]? = some (.cells cs t fr))
    (hu : P.underlying ty = some d) (hd : (match d with | .struct _ | .array _ _ => true | _ => false) = true) (hi : (P.info? ty).map (·.size) = some cs.size) :
    (results fn tmps).run P w = .ok (.tuple #[.agg cs, tmps.getD u undef]) w := by
  rw [results_cell_tmp h, hp]
  simp [asAddr, run_loadVar_row w g t ty cs fr d hg hu hd hi, Result.andThen]
theorem fresh_second (w : World) (o : Obj) (t : TypeId) (cs : Array Value) : Blk ((w.alloc o).alloc (.cells cs t)) (w.heap.size + 1) t cs := heap_alloc2_new w o (.cells cs t)
theorem val_from (a : Nat) (r : List Nat) : r.foldl (fun a b => 2 * a + b) a = a * 2 ^ r.length + val r := by
  induction r generalizing a with
  | nil => simp [val]
  | cons b r ih =>
    have h2 := ih (2 * 0 + b)
    unfold val at h2 ⊢
    rw [List.foldl_cons, ih, List.foldl_cons, h2, List.length_cons, Nat.pow_succ]
    unfold val
    generalize 2 ^ r.length = x
    generalize List.foldl (fun a b => 2 * a + b) 0 r = y
    simp only [Nat.mul_zero, Nat.zero_add, Nat.add_mul]
    rw [show a * (x * 2) = 2 * a * x by rw [Nat.mul_comm x 2, ← Nat.mul_assoc, Nat.mul_comm a 2]]
    omega
theorem val_append (l r : List Nat) : val (l ++ r) = val l * 2 ^ r.length + val r := by
  have := val_from (val l) r
  unfold val at this ⊢
  rw [List.foldl_append, this]
/-- a number of k + m bits is two numbers -/
theorem getB_join (s : ByteArray) (a k m : Nat) (h : a + k + m ≤ 8 * s.size) : getB s a (k + m) = getB s a k * 2 ^ m + getB s (a + k) m := by
  unfold getB
  have hl : (((bitsB s.data.toList).drop (a + k)).take m).length = m := by rw [List.length_take, List.length_drop, length_bitsB, size_list]; omega
  have e : ((bitsB s.data.toList).drop a).take (k + m) = ((bitsB s.data.toList).drop a).take k ++ ((bitsB s.data.toList).drop (a + k)).take m := by
    rw [List.take_add, List.drop_drop]
  rw [e, val_append, hl]
end Go.Proofs.YtphndajaehofoaaDoor.Tg
namespace Go.Proofs.YtphndajaehofoaaDoor.Rw2
open Go.RowKit Go.Proofs.YtphndajaehofoaaDoor.Mm Go.Proofs.YtphndajaehofoaaDoor.Tg

theorem keep {w w' : World} {g : Nat} {x0 x1 : Value} (hb : Below w.heap.size w w') (h : g < w.heap.size ∧ w.cell? ⟨g, 0, none⟩ = some x0 ∧ w.cell? ⟨g, 1, none⟩ = some x1) : g < w'.heap.size ∧ w'.cell? ⟨g, 0, none⟩ = some x0 ∧ w'.cell? ⟨g, 1, none⟩ = some x1 := by
  obtain ⟨hg, h0, h1⟩ := h
  exact ⟨Nat.lt_of_lt_of_le hg hb.size, cell_be h0 hb hg, cell_be h1 hb hg⟩
theorem fresh (w : World) (t : TypeId) (x0 x1 : Value) : w.heap.size < (w.alloc (.cells #[x0, x1] t)).heap.size ∧ (w.alloc (.cells #[x0, x1] t)).cell? ⟨w.heap.size, 0, none⟩ = some x0 ∧ (w.alloc (.cells #[x0, x1] t)).cell? ⟨w.heap.size, 1, none⟩ = some x1 := by
  have h := Blk.fresh w t #[x0, x1]
  exact ⟨h.lt, h.cell 0, h.cell 1⟩
/-- 2 cells written, one after the other -/
abbrev set (w : World) (g : Nat) (x0 x1 : Value) : World := ((w.setCell ⟨g, 0, none⟩ x0).setCell ⟨g, 1, none⟩ x1)
theorem blk_set {w : World} {g : Nat} {t : TypeId} {y0 y1 : Value} (h : Blk w g t #[y0, y1]) (x0 x1 : Value) : Blk (set w g x0 x1) g t #[x0, x1] := by
  have h0 : Blk _ g t #[x0, y1] := h.put 0 x0
  exact h0.put 1 x1
theorem below_set {a w : World} {B g : Nat} (h : Below B a w) (hg : B ≤ g) (x0 x1 : Value) : Below B a (set w g x0 x1) := ((h.setCell (p := ⟨g, 0, none⟩) hg x0).setCell (p := ⟨g, 1, none⟩) hg x1)
theorem far {w : World} {g k : Nat} {t : TypeId} {cs : Array Value} (h : Blk w k t cs) (hne : k ≠ g) (x0 x1 : Value) : Blk (set w g x0 x1) k t cs := ((h.far (p := ⟨g, 0, none⟩) hne x0).far (p := ⟨g, 1, none⟩) hne x1)
structure Row (w : World) (g : Nat) (x0 x1 : Value) : Prop where
  c0 : w.cell? ⟨g, 0, none⟩ = some x0
  c1 : w.cell? ⟨g, 1, none⟩ = some x1
  z0 : w.frozen? ⟨g, 0, none⟩ = false
  z1 : w.frozen? ⟨g, 1, none⟩ = false
theorem row {w : World} {g : Nat} {t : TypeId} {x0 x1 : Value} (h : Blk w g t #[x0, x1]) : Row w g x0 x1 := ⟨h.cell 0, h.cell 1, h.frozen 0, h.frozen 1⟩
theorem arr {cs : Array Value} {x0 x1 : Value} (hs : cs.size = 2) (h0 : cs[0]? = some x0) (h1 : cs[1]? = some x1) : cs = #[x0, x1] := by
  obtain ⟨l⟩ := cs
  match l, hs with
  | [c0, c1], _ =>
    simp at h0 h1
    subst h0 h1
    rfl
end Go.Proofs.YtphndajaehofoaaDoor.Rw2
namespace Go.Proofs.YtphndajaehofoaaDoor.Rw3
open Go.RowKit Go.Proofs.YtphndajaehofoaaDoor.Mm Go.Proofs.YtphndajaehofoaaDoor.Tg

theorem keep {w w' : World} {g : Nat} {x0 x1 x2 : Value} (hb : Below w.heap.size w w') (h : g < w.heap.size ∧ w.cell? ⟨g, 0, none⟩ = some x0 ∧ w.cell? ⟨g, 1, none⟩ = some x1 ∧ w.cell? ⟨g, 2, none⟩ = some x2) : g < w'.heap.size ∧ w'.cell? ⟨g, 0, none⟩ = some x0 ∧ w'.cell? ⟨g, 1, none⟩ = some x1 ∧ w'.cell? ⟨g, 2, none⟩ = some x2 := by
  obtain ⟨hg, h0, h1, h2⟩ := h
  exact ⟨Nat.lt_of_lt_of_le hg hb.size, cell_be h0 hb hg, cell_be h1 hb hg, cell_be h2 hb hg⟩
theorem fresh (w : World) (t : TypeId) (x0 x1 x2 : Value) : w.heap.size < (w.alloc (.cells #[x0, x1, x2] t)).heap.size ∧ (w.alloc (.cells #[x0, x1, x2] t)).cell? ⟨w.heap.size, 0, none⟩ = some x0 ∧ (w.alloc (.cells #[x0, x1, x2] t)).cell? ⟨w.heap.size, 1, none⟩ = some x1 ∧ (w.alloc (.cells #[x0, x1, x2] t)).cell? ⟨w.heap.size, 2, none⟩ = some x2 := by
  have h := Blk.fresh w t #[x0, x1, x2]
  exact ⟨h.lt, h.cell 0, h.cell 1, h.cell 2⟩
/-- 3 cells written, one after the other -/
abbrev set (w : World) (g : Nat) (x0 x1 x2 : Value) : World := (((w.setCell ⟨g, 0, none⟩ x0).setCell ⟨g, 1, none⟩ x1).setCell ⟨g, 2, none⟩ x2)
theorem blk_set {w : World} {g : Nat} {t : TypeId} {y0 y1 y2 : Value} (h : Blk w g t #[y0, y1, y2]) (x0 x1 x2 : Value) : Blk (set w g x0 x1 x2) g t #[x0, x1, x2] := by
  have h0 : Blk _ g t #[x0, y1, y2] := h.put 0 x0
  have h1 : Blk _ g t #[x0, x1, y2] := h0.put 1 x1
  exact h1.put 2 x2
theorem below_set {a w : World} {B g : Nat} (h : Below B a w) (hg : B ≤ g) (x0 x1 x2 : Value) : Below B a (set w g x0 x1 x2) := (((h.setCell (p := ⟨g, 0, none⟩) hg x0).setCell (p := ⟨g, 1, none⟩) hg x1).setCell (p := ⟨g, 2, none⟩) hg x2)
theorem far {w : World} {g k : Nat} {t : TypeId} {cs : Array Value} (h : Blk w k t cs) (hne : k ≠ g) (x0 x1 x2 : Value) : Blk (set w g x0 x1 x2) k t cs := (((h.far (p := ⟨g, 0, none⟩) hne x0).far (p := ⟨g, 1, none⟩) hne x1).far (p := ⟨g, 2, none⟩) hne x2)
structure Row (w : World) (g : Nat) (x0 x1 x2 : Value) : Prop where
  c0 : w.cell? ⟨g, 0, none⟩ = some x0
  c1 : w.cell? ⟨g, 1, none⟩ = some x1
  c2 : w.cell? ⟨g, 2, none⟩ = some x2
  z0 : w.frozen? ⟨g, 0, none⟩ = false
  z1 : w.frozen? ⟨g, 1, none⟩ = false
  z2 : w.frozen? ⟨g, 2, none⟩ = false
theorem row {w : World} {g : Nat} {t : TypeId} {x0 x1 x2 : Value} (h : Blk w g t #[x0, x1, x2]) : Row w g x0 x1 x2 := ⟨h.cell 0, h.cell 1, h.cell 2, h.frozen 0, h.frozen 1, h.frozen 2⟩
theorem arr {cs : Array Value} {x0 x1 x2 : Value} (hs : cs.size = 3) (h0 : cs[0]? = some x0) (h1 : cs[1]? = some x1) (h2 : cs[2]? = some x2) : cs = #[x0, x1, x2] := by
  obtain ⟨l⟩ := cs
  match l, hs with
  | [c0, c1, c2], _ =>
    simp at h0 h1 h2
    subst h0 h1 h2
    rfl
end Go.Proofs.YtphndajaehofoaaDoor.Rw3
namespace Go.Proofs.YtphndajaehofoaaDoor.Rw5
open Go.RowKit Go.Proofs.YtphndajaehofoaaDoor.Mm Go.Proofs.YtphndajaehofoaaDoor.Tg

theorem keep {w w' : World} {g : Nat} {x0 x1 x2 x3 x4 : Value} (hb : Below w.heap.size w w') (h : g < w.heap.size ∧ w.cell? ⟨g, 0, none⟩ = some x0 ∧ w.cell? ⟨g, 1, none⟩ = some x1 ∧ w.cell? ⟨g, 2, none⟩ = some x2 ∧ w.cell? ⟨g, 3, none⟩ = some x3 ∧ w.cell? ⟨g, 4, none⟩ = some x4) : g < w'.heap.size ∧ w'.cell? ⟨g, 0, none⟩ = some x0 ∧ w'.cell? ⟨g, 1, none⟩ = some x1 ∧ w'.cell? ⟨g, 2, none⟩ = some x2 ∧ w'.cell? ⟨g, 3, none⟩ = some x3 ∧ w'.cell? ⟨g, 4, none⟩ = some x4 := by
  obtain ⟨hg, h0, h1, h2, h3, h4⟩ := h
  exact ⟨Nat.lt_of_lt_of_le hg hb.size, cell_be h0 hb hg, cell_be h1 hb hg, cell_be h2 hb hg, cell_be h3 hb hg, cell_be h4 hb hg⟩
theorem fresh (w : World) (t : TypeId) (x0 x1 x2 x3 x4 : Value) : w.heap.size < (w.alloc (.cells #[x0, x1, x2, x3, x4] t)).heap.size ∧ (w.alloc (.cells #[x0, x1, x2, x3, x4] t)).cell? ⟨w.heap.size, 0, none⟩ = some x0 ∧ (w.alloc (.cells #[x0, x1, x2, x3, x4] t)).cell? ⟨w.heap.size, 1, none⟩ = some x1 ∧ (w.alloc (.cells #[x0, x1, x2, x3, x4] t)).cell? ⟨w.heap.size, 2, none⟩ = some x2 ∧ (w.alloc (.cells #[x0, x1, x2, x3, x4] t)).cell? ⟨w.heap.size, 3, none⟩ = some x3 ∧ (w.alloc (.cells #[x0, x1, x2, x3, x4] t)).cell? ⟨w.heap.size, 4, none⟩ = some x4 := by
  have h := Blk.fresh w t #[x0, x1, x2, x3, x4]
  exact ⟨h.lt, h.cell 0, h.cell 1, h.cell 2, h.cell 3, h.cell 4⟩
/-- 5 cells written, one after the other -/
abbrev set (w : World) (g : Nat) (x0 x1 x2 x3 x4 : Value) : World := (((((w.setCell ⟨g, 0, none⟩ x0).setCell ⟨g, 1, none⟩ x1).setCell ⟨g, 2, none⟩ x2).setCell ⟨g, 3, none⟩ x3).setCell ⟨g, 4, none⟩ x4)
theorem blk_set {w : World} {g : Nat} {t : TypeId} {y0 y1 y2 y3 y4 : Value} (h : Blk w g t #[y0, y1, y2, y3, y4]) (x0 x1 x2 x3 x4 : Value) : Blk (set w g x0 x1 x2 x3 x4) g t #[x0, x1, x2, x3, x4] := by
  have h0 : Blk _ g t #[x0, y1, y2, y3, y4] := h.put 0 x0
  have h1 : Blk _ g t #[x0, x1, y2, y3, y4] := h0.put 1 x1
  have h2 : Blk _ g t #[x0, x1, x2, y3, y4] := h1.put 2 x2
  have h3 : Blk _ g t #[x0, x1, x2, x3, y4] := h2.put 3 x3
  exact h3.put 4 x4
theorem below_set {a w : World} {B g : Nat} (h : Below B a w) (hg : B ≤ g) (x0 x1 x2 x3 x4 : Value) : Below B a (set w g x0 x1 x2 x3 x4) := (((((h.setCell (p := ⟨g, 0, none⟩) hg x0).setCell (p := ⟨g, 1, none⟩) hg x1).setCell (p := ⟨g, 2, none⟩) hg x2).setCell (p := ⟨g, 3, none⟩) hg x3).setCell (p := ⟨g, 4, none⟩) hg x4)
theorem far {w : World} {g k : Nat} {t : TypeId} {cs : Array Value} (h : Blk w k t cs) (hne : k ≠ g) (x0 x1 x2 x3 x4 : Value) : Blk (set w g x0 x1 x2 x3 x4) k t cs := (((((h.far (p := ⟨g, 0, none⟩) hne x0).far (p := ⟨g, 1, none⟩) hne x1).far (p := ⟨g, 2, none⟩) hne x2).far (p := ⟨g, 3, none⟩) hne x3).far (p := ⟨g, 4, none⟩) hne x4)
structure Row (w : World) (g : Nat) (x0 x1 x2 x3 x4 : Value) : Prop where
  c0 : w.cell? ⟨g, 0, none⟩ = some x0
  c1 : w.cell? ⟨g, 1, none⟩ = some x1
  c2 : w.cell? ⟨g, 2, none⟩ = some x2
  c3 : w.cell? ⟨g, 3, none⟩ = some x3
  c4 : w.cell? ⟨g, 4, none⟩ = some x4
  z0 : w.frozen? ⟨g, 0, none⟩ = false
  z1 : w.frozen? ⟨g, 1, none⟩ = false
  z2 : w.frozen? ⟨g, 2, none⟩ = false
  z3 : w.frozen? ⟨g, 3, none⟩ = false
  z4 : w.frozen? ⟨g, 4, none⟩ = false
theorem row {w : World} {g : Nat} {t : TypeId} {x0 x1 x2 x3 x4 : Value} (h : Blk w g t #[x0, x1, x2, x3, x4]) : Row w g x0 x1 x2 x3 x4 := ⟨h.cell 0, h.cell 1, h.cell 2, h.cell 3, h.cell 4, h.frozen 0, h.frozen 1, h.frozen 2, h.frozen 3, h.frozen 4⟩
theorem arr {cs : Array Value} {x0 x1 x2 x3 x4 : Value} (hs : cs.size = 5) (h0 : cs[0]? = some x0) (h1 : cs[1]? = some x1) (h2 : cs[2]? = some x2) (h3 : cs[3]? = some x3) (h4 : cs[4]? = some x4) : cs = #[x0, x1, x2, x3, x4] := by
  obtain ⟨l⟩ := cs
  match l, hs with
  | [c0, c1, c2, c3, c4], _ =>
    simp at h0 h1 h2 h3 h4
    subst h0 h1 h2 h3 h4
    rfl
end Go.Proofs.YtphndajaehofoaaDoor.Rw5
