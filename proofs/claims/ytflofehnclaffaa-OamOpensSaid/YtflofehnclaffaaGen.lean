/-
  Plain and common: cells below calls, Pack and Split of what lies in a block, two results of which one is a cell, numbers of joined bits.
-/
import Derived.Test.YtflofehnclaffaaLaw3
import Derived.Laws.ResultCell
namespace Go.Proofs.Ytflofehnclaffaa.Tg
open Go.RowKit Go.Proofs.Ytflofehnclaffaa.Bt Go.Proofs.Ytflofehnclaffaa.Mm Go.Proofs.Ytflofehnclaffaa.Fl Go.Proofs.Ytflofehnclaffaa.Rf Go.Proofs.Ytflofehnclaffaa.Lw

theorem cell_al {w : World} {g k : Nat} {o : Obj} {x : Value} (h : w.cell? ⟨g, k, none⟩ = some x) (hg : g < w.heap.size) : (w.alloc o).cell? ⟨g, k, none⟩ = some x :=
  (((Below.refl w.heap.size w).alloc (Nat.le_refl _) o).cell (p := ⟨g, k, none⟩) hg).trans h
theorem cell_be {w w' : World} {B g k : Nat} {x : Value} (h : w.cell? ⟨g, k, none⟩ = some x) (hb : Below B w w') (hg : g < B) : w'.cell? ⟨g, k, none⟩ = some x := (hb.cell (p := ⟨g, k, none⟩) hg).trans h
theorem cell_ab {w w' : World} {g k : Nat} {o : Obj} {x : Value} (h : w.cell? ⟨g, k, none⟩ = some x) (hb : Below (w.alloc o).drew.heap.size (w.alloc o).drew w') (hg : g < w.heap.size) : w'.cell? ⟨g, k, none⟩ = some x :=
  cell_be (w := (w.alloc o).drew) (cell_al h hg) hb (Nat.lt_of_lt_of_le hg ((Below.refl w.heap.size w).alloc (Nat.le_refl _) o).size)
theorem below_ab {w0 w w' : World} {B : Nat} {o : Obj} (h : Below B w0 w) (hB : B ≤ w.heap.size) (hb : Below (w.alloc o).drew.heap.size (w.alloc o).drew w') : Below B w0 w' :=
  ((h.alloc hB o).drew).trans (hb.mono (Nat.le_trans hB ((Below.refl w.heap.size w).alloc (Nat.le_refl _) o).size))
/-- Pack of parts that lie in a block -/
theorem pack_blk (ps : List (Int × Nat)) (cs : Array Value) (s : List UInt8) (n k c g : Nat) (t : TypeId) (w : World) (hb : Blk w g t cs) (hcs : cs.toList = partCells ps) (hn : ps.length = n) (hn2 : n ≤ 100000) (hv : ∀ p ∈ ps, p.2 < 18446744073709551616) (hr : packR ps = (s, k)) :
    Calls Try.prog 14 #[.slice (some ⟨g, 0, none⟩) n c] w fun e w' => e = .returned (.tuple #[.string ⟨s.toArray⟩, .int .i64 (k : Nat)]) ∧ Below w.heap.size w w' := by
  subst hn
  have hA : Rd w w.heap.size (some ⟨g, 0, none⟩) (partCells ps) := by
    have := Rd.of_blk hb cs.toList.length
    rw [List.take_length, hcs] at this
    exact this
  have h := pack_any ps (some ⟨g, 0, none⟩) c w hn2 hA hv
  rw [hr] at h
  exact h
theorem split_blk {vs : List Nat} {r : ByteArray} {k : Nat} (s : ByteArray) (zs : List Int) (cs : Array Value) (n m c g : Nat) (t : TypeId) (w : World) (hb : Blk w g t cs) (hcs : cs.toList = ints zs) (h : splitR s zs = (vs, r, k)) (hn : zs.length = n) (hm : vs.length = m) (hs : s.size ≤ maxLen) (hn2 : n ≤ 100000) :
    Calls Try.prog 15 #[.string s, .slice (some ⟨g, 0, none⟩) n c] w fun e w' => ∃ (A' : Option Addr) (c' : Nat), e = .returned (.tuple #[.slice A' m c', .string r, .int .i64 (k : Nat)]) ∧ Rd w' w'.heap.size A' (nums .u64 vs) ∧ Below w.heap.size w w' := by
  have hA : Rd w w.heap.size (some ⟨g, 0, none⟩) (ints zs) := by
    have := Rd.of_blk hb cs.toList.length
    rw [List.take_length, hcs] at this
    exact this
  exact split_len s zs n m _ c w h hn hm hs hn2 hA
theorem results_row2 {P : Program} {fn : Func} {p u : Tmp} {ty : TypeId} (h : fn.results = #[.cell p ty, .tmp u]) (tmps : Array Value) (w : World) (g : Nat) (t : TypeId) (cs : Array Value) (fr : Nat × Nat) (d : TypeDesc)
    (hp : tmps.getD p undef = .pointer (some ⟨g, 0, none⟩)) (hg : w.heap[g]? = some (.cells cs t fr))
    (hu : P.underlying ty = some d) (hd : (match d with | .struct _ | .array _ _ => true | _ => false) = true) (hi : (P.info? ty).map (·.size) = some cs.size) :
    (results fn tmps).run P w = .ok (.tuple #[.agg cs, tmps.getD u undef]) w := by
  rw [results_cell_tmp h, hp]
  simp [asAddr, run_loadVar_row w g t ty cs fr d hg hu hd hi, Result.andThen]
theorem fresh_second (w : World) (o : Obj) (t : TypeId) (cs : Array Value) : Blk ((w.alloc o).alloc (.cells cs t)) (w.heap.size + 1) t cs := heap_alloc2_new w o (.cells cs t)
theorem val_from (a : Nat) (r : List Nat) : r.foldl (fun a b => 2 * a + b) a = a * 2 ^ r.length + val r := by
  induction r generalizing a with
  | nil => simp [val]
  | cons b r ih =>
    have h2 := ih (2 * 0 + b)
    unfold val at h2 ⊢
    rw [List.foldl_cons, ih, List.foldl_cons, h2, List.length_cons, Nat.pow_succ]
    unfold val
    generalize 2 ^ r.length = x
    generalize List.foldl (fun a b => 2 * a + b) 0 r = y
    simp only [Nat.mul_zero, Nat.zero_add, Nat.add_mul]
    rw [show a * (x * 2) = 2 * a * x by rw [Nat.mul_comm x 2, ← Nat.mul_assoc, Nat.mul_comm a 2]]
    omega
theorem val_append (l r : List Nat) : val (l ++ r) = val l * 2 ^ r.length + val r := by
  have := val_from (val l) r
  unfold val at this ⊢
  rw [List.foldl_append, this]
/-- a number of k + m bits is two numbers -/
theorem getB_join (s : ByteArray) (a k m : Nat) (h : a + k + m ≤ 8 * s.size) : getB s a (k + m) = getB s a k * 2 ^ m + getB s (a + k) m := by
  unfold getB
  have hl : (((bitsB s.data.toList).drop (a + k)).take m).length = m := by rw [List.length_take, List.length_drop, length_bitsB, size_list]; omega
  have e : ((bitsB s.data.toList).drop a).take (k + m) = ((bitsB s.data.toList).drop a).take k ++ ((bitsB s.data.toList).drop (a + k)).take m := by
    rw [List.take_add, List.drop_drop]
  rw [e, val_append, hl]
end Go.Proofs.Ytflofehnclaffaa.Tg
