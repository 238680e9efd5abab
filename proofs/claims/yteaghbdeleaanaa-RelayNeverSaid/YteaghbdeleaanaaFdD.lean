/-
  Tables, the document's: Learn.
-/
import Derived.Test.YteaghbdeleaanaaFdC
import Derived.Deep.CutBlock
namespace Go.Proofs.Yteaghbdeleaanaa.Fd
open Go.RowKit Go.Proofs.Yteaghbdeleaanaa.Mm Go.Proofs.Yteaghbdeleaanaa.Tg
/-- a row's cells, at a place -/
def At4 (w : World) (q : Addr) (v a p s : Int) : Prop := q.block < w.heap.size ∧ w.cell? q = some (.int .u16 v) ∧ w.cell? ⟨q.block, q.off + 1, none⟩ = some (.int .u64 a) ∧ w.cell? ⟨q.block, q.off + 2, none⟩ = some (.int .i64 p) ∧ w.cell? ⟨q.block, q.off + 3, none⟩ = some (.int .i64 s)
theorem At4.keep (q : Addr) (v a p s : Int) : Rg.Keeps (fun w => At4 w q v a p s) := fun _ _ h hb =>
  ⟨Nat.lt_of_lt_of_le h.1 hb.size, (hb.cell h.1).trans h.2.1, (hb.cell (p := ⟨q.block, q.off + 1, none⟩) h.1).trans h.2.2.1, (hb.cell (p := ⟨q.block, q.off + 2, none⟩) h.1).trans h.2.2.2.1, (hb.cell (p := ⟨q.block, q.off + 3, none⟩) h.1).trans h.2.2.2.2⟩
theorem rd_at {w : World} {A : Option Addr} {l : List Fr} (h : Rd w w.heap.size A (rowCs l)) {i : Nat} {v a : Nat} {p s : Int} (hi : l[i]? = some ⟨v, a, p, s⟩) : ∃ ad : Addr, A = some ad ∧ At4 w (ad.add (i * 4)) v a p s := by
  obtain ⟨ad, e, hb, c⟩ := rd_row h hi
  exact ⟨ad, e, by rw [block_add]; exact hb, c⟩
/-- how many rows stand ahead -/
def tw (l : List Fr) (x : Fr) : Nat := (l.takeWhile (fun y => decide (klt y x))).length
theorem tw_le (l : List Fr) (x : Fr) : tw l x ≤ l.length := by
  unfold tw
  exact (List.takeWhile_prefix _).length_le
theorem tw_take (l : List Fr) (x : Fr) : l.takeWhile (fun y => decide (klt y x)) = l.take (tw l x) := (List.prefix_iff_eq_take.1 (List.takeWhile_prefix _))
theorem tw_lt {l : List Fr} {x : Fr} {i : Nat} (h : i < tw l x) (hi : i < l.length) : klt l[i] x := by
  have h1 : l[i] ∈ l.takeWhile (fun y => decide (klt y x)) := by
    rw [tw_take, List.mem_take_iff_getElem]
    exact ⟨i, by omega, rfl⟩
  have := List.all_takeWhile (l := l) (p := fun y => decide (klt y x))
  rw [List.all_eq_true] at this
  simpa using this _ h1
theorem tw_end {l : List Fr} {x : Fr} (hi : tw l x < l.length) : ¬ klt l[tw l x] x := by
  unfold tw at hi ⊢
  induction l with
  | nil => simp at hi
  | cons y l ih =>
    by_cases h : klt y x
    · simp only [List.takeWhile_cons, h, decide_true, if_true, List.length_cons] at hi ⊢
      simpa using ih (by omega)
    · simp [h]

end Go.Proofs.Yteaghbdeleaanaa.Fd
