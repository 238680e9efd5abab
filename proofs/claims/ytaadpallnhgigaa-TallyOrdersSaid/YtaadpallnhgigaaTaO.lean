/-
  A slice of acts, opened: three fields each (a counter, a number, whether all are reset).
-/
import Derived.Test.YtaadpallnhgigaaOpen
namespace Go.Proofs.Ytaadpallnhgigaa.Op
open Go.ChangeShapes Go.WideShapes Go.ChangeAt Go.RowKit Go.Deep
open Go.Proofs.Ytaadpallnhgigaa.Mm Go.Proofs.Ytaadpallnhgigaa.Fl

def actCells (l : List (Int × Nat × Bool)) : List Value := l.flatMap fun p => [.int .i64 p.1, .int .u64 (p.2.1 : Nat), .bool p.2.2]
theorem length_actCells (l : List (Int × Nat × Bool)) : (actCells l).length = 3 * l.length := by
  unfold actCells
  induction l with
  | nil => rfl
  | cons p l ih => rw [List.flatMap_cons, List.length_append, ih, List.length_cons]; simp; omega
theorem get_actCells : ∀ (l : List (Int × Nat × Bool)) (i : Nat) (h : i < l.length), (actCells l)[i * 3]? = some (.int .i64 l[i].1) ∧ (actCells l)[i * 3 + 1]? = some (.int .u64 (l[i].2.1 : Nat)) ∧ (actCells l)[i * 3 + 2]? = some (.bool l[i].2.2)
  | [], _, h => by simp at h
  | p :: l, 0, _ => by simp [actCells]
  | p :: l, i + 1, h => by
    have ih := get_actCells l i (by simpa using h)
    have e : actCells (p :: l) = [.int .i64 p.1, .int .u64 (p.2.1 : Nat), .bool p.2.2] ++ actCells l := rfl
    refine ⟨?_, ?_, ?_⟩
    · rw [e, List.getElem?_append_right (by simp; omega)]
      simp only [List.length_cons, List.length_nil, List.getElem_cons_succ]
      rw [show (i + 1) * 3 - (0 + 1 + 1 + 1) = i * 3 by omega]
      exact ih.1
    · rw [e, List.getElem?_append_right (by simp; omega)]
      simp only [List.length_cons, List.length_nil, List.getElem_cons_succ]
      rw [show (i + 1) * 3 + 1 - (0 + 1 + 1 + 1) = i * 3 + 1 by omega]
      exact ih.2.1
    · rw [e, List.getElem?_append_right (by simp; omega)]
      simp only [List.length_cons, List.length_nil, List.getElem_cons_succ]
      rw [show (i + 1) * 3 + 2 - (0 + 1 + 1 + 1) = i * 3 + 2 by omega]
      exact ih.2.2
section
variable {H : Type} {enc : TypeId × Value → H} {P : Program} {W : World}
theorem open_acts {t e ti tu tb : TypeId} {f0 f1 f2 : Field} {A : Option Addr} {len cap : Nat} {d : DataW H} {p : List MemPlace} (ht : P.underlying t = some (.slice e)) (he : P.underlying e = some (.struct #[f0, f1, f2]))
    (hone : oneCellFields P #[f0, f1, f2] = true) (hC : P.cellsOf e = 3) (e0 : f0.type = ti) (e1 : f1.type = tu) (e2 : f2.type = tb) (hi : P.underlying ti = some (.int .i64)) (hu : P.underlying tu = some (.int .u64)) (hbb : P.underlying tb = some .bool)
    (h : DataW.Trod enc P W 0 (fun _ => true) true t (.slice A len cap) d p) :
    ∃ ps : List (Int × Nat × Bool), ps.length = len ∧ ps.length ≤ maxLen ∧ Rd W W.heap.size A (actCells ps) ∧ ∀ q ∈ ps, q.2.1 < 18446744073709551616 := by
  obtain ⟨fuel, hf⟩ := h
  rcases open_slice ht hf with ⟨hcs, _⟩ | ⟨a, len', cap', m, n, D, Pl, hcs, _, hl, hm, hmm, _, hel⟩
  · simp [Value.cells] at hcs
    obtain ⟨rfl, rfl, rfl⟩ := hcs
    exact ⟨[], rfl, by simp [maxLen], Rd.none _ _ _, fun q hq => by cases hq⟩
  · simp [Value.cells] at hcs
    obtain ⟨rfl, rfl, rfl⟩ := hcs
    simp only [if_true] at hmm
    subst hmm
    obtain ⟨ps, hlen, hps⟩ := build_list len (fun i (q : Int × Nat × Bool) => W.cell? (a.add (i * 3)) = some (.int .i64 q.1) ∧ W.cell? (a.add (i * 3 + 1)) = some (.int .u64 (q.2.1 : Nat)) ∧ W.cell? (a.add (i * 3 + 2)) = some (.bool q.2.2) ∧ q.2.1 < 18446744073709551616) (fun i hi' => by
      obtain ⟨cs', hc, ht'⟩ := hel i (by omega)
      rw [hC] at hc
      obtain ⟨ys, n', _, _, _, hys, hfl⟩ := DataW.trod_struct he ht'
      obtain ⟨_, hcl2, hat⟩ := World.cells?_some hc
      obtain ⟨o0, k0⟩ := hone_of hone 0 f0 rfl
      obtain ⟨o1, k1⟩ := hone_of hone 1 f1 rfl
      obtain ⟨o2, k2⟩ := hone_of hone 2 f2 rfl
      match cs', hcl2 with
      | [x0, x1, x2], _ =>
        have g0 := hfl 0 f0 rfl
        have g1 := hfl 1 f1 rfl
        have g2 := hfl 2 f2 rfl
        rw [o0, k0] at g0
        rw [o1, k1] at g1
        rw [o2, k2] at g2
        simp at g0 g1 g2
        match ys, hys with
        | [y0, y1, y2], _ =>
          simp at g0 g1 g2
          rw [e0] at g0
          rw [e1] at g1
          rw [e2] at g2
          obtain ⟨n0, q0, _, _⟩ := DataW.trod_int hi g0
          obtain ⟨n1, q1, _, w1⟩ := DataW.trod_int hu g1
          obtain ⟨n2, q2, _⟩ := DataW.trod_bool hbb g2
          simp at q0 q1 q2
          subst q0 q1 q2
          have b1 : 0 ≤ n1 ∧ n1 ≤ 18446744073709551615 := by simpa [Lit.wf, IntKind.min, IntKind.max, IntKind.signed, IntKind.bits] using w1
          obtain ⟨v, rfl⟩ := Int.eq_ofNat_of_zero_le b1.1
          refine ⟨(n0, v, n2), ?_, ?_, ?_, by simp only; omega⟩
          · have := hat 0 (by omega)
            simpa [Addr.add] using this
          · have := hat 1 (by omega)
            rw [Mm.add_add] at this
            simpa using this
          · have := hat 2 (by omega)
            rw [Mm.add_add] at this
            simpa using this)
    refine ⟨ps, hlen, by omega, fun hn => ?_, fun q hq => ?_⟩
    · rw [length_actCells] at hn
      have hp0 := hps 0 (by omega)
      refine ⟨a, rfl, ?_, fun j u hu' => ?_⟩
      · have := lt_of_cell hp0.1
        rwa [Mm.block_add] at this
      · have hj : j < 3 * ps.length := by
          have := (List.getElem?_eq_some_iff.1 hu').1
          rwa [length_actCells] at this
        have hk : j / 3 < ps.length := by omega
        have hg := get_actCells ps (j / 3) hk
        have hp := hps (j / 3) hk
        have h3 : j % 3 = 0 ∨ j % 3 = 1 ∨ j % 3 = 2 := by omega
        rcases h3 with h0 | h0 | h0
        · have ej : j = j / 3 * 3 := by omega
          rw [ej] at hu' ⊢
          rw [hg.1] at hu'
          rw [← hu']; exact hp.1
        · have ej : j = j / 3 * 3 + 1 := by omega
          rw [ej] at hu' ⊢
          rw [hg.2.1] at hu'
          rw [← hu']; exact hp.2.1
        · have ej : j = j / 3 * 3 + 2 := by omega
          rw [ej] at hu' ⊢
          rw [hg.2.2] at hu'
          rw [← hu']; exact hp.2.2.1
    · obtain ⟨i, hi', rfl⟩ := List.getElem_of_mem hq
      exact (hps i hi').2.2.2
end
end Go.Proofs.Ytaadpallnhgigaa.Op
