/-
  A slice of structs of 5 fields each, opened.
-/
import Derived.Test.YtphndajaehofoaaDoorOpen
namespace Go.Proofs.YtphndajaehofoaaDoor.Op
open Go.ChangeShapes Go.WideShapes Go.ChangeAt Go.RowKit Go.Deep
open Go.ChangeMaps (open_string shut_string)
open Go.Proofs.YtphndajaehofoaaDoor.Mm Go.Proofs.YtphndajaehofoaaDoor.Fl

def eventCells (l : List (Nat × Nat × Nat × Nat × ByteArray)) : List Value := l.flatMap fun p => [Value.int .u8 ((p.1 : Nat) : Int), Value.int .u8 ((p.2.1 : Nat) : Int), Value.int .u8 ((p.2.2.1 : Nat) : Int), Value.int .u8 ((p.2.2.2.1 : Nat) : Int), Value.string p.2.2.2.2]
theorem length_eventCells (l : List (Nat × Nat × Nat × Nat × ByteArray)) : (eventCells l).length = 5 * l.length := by
  unfold eventCells
  induction l with
  | nil => rfl
  | cons p l ih => rw [List.flatMap_cons, List.length_append, ih, List.length_cons]; simp; omega
theorem get_eventCells : ∀ (l : List (Nat × Nat × Nat × Nat × ByteArray)) (i : Nat) (h : i < l.length), (eventCells l)[i * 5]? = some (Value.int .u8 ((l[i].1 : Nat) : Int)) ∧ (eventCells l)[i * 5 + 1]? = some (Value.int .u8 ((l[i].2.1 : Nat) : Int)) ∧ (eventCells l)[i * 5 + 2]? = some (Value.int .u8 ((l[i].2.2.1 : Nat) : Int)) ∧ (eventCells l)[i * 5 + 3]? = some (Value.int .u8 ((l[i].2.2.2.1 : Nat) : Int)) ∧ (eventCells l)[i * 5 + 4]? = some (Value.string l[i].2.2.2.2)
  | [], _, h => by simp at h
  | p :: l, 0, _ => by simp [eventCells]
  | p :: l, i + 1, h => by
    have ih := get_eventCells l i (by simpa using h)
    have e : eventCells (p :: l) = [Value.int .u8 ((p.1 : Nat) : Int), Value.int .u8 ((p.2.1 : Nat) : Int), Value.int .u8 ((p.2.2.1 : Nat) : Int), Value.int .u8 ((p.2.2.2.1 : Nat) : Int), Value.string p.2.2.2.2] ++ eventCells l := rfl
    obtain ⟨ih0, ih1, ih2, ih3, ih4⟩ := ih
    refine ⟨?_, ?_, ?_, ?_, ?_⟩
    · rw [e, List.getElem?_append_right (by simp; omega)]
      simp only [List.length_cons, List.length_nil, List.getElem_cons_succ]
      rw [show (i + 1) * 5 - (0 + 1 + 1 + 1 + 1 + 1) = i * 5 by omega]
      exact ih0
    · rw [e, List.getElem?_append_right (by simp; omega)]
      simp only [List.length_cons, List.length_nil, List.getElem_cons_succ]
      rw [show (i + 1) * 5 + 1 - (0 + 1 + 1 + 1 + 1 + 1) = i * 5 + 1 by omega]
      exact ih1
    · rw [e, List.getElem?_append_right (by simp; omega)]
      simp only [List.length_cons, List.length_nil, List.getElem_cons_succ]
      rw [show (i + 1) * 5 + 2 - (0 + 1 + 1 + 1 + 1 + 1) = i * 5 + 2 by omega]
      exact ih2
    · rw [e, List.getElem?_append_right (by simp; omega)]
      simp only [List.length_cons, List.length_nil, List.getElem_cons_succ]
      rw [show (i + 1) * 5 + 3 - (0 + 1 + 1 + 1 + 1 + 1) = i * 5 + 3 by omega]
      exact ih3
    · rw [e, List.getElem?_append_right (by simp; omega)]
      simp only [List.length_cons, List.length_nil, List.getElem_cons_succ]
      rw [show (i + 1) * 5 + 4 - (0 + 1 + 1 + 1 + 1 + 1) = i * 5 + 4 by omega]
      exact ih4
section
variable {H : Type} {enc : TypeId × Value → H} {P : Program} {W : World}
theorem open_event {t e t0 t1 t2 t3 t4 : TypeId} {f0 f1 f2 f3 f4 : Field} {A : Option Addr} {len cap : Nat} {d : DataW H} {p : List MemPlace} (ht : P.underlying t = some (.slice e)) (he : P.underlying e = some (.struct #[f0, f1, f2, f3, f4]))
    (hone : oneCellFields P #[f0, f1, f2, f3, f4] = true) (hC : P.cellsOf e = 5) (e0 : f0.type = t0) (e1 : f1.type = t1) (e2 : f2.type = t2) (e3 : f3.type = t3) (e4 : f4.type = t4) (u0 : P.underlying t0 = some (.int .u8)) (u1 : P.underlying t1 = some (.int .u8)) (u2 : P.underlying t2 = some (.int .u8)) (u3 : P.underlying t3 = some (.int .u8)) (u4 : P.underlying t4 = some .string)
    (h : DataW.Trod enc P W 0 (fun _ => true) true t (.slice A len cap) d p) :
    ∃ ps : List (Nat × Nat × Nat × Nat × ByteArray), ps.length = len ∧ ps.length ≤ maxLen ∧ Rd W W.heap.size A (eventCells ps) ∧ ∀ q ∈ ps, q.1 < 256 ∧ q.2.1 < 256 ∧ q.2.2.1 < 256 ∧ q.2.2.2.1 < 256 ∧ q.2.2.2.2.size ≤ maxLen := by
  obtain ⟨fuel, hf⟩ := h
  rcases open_slice ht hf with ⟨hcs, _⟩ | ⟨a, len', cap', m, n, D, Pl, hcs, _, hl, hm, hmm, _, hel⟩
  · simp [Value.cells] at hcs
    obtain ⟨rfl, rfl, rfl⟩ := hcs
    exact ⟨[], rfl, by simp [maxLen], Rd.none _ _ _, fun q hq => by cases hq⟩
  · simp [Value.cells] at hcs
    obtain ⟨rfl, rfl, rfl⟩ := hcs
    simp only [if_true] at hmm
    subst hmm
    obtain ⟨ps, hlen, hps⟩ := build_list len (fun i (q : Nat × Nat × Nat × Nat × ByteArray) => W.cell? (a.add (i * 5)) = some (Value.int .u8 ((q.1 : Nat) : Int)) ∧ W.cell? (a.add (i * 5 + 1)) = some (Value.int .u8 ((q.2.1 : Nat) : Int)) ∧ W.cell? (a.add (i * 5 + 2)) = some (Value.int .u8 ((q.2.2.1 : Nat) : Int)) ∧ W.cell? (a.add (i * 5 + 3)) = some (Value.int .u8 ((q.2.2.2.1 : Nat) : Int)) ∧ W.cell? (a.add (i * 5 + 4)) = some (Value.string q.2.2.2.2) ∧ q.1 < 256 ∧ q.2.1 < 256 ∧ q.2.2.1 < 256 ∧ q.2.2.2.1 < 256 ∧ q.2.2.2.2.size ≤ maxLen) (fun i hi' => by
      obtain ⟨cs', hc, ht'⟩ := hel i (by omega)
      rw [hC] at hc
      obtain ⟨ys, n', _, _, _, hys, hfl⟩ := DataW.trod_struct he ht'
      obtain ⟨_, hcl2, hat⟩ := World.cells?_some hc
      obtain ⟨o0, k0⟩ := hone_of hone 0 f0 rfl
      obtain ⟨o1, k1⟩ := hone_of hone 1 f1 rfl
      obtain ⟨o2, k2⟩ := hone_of hone 2 f2 rfl
      obtain ⟨o3, k3⟩ := hone_of hone 3 f3 rfl
      obtain ⟨o4, k4⟩ := hone_of hone 4 f4 rfl
      match cs', hcl2 with
      | [x0, x1, x2, x3, x4], _ =>
        have g0 := hfl 0 f0 rfl
        rw [o0, k0] at g0
        have g1 := hfl 1 f1 rfl
        rw [o1, k1] at g1
        have g2 := hfl 2 f2 rfl
        rw [o2, k2] at g2
        have g3 := hfl 3 f3 rfl
        rw [o3, k3] at g3
        have g4 := hfl 4 f4 rfl
        rw [o4, k4] at g4
        simp at g0 g1 g2 g3 g4
        match ys, hys with
        | [y0, y1, y2, y3, y4], _ =>
          simp at g0 g1 g2 g3 g4
          rw [e0] at g0
          obtain ⟨n0, q0, _, w0⟩ := DataW.trod_int u0 g0
          simp at q0
          subst q0
          have b0 : 0 ≤ n0 ∧ n0 ≤ 255 := by simpa [Lit.wf, IntKind.min, IntKind.max, IntKind.signed, IntKind.bits] using w0
          obtain ⟨v0, rfl⟩ := Int.eq_ofNat_of_zero_le b0.1
          rw [e1] at g1
          obtain ⟨n1, q1, _, w1⟩ := DataW.trod_int u1 g1
          simp at q1
          subst q1
          have b1 : 0 ≤ n1 ∧ n1 ≤ 255 := by simpa [Lit.wf, IntKind.min, IntKind.max, IntKind.signed, IntKind.bits] using w1
          obtain ⟨v1, rfl⟩ := Int.eq_ofNat_of_zero_le b1.1
          rw [e2] at g2
          obtain ⟨n2, q2, _, w2⟩ := DataW.trod_int u2 g2
          simp at q2
          subst q2
          have b2 : 0 ≤ n2 ∧ n2 ≤ 255 := by simpa [Lit.wf, IntKind.min, IntKind.max, IntKind.signed, IntKind.bits] using w2
          obtain ⟨v2, rfl⟩ := Int.eq_ofNat_of_zero_le b2.1
          rw [e3] at g3
          obtain ⟨n3, q3, _, w3⟩ := DataW.trod_int u3 g3
          simp at q3
          subst q3
          have b3 : 0 ≤ n3 ∧ n3 ≤ 255 := by simpa [Lit.wf, IntKind.min, IntKind.max, IntKind.signed, IntKind.bits] using w3
          obtain ⟨v3, rfl⟩ := Int.eq_ofNat_of_zero_le b3.1
          rw [e4] at g4
          obtain ⟨n4, q4, _, w4⟩ := DataW.trod_string u4 g4
          simp at q4
          subst q4
          refine ⟨(v0, v1, v2, v3, n4), ?_, ?_, ?_, ?_, ?_, by simp only; omega, by simp only; omega, by simp only; omega, by simp only; omega, w4⟩
          · have := hat 0 (by omega)
            simpa [Addr.add] using this
          · have := hat 1 (by omega)
            rw [Mm.add_add] at this
            simpa using this
          · have := hat 2 (by omega)
            rw [Mm.add_add] at this
            simpa using this
          · have := hat 3 (by omega)
            rw [Mm.add_add] at this
            simpa using this
          · have := hat 4 (by omega)
            rw [Mm.add_add] at this
            simpa using this)
    refine ⟨ps, hlen, by omega, fun hn => ?_, fun q hq => ?_⟩
    · rw [length_eventCells] at hn
      have hp0 := hps 0 (by omega)
      refine ⟨a, rfl, ?_, fun j u hu' => ?_⟩
      · have := lt_of_cell hp0.1
        rwa [Mm.block_add] at this
      · have hj : j < 5 * ps.length := by
          have := (List.getElem?_eq_some_iff.1 hu').1
          rwa [length_eventCells] at this
        have hk : j / 5 < ps.length := by omega
        obtain ⟨hg0, hg1, hg2, hg3, hg4⟩ := get_eventCells ps (j / 5) hk
        obtain ⟨hp0, hp1, hp2, hp3, hp4, _⟩ := hps (j / 5) hk
        have h3 : j % 5 = 0 ∨ j % 5 = 1 ∨ j % 5 = 2 ∨ j % 5 = 3 ∨ j % 5 = 4 := by omega
        rcases h3 with h0 | h0 | h0 | h0 | h0
        · have ej : j = j / 5 * 5 := by omega
          rw [ej] at hu' ⊢
          rw [hg0] at hu'
          rw [← hu']; exact hp0
        · have ej : j = j / 5 * 5 + 1 := by omega
          rw [ej] at hu' ⊢
          rw [hg1] at hu'
          rw [← hu']; exact hp1
        · have ej : j = j / 5 * 5 + 2 := by omega
          rw [ej] at hu' ⊢
          rw [hg2] at hu'
          rw [← hu']; exact hp2
        · have ej : j = j / 5 * 5 + 3 := by omega
          rw [ej] at hu' ⊢
          rw [hg3] at hu'
          rw [← hu']; exact hp3
        · have ej : j = j / 5 * 5 + 4 := by omega
          rw [ej] at hu' ⊢
          rw [hg4] at hu'
          rw [← hu']; exact hp4
    · obtain ⟨i, hi', rfl⟩ := List.getElem_of_mem hq
      exact (hps i hi').2.2.2.2.2
end
end Go.Proofs.YtphndajaehofoaaDoor.Op
