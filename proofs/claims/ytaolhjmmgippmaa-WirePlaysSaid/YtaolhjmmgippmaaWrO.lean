/-
  A slice of structs of 2 fields each, opened.
-/
import Derived.Test.YtaolhjmmgippmaaOpen
namespace Go.Proofs.Ytaolhjmmgippmaa.Op
open Go.ChangeShapes Go.WideShapes Go.ChangeAt Go.RowKit Go.Deep
open Go.ChangeMaps (open_string shut_string)
open Go.Proofs.Ytaolhjmmgippmaa.Mm Go.Proofs.Ytaolhjmmgippmaa.Fl

def wiractsCells (l : List (Nat × ByteArray)) : List Value := l.flatMap fun p => [Value.int .u8 ((p.1 : Nat) : Int), Value.string p.2]
theorem length_wiractsCells (l : List (Nat × ByteArray)) : (wiractsCells l).length = 2 * l.length := by
  unfold wiractsCells
  induction l with
  | nil => rfl
  | cons p l ih => rw [List.flatMap_cons, List.length_append, ih, List.length_cons]; simp; omega
theorem get_wiractsCells : ∀ (l : List (Nat × ByteArray)) (i : Nat) (h : i < l.length), (wiractsCells l)[i * 2]? = some (Value.int .u8 ((l[i].1 : Nat) : Int)) ∧ (wiractsCells l)[i * 2 + 1]? = some (Value.string l[i].2)
  | [], _, h => by simp at h
  | p :: l, 0, _ => by simp [wiractsCells]
  | p :: l, i + 1, h => by
    have ih := get_wiractsCells l i (by simpa using h)
    have e : wiractsCells (p :: l) = [Value.int .u8 ((p.1 : Nat) : Int), Value.string p.2] ++ wiractsCells l := rfl
    obtain ⟨ih0, ih1⟩ := ih
    refine ⟨?_, ?_⟩
    · rw [e, List.getElem?_append_right (by simp; omega)]
      simp only [List.length_cons, List.length_nil, List.getElem_cons_succ]
      rw [show (i + 1) * 2 - (0 + 1 + 1) = i * 2 by omega]
      exact ih0
    · rw [e, List.getElem?_append_right (by simp; omega)]
      simp only [List.length_cons, List.length_nil, List.getElem_cons_succ]
      rw [show (i + 1) * 2 + 1 - (0 + 1 + 1) = i * 2 + 1 by omega]
      exact ih1
section
variable {H : Type} {enc : TypeId × Value → H} {P : Program} {W : World}
theorem open_wiracts {t e t0 t1 : TypeId} {f0 f1 : Field} {A : Option Addr} {len cap : Nat} {d : DataW H} {p : List MemPlace} (ht : P.underlying t = some (.slice e)) (he : P.underlying e = some (.struct #[f0, f1]))
    (hone : oneCellFields P #[f0, f1] = true) (hC : P.cellsOf e = 2) (e0 : f0.type = t0) (e1 : f1.type = t1) (u0 : P.underlying t0 = some (.int .u8)) (u1 : P.underlying t1 = some .string)
    (h : DataW.Trod enc P W 0 (fun _ => true) true t (.slice A len cap) d p) :
    ∃ ps : List (Nat × ByteArray), ps.length = len ∧ ps.length ≤ maxLen ∧ Rd W W.heap.size A (wiractsCells ps) ∧ ∀ q ∈ ps, q.1 < 256 ∧ q.2.size ≤ maxLen := by
  obtain ⟨fuel, hf⟩ := h
  rcases open_slice ht hf with ⟨hcs, _⟩ | ⟨a, len', cap', m, n, D, Pl, hcs, _, hl, hm, hmm, _, hel⟩
  · simp [Value.cells] at hcs
    obtain ⟨rfl, rfl, rfl⟩ := hcs
    exact ⟨[], rfl, by simp [maxLen], Rd.none _ _ _, fun q hq => by cases hq⟩
  · simp [Value.cells] at hcs
    obtain ⟨rfl, rfl, rfl⟩ := hcs
    simp only [if_true] at hmm
    subst hmm
    obtain ⟨ps, hlen, hps⟩ := build_list len (fun i (q : Nat × ByteArray) => W.cell? (a.add (i * 2)) = some (Value.int .u8 ((q.1 : Nat) : Int)) ∧ W.cell? (a.add (i * 2 + 1)) = some (Value.string q.2) ∧ q.1 < 256 ∧ q.2.size ≤ maxLen) (fun i hi' => by
      obtain ⟨cs', hc, ht'⟩ := hel i (by omega)
      rw [hC] at hc
      obtain ⟨ys, n', _, _, _, hys, hfl⟩ := DataW.trod_struct he ht'
      obtain ⟨_, hcl2, hat⟩ := World.cells?_some hc
      obtain ⟨o0, k0⟩ := hone_of hone 0 f0 rfl
      obtain ⟨o1, k1⟩ := hone_of hone 1 f1 rfl
      match cs', hcl2 with
      | [x0, x1], _ =>
        have g0 := hfl 0 f0 rfl
        rw [o0, k0] at g0
        have g1 := hfl 1 f1 rfl
        rw [o1, k1] at g1
        simp at g0 g1
        match ys, hys with
        | [y0, y1], _ =>
          simp at g0 g1
          rw [e0] at g0
          obtain ⟨n0, q0, _, w0⟩ := DataW.trod_int u0 g0
          simp at q0
          subst q0
          have b0 : 0 ≤ n0 ∧ n0 ≤ 255 := by simpa [Lit.wf, IntKind.min, IntKind.max, IntKind.signed, IntKind.bits] using w0
          obtain ⟨v0, rfl⟩ := Int.eq_ofNat_of_zero_le b0.1
          rw [e1] at g1
          obtain ⟨n1, q1, _, w1⟩ := DataW.trod_string u1 g1
          simp at q1
          subst q1
          refine ⟨(v0, n1), ?_, ?_, by simp only; omega, w1⟩
          · have := hat 0 (by omega)
            simpa [Addr.add] using this
          · have := hat 1 (by omega)
            rw [Mm.add_add] at this
            simpa using this)
    refine ⟨ps, hlen, by omega, fun hn => ?_, fun q hq => ?_⟩
    · rw [length_wiractsCells] at hn
      have hp0 := hps 0 (by omega)
      refine ⟨a, rfl, ?_, fun j u hu' => ?_⟩
      · have := lt_of_cell hp0.1
        rwa [Mm.block_add] at this
      · have hj : j < 2 * ps.length := by
          have := (List.getElem?_eq_some_iff.1 hu').1
          rwa [length_wiractsCells] at this
        have hk : j / 2 < ps.length := by omega
        obtain ⟨hg0, hg1⟩ := get_wiractsCells ps (j / 2) hk
        obtain ⟨hp0, hp1, _⟩ := hps (j / 2) hk
        have h3 : j % 2 = 0 ∨ j % 2 = 1 := by omega
        rcases h3 with h0 | h0
        · have ej : j = j / 2 * 2 := by omega
          rw [ej] at hu' ⊢
          rw [hg0] at hu'
          rw [← hu']; exact hp0
        · have ej : j = j / 2 * 2 + 1 := by omega
          rw [ej] at hu' ⊢
          rw [hg1] at hu'
          rw [← hu']; exact hp1
    · obtain ⟨i, hi', rfl⟩ := List.getElem_of_mem hq
      exact (hps i hi').2.2
end
end Go.Proofs.Ytaolhjmmgippmaa.Op
