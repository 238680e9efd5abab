/-
  A slice of structs of 6 fields each, opened.
-/
import Derived.Test.YthhiagdncjpdcaaOpen
namespace Go.Proofs.Ythhiagdncjpdcaa.Op
open Go.ChangeShapes Go.WideShapes Go.ChangeAt Go.RowKit Go.Deep
open Go.ChangeMaps (open_string shut_string)
open Go.Proofs.Ythhiagdncjpdcaa.Mm Go.Proofs.Ythhiagdncjpdcaa.Fl

def heardsCells (l : List (Int × Nat × Bool × Bool × Bool × Nat)) : List Value := l.flatMap fun p => [Value.int .i64 p.1, Value.int .u8 ((p.2.1 : Nat) : Int), Value.bool p.2.2.1, Value.bool p.2.2.2.1, Value.bool p.2.2.2.2.1, Value.int .u64 ((p.2.2.2.2.2 : Nat) : Int)]
theorem length_heardsCells (l : List (Int × Nat × Bool × Bool × Bool × Nat)) : (heardsCells l).length = 6 * l.length := by
  unfold heardsCells
  induction l with
  | nil => rfl
  | cons p l ih => rw [List.flatMap_cons, List.length_append, ih, List.length_cons]; simp; omega
theorem get_heardsCells : ∀ (l : List (Int × Nat × Bool × Bool × Bool × Nat)) (i : Nat) (h : i < l.length), (heardsCells l)[i * 6]? = some (Value.int .i64 l[i].1) ∧ (heardsCells l)[i * 6 + 1]? = some (Value.int .u8 ((l[i].2.1 : Nat) : Int)) ∧ (heardsCells l)[i * 6 + 2]? = some (Value.bool l[i].2.2.1) ∧ (heardsCells l)[i * 6 + 3]? = some (Value.bool l[i].2.2.2.1) ∧ (heardsCells l)[i * 6 + 4]? = some (Value.bool l[i].2.2.2.2.1) ∧ (heardsCells l)[i * 6 + 5]? = some (Value.int .u64 ((l[i].2.2.2.2.2 : Nat) : Int))
  | [], _, h => by simp at h
  | p :: l, 0, _ => by simp [heardsCells]
  | p :: l, i + 1, h => by
    have ih := get_heardsCells l i (by simpa using h)
    have e : heardsCells (p :: l) = [Value.int .i64 p.1, Value.int .u8 ((p.2.1 : Nat) : Int), Value.bool p.2.2.1, Value.bool p.2.2.2.1, Value.bool p.2.2.2.2.1, Value.int .u64 ((p.2.2.2.2.2 : Nat) : Int)] ++ heardsCells l := rfl
    obtain ⟨ih0, ih1, ih2, ih3, ih4, ih5⟩ := ih
    refine ⟨?_, ?_, ?_, ?_, ?_, ?_⟩
    · rw [e, List.getElem?_append_right (by simp; omega)]
      simp only [List.length_cons, List.length_nil, List.getElem_cons_succ]
      rw [show (i + 1) * 6 - (0 + 1 + 1 + 1 + 1 + 1 + 1) = i * 6 by omega]
      exact ih0
    · rw [e, List.getElem?_append_right (by simp; omega)]
      simp only [List.length_cons, List.length_nil, List.getElem_cons_succ]
      rw [show (i + 1) * 6 + 1 - (0 + 1 + 1 + 1 + 1 + 1 + 1) = i * 6 + 1 by omega]
      exact ih1
    · rw [e, List.getElem?_append_right (by simp; omega)]
      simp only [List.length_cons, List.length_nil, List.getElem_cons_succ]
      rw [show (i + 1) * 6 + 2 - (0 + 1 + 1 + 1 + 1 + 1 + 1) = i * 6 + 2 by omega]
      exact ih2
    · rw [e, List.getElem?_append_right (by simp; omega)]
      simp only [List.length_cons, List.length_nil, List.getElem_cons_succ]
      rw [show (i + 1) * 6 + 3 - (0 + 1 + 1 + 1 + 1 + 1 + 1) = i * 6 + 3 by omega]
      exact ih3
    · rw [e, List.getElem?_append_right (by simp; omega)]
      simp only [List.length_cons, List.length_nil, List.getElem_cons_succ]
      rw [show (i + 1) * 6 + 4 - (0 + 1 + 1 + 1 + 1 + 1 + 1) = i * 6 + 4 by omega]
      exact ih4
    · rw [e, List.getElem?_append_right (by simp; omega)]
      simp only [List.length_cons, List.length_nil, List.getElem_cons_succ]
      rw [show (i + 1) * 6 + 5 - (0 + 1 + 1 + 1 + 1 + 1 + 1) = i * 6 + 5 by omega]
      exact ih5
section
variable {H : Type} {enc : TypeId × Value → H} {P : Program} {W : World}
theorem open_heards {t e t0 t1 t2 t3 t4 t5 : TypeId} {f0 f1 f2 f3 f4 f5 fN : Field} {A : Option Addr} {len cap : Nat} {d : DataW H} {p : List MemPlace} (ht : P.underlying t = some (.slice e)) (he : P.underlying e = some (.struct #[f0, fN])) (hN : P.underlying fN.type = some (.struct #[f1, f2, f3, f4, f5]))
    (hone : oneCellFields P #[f1, f2, f3, f4, f5] = true) (hC : P.cellsOf e = 6) (o0 : f0.offset = 0) (k0 : P.cellsOf f0.type = 1) (oN : fN.offset = 1) (kN : P.cellsOf fN.type = 5) (e0 : f0.type = t0) (e1 : f1.type = t1) (e2 : f2.type = t2) (e3 : f3.type = t3) (e4 : f4.type = t4) (e5 : f5.type = t5) (u0 : P.underlying t0 = some (.int .i64)) (u1 : P.underlying t1 = some (.int .u8)) (u2 : P.underlying t2 = some .bool) (u3 : P.underlying t3 = some .bool) (u4 : P.underlying t4 = some .bool) (u5 : P.underlying t5 = some (.int .u64))
    (h : DataW.Trod enc P W 0 (fun _ => true) true t (.slice A len cap) d p) :
    ∃ ps : List (Int × Nat × Bool × Bool × Bool × Nat), ps.length = len ∧ ps.length ≤ maxLen ∧ Rd W W.heap.size A (heardsCells ps) ∧ ∀ q ∈ ps, (-9223372036854775808 ≤ q.1 ∧ q.1 ≤ 9223372036854775807) ∧ q.2.1 < 256 ∧ q.2.2.2.2.2 < 18446744073709551616 := by
  obtain ⟨fuel, hf⟩ := h
  rcases open_slice ht hf with ⟨hcs, _⟩ | ⟨a, len', cap', m, n, D, Pl, hcs, _, hl, hm, hmm, _, hel⟩
  · simp [Value.cells] at hcs
    obtain ⟨rfl, rfl, rfl⟩ := hcs
    exact ⟨[], rfl, by simp [maxLen], Rd.none _ _ _, fun q hq => by cases hq⟩
  · simp [Value.cells] at hcs
    obtain ⟨rfl, rfl, rfl⟩ := hcs
    simp only [if_true] at hmm
    subst hmm
    obtain ⟨ps, hlen, hps⟩ := build_list len (fun i (q : Int × Nat × Bool × Bool × Bool × Nat) => W.cell? (a.add (i * 6)) = some (Value.int .i64 q.1) ∧ W.cell? (a.add (i * 6 + 1)) = some (Value.int .u8 ((q.2.1 : Nat) : Int)) ∧ W.cell? (a.add (i * 6 + 2)) = some (Value.bool q.2.2.1) ∧ W.cell? (a.add (i * 6 + 3)) = some (Value.bool q.2.2.2.1) ∧ W.cell? (a.add (i * 6 + 4)) = some (Value.bool q.2.2.2.2.1) ∧ W.cell? (a.add (i * 6 + 5)) = some (Value.int .u64 ((q.2.2.2.2.2 : Nat) : Int)) ∧ (-9223372036854775808 ≤ q.1 ∧ q.1 ≤ 9223372036854775807) ∧ q.2.1 < 256 ∧ q.2.2.2.2.2 < 18446744073709551616) (fun i hi' => by
      obtain ⟨cs', hc, ht'⟩ := hel i (by omega)
      rw [hC] at hc
      obtain ⟨ys, n', _, _, _, hys, hfl⟩ := DataW.trod_struct he ht'
      obtain ⟨_, hcl2, hat⟩ := World.cells?_some hc
      obtain ⟨o1, k1⟩ := hone_of hone 0 f1 rfl
      obtain ⟨o2, k2⟩ := hone_of hone 1 f2 rfl
      obtain ⟨o3, k3⟩ := hone_of hone 2 f3 rfl
      obtain ⟨o4, k4⟩ := hone_of hone 3 f4 rfl
      obtain ⟨o5, k5⟩ := hone_of hone 4 f5 rfl
      match cs', hcl2 with
      | [x0, x1, x2, x3, x4, x5], _ =>
        have g0 := hfl 0 f0 rfl
        rw [o0, k0] at g0
        have gN := hfl 1 fN rfl
        rw [oN, kN] at gN
        simp at gN g0
        match ys, hys with
        | [y0, yN], _ =>
          simp at gN g0
          obtain ⟨zs, n'', _, _, _, hzs, hgl⟩ := DataW.trod_struct hN gN
          have g1 := hgl 0 f1 rfl
          rw [o1, k1] at g1
          have g2 := hgl 1 f2 rfl
          rw [o2, k2] at g2
          have g3 := hgl 2 f3 rfl
          rw [o3, k3] at g3
          have g4 := hgl 3 f4 rfl
          rw [o4, k4] at g4
          have g5 := hgl 4 f5 rfl
          rw [o5, k5] at g5
          simp at g1 g2 g3 g4 g5
          match zs, hzs with
          | [y1, y2, y3, y4, y5], _ =>
            simp at g1 g2 g3 g4 g5
            rw [e0] at g0
            obtain ⟨n0, q0, _, w0⟩ := DataW.trod_int u0 g0
            simp at q0
            subst q0
            have b0 : -9223372036854775808 ≤ n0 ∧ n0 ≤ 9223372036854775807 := by simpa [Lit.wf, IntKind.min, IntKind.max, IntKind.signed, IntKind.bits] using w0
            rw [e1] at g1
            obtain ⟨n1, q1, _, w1⟩ := DataW.trod_int u1 g1
            simp at q1
            subst q1
            have b1 : 0 ≤ n1 ∧ n1 ≤ 255 := by simpa [Lit.wf, IntKind.min, IntKind.max, IntKind.signed, IntKind.bits] using w1
            obtain ⟨v1, rfl⟩ := Int.eq_ofNat_of_zero_le b1.1
            rw [e2] at g2
            obtain ⟨n2, q2, _⟩ := DataW.trod_bool u2 g2
            simp at q2
            subst q2
            rw [e3] at g3
            obtain ⟨n3, q3, _⟩ := DataW.trod_bool u3 g3
            simp at q3
            subst q3
            rw [e4] at g4
            obtain ⟨n4, q4, _⟩ := DataW.trod_bool u4 g4
            simp at q4
            subst q4
            rw [e5] at g5
            obtain ⟨n5, q5, _, w5⟩ := DataW.trod_int u5 g5
            simp at q5
            subst q5
            have b5 : 0 ≤ n5 ∧ n5 ≤ 18446744073709551615 := by simpa [Lit.wf, IntKind.min, IntKind.max, IntKind.signed, IntKind.bits] using w5
            obtain ⟨v5, rfl⟩ := Int.eq_ofNat_of_zero_le b5.1
            refine ⟨(n0, v1, n2, n3, n4, v5), ?_, ?_, ?_, ?_, ?_, ?_, b0, by simp only; omega, by simp only; omega⟩
            · have := hat 0 (by omega)
              simpa [Addr.add] using this
            · have := hat 1 (by omega)
              rw [Mm.add_add] at this
              simpa using this
            · have := hat 2 (by omega)
              rw [Mm.add_add] at this
              simpa using this
            · have := hat 3 (by omega)
              rw [Mm.add_add] at this
              simpa using this
            · have := hat 4 (by omega)
              rw [Mm.add_add] at this
              simpa using this
            · have := hat 5 (by omega)
              rw [Mm.add_add] at this
              simpa using this)
    refine ⟨ps, hlen, by omega, fun hn => ?_, fun q hq => ?_⟩
    · rw [length_heardsCells] at hn
      have hp0 := hps 0 (by omega)
      refine ⟨a, rfl, ?_, fun j u hu' => ?_⟩
      · have := lt_of_cell hp0.1
        rwa [Mm.block_add] at this
      · have hj : j < 6 * ps.length := by
          have := (List.getElem?_eq_some_iff.1 hu').1
          rwa [length_heardsCells] at this
        have hk : j / 6 < ps.length := by omega
        obtain ⟨hg0, hg1, hg2, hg3, hg4, hg5⟩ := get_heardsCells ps (j / 6) hk
        obtain ⟨hp0, hp1, hp2, hp3, hp4, hp5, _⟩ := hps (j / 6) hk
        have h3 : j % 6 = 0 ∨ j % 6 = 1 ∨ j % 6 = 2 ∨ j % 6 = 3 ∨ j % 6 = 4 ∨ j % 6 = 5 := by omega
        rcases h3 with h0 | h0 | h0 | h0 | h0 | h0
        · have ej : j = j / 6 * 6 := by omega
          rw [ej] at hu' ⊢
          rw [hg0] at hu'
          rw [← hu']; exact hp0
        · have ej : j = j / 6 * 6 + 1 := by omega
          rw [ej] at hu' ⊢
          rw [hg1] at hu'
          rw [← hu']; exact hp1
        · have ej : j = j / 6 * 6 + 2 := by omega
          rw [ej] at hu' ⊢
          rw [hg2] at hu'
          rw [← hu']; exact hp2
        · have ej : j = j / 6 * 6 + 3 := by omega
          rw [ej] at hu' ⊢
          rw [hg3] at hu'
          rw [← hu']; exact hp3
        · have ej : j = j / 6 * 6 + 4 := by omega
          rw [ej] at hu' ⊢
          rw [hg4] at hu'
          rw [← hu']; exact hp4
        · have ej : j = j / 6 * 6 + 5 := by omega
          rw [ej] at hu' ⊢
          rw [hg5] at hu'
          rw [← hu']; exact hp5
    · obtain ⟨i, hi', rfl⟩ := List.getElem_of_mem hq
      exact (hps i hi').2.2.2.2.2.2
end
end Go.Proofs.Ythhiagdncjpdcaa.Op

