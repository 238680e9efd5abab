/-
  A slice of structs of 12 fields each, opened.
-/
import Derived.Test.YteaghbdeleaanaaOpen
namespace Go.Proofs.Yteaghbdeleaanaa.Op
open Go.ChangeShapes Go.WideShapes Go.ChangeAt Go.RowKit Go.Deep
open Go.ChangeMaps (open_string shut_string)
open Go.Proofs.Yteaghbdeleaanaa.Mm Go.Proofs.Yteaghbdeleaanaa.Fl

def comesCells (l : List (Nat × Int × Bool × Bool × Nat × Nat × Nat × Bool × Nat × Nat × ByteArray × Bool)) : List Value := l.flatMap fun p => [Value.int .u16 ((p.1 : Nat) : Int), Value.int .i64 p.2.1, Value.bool p.2.2.1, Value.bool p.2.2.2.1, Value.int .u64 ((p.2.2.2.2.1 : Nat) : Int), Value.int .u64 ((p.2.2.2.2.2.1 : Nat) : Int), Value.int .u8 ((p.2.2.2.2.2.2.1 : Nat) : Int), Value.bool p.2.2.2.2.2.2.2.1, Value.int .u16 ((p.2.2.2.2.2.2.2.2.1 : Nat) : Int), Value.int .u16 ((p.2.2.2.2.2.2.2.2.2.1 : Nat) : Int), Value.string p.2.2.2.2.2.2.2.2.2.2.1, Value.bool p.2.2.2.2.2.2.2.2.2.2.2]
theorem length_comesCells (l : List (Nat × Int × Bool × Bool × Nat × Nat × Nat × Bool × Nat × Nat × ByteArray × Bool)) : (comesCells l).length = 12 * l.length := by
  unfold comesCells
  induction l with
  | nil => rfl
  | cons p l ih => rw [List.flatMap_cons, List.length_append, ih, List.length_cons]; simp; omega
theorem get_comesCells : ∀ (l : List (Nat × Int × Bool × Bool × Nat × Nat × Nat × Bool × Nat × Nat × ByteArray × Bool)) (i : Nat) (h : i < l.length), (comesCells l)[i * 12]? = some (Value.int .u16 ((l[i].1 : Nat) : Int)) ∧ (comesCells l)[i * 12 + 1]? = some (Value.int .i64 l[i].2.1) ∧ (comesCells l)[i * 12 + 2]? = some (Value.bool l[i].2.2.1) ∧ (comesCells l)[i * 12 + 3]? = some (Value.bool l[i].2.2.2.1) ∧ (comesCells l)[i * 12 + 4]? = some (Value.int .u64 ((l[i].2.2.2.2.1 : Nat) : Int)) ∧ (comesCells l)[i * 12 + 5]? = some (Value.int .u64 ((l[i].2.2.2.2.2.1 : Nat) : Int)) ∧ (comesCells l)[i * 12 + 6]? = some (Value.int .u8 ((l[i].2.2.2.2.2.2.1 : Nat) : Int)) ∧ (comesCells l)[i * 12 + 7]? = some (Value.bool l[i].2.2.2.2.2.2.2.1) ∧ (comesCells l)[i * 12 + 8]? = some (Value.int .u16 ((l[i].2.2.2.2.2.2.2.2.1 : Nat) : Int)) ∧ (comesCells l)[i * 12 + 9]? = some (Value.int .u16 ((l[i].2.2.2.2.2.2.2.2.2.1 : Nat) : Int)) ∧ (comesCells l)[i * 12 + 10]? = some (Value.string l[i].2.2.2.2.2.2.2.2.2.2.1) ∧ (comesCells l)[i * 12 + 11]? = some (Value.bool l[i].2.2.2.2.2.2.2.2.2.2.2)
  | [], _, h => by simp at h
  | p :: l, 0, _ => by simp [comesCells]
  | p :: l, i + 1, h => by
    have ih := get_comesCells l i (by simpa using h)
    have e : comesCells (p :: l) = [Value.int .u16 ((p.1 : Nat) : Int), Value.int .i64 p.2.1, Value.bool p.2.2.1, Value.bool p.2.2.2.1, Value.int .u64 ((p.2.2.2.2.1 : Nat) : Int), Value.int .u64 ((p.2.2.2.2.2.1 : Nat) : Int), Value.int .u8 ((p.2.2.2.2.2.2.1 : Nat) : Int), Value.bool p.2.2.2.2.2.2.2.1, Value.int .u16 ((p.2.2.2.2.2.2.2.2.1 : Nat) : Int), Value.int .u16 ((p.2.2.2.2.2.2.2.2.2.1 : Nat) : Int), Value.string p.2.2.2.2.2.2.2.2.2.2.1, Value.bool p.2.2.2.2.2.2.2.2.2.2.2] ++ comesCells l := rfl
    obtain ⟨ih0, ih1, ih2, ih3, ih4, ih5, ih6, ih7, ih8, ih9, ih10, ih11⟩ := ih
    refine ⟨?_, ?_, ?_, ?_, ?_, ?_, ?_, ?_, ?_, ?_, ?_, ?_⟩
    · rw [e, List.getElem?_append_right (by simp; omega)]
      simp only [List.length_cons, List.length_nil, List.getElem_cons_succ]
      rw [show (i + 1) * 12 - (0 + 1 + 1 + 1 + 1 + 1 + 1 + 1 + 1 + 1 + 1 + 1 + 1) = i * 12 by omega]
      exact ih0
    · rw [e, List.getElem?_append_right (by simp; omega)]
      simp only [List.length_cons, List.length_nil, List.getElem_cons_succ]
      rw [show (i + 1) * 12 + 1 - (0 + 1 + 1 + 1 + 1 + 1 + 1 + 1 + 1 + 1 + 1 + 1 + 1) = i * 12 + 1 by omega]
      exact ih1
    · rw [e, List.getElem?_append_right (by simp; omega)]
      simp only [List.length_cons, List.length_nil, List.getElem_cons_succ]
      rw [show (i + 1) * 12 + 2 - (0 + 1 + 1 + 1 + 1 + 1 + 1 + 1 + 1 + 1 + 1 + 1 + 1) = i * 12 + 2 by omega]
      exact ih2
    · rw [e, List.getElem?_append_right (by simp; omega)]
      simp only [List.length_cons, List.length_nil, List.getElem_cons_succ]
      rw [show (i + 1) * 12 + 3 - (0 + 1 + 1 + 1 + 1 + 1 + 1 + 1 + 1 + 1 + 1 + 1 + 1) = i * 12 + 3 by omega]
      exact ih3
    · rw [e, List.getElem?_append_right (by simp; omega)]
      simp only [List.length_cons, List.length_nil, List.getElem_cons_succ]
      rw [show (i + 1) * 12 + 4 - (0 + 1 + 1 + 1 + 1 + 1 + 1 + 1 + 1 + 1 + 1 + 1 + 1) = i * 12 + 4 by omega]
      exact ih4
    · rw [e, List.getElem?_append_right (by simp; omega)]
      simp only [List.length_cons, List.length_nil, List.getElem_cons_succ]
      rw [show (i + 1) * 12 + 5 - (0 + 1 + 1 + 1 + 1 + 1 + 1 + 1 + 1 + 1 + 1 + 1 + 1) = i * 12 + 5 by omega]
      exact ih5
    · rw [e, List.getElem?_append_right (by simp; omega)]
      simp only [List.length_cons, List.length_nil, List.getElem_cons_succ]
      rw [show (i + 1) * 12 + 6 - (0 + 1 + 1 + 1 + 1 + 1 + 1 + 1 + 1 + 1 + 1 + 1 + 1) = i * 12 + 6 by omega]
      exact ih6
    · rw [e, List.getElem?_append_right (by simp; omega)]
      simp only [List.length_cons, List.length_nil, List.getElem_cons_succ]
      rw [show (i + 1) * 12 + 7 - (0 + 1 + 1 + 1 + 1 + 1 + 1 + 1 + 1 + 1 + 1 + 1 + 1) = i * 12 + 7 by omega]
      exact ih7
    · rw [e, List.getElem?_append_right (by simp; omega)]
      simp only [List.length_cons, List.length_nil, List.getElem_cons_succ]
      rw [show (i + 1) * 12 + 8 - (0 + 1 + 1 + 1 + 1 + 1 + 1 + 1 + 1 + 1 + 1 + 1 + 1) = i * 12 + 8 by omega]
      exact ih8
    · rw [e, List.getElem?_append_right (by simp; omega)]
      simp only [List.length_cons, List.length_nil, List.getElem_cons_succ]
      rw [show (i + 1) * 12 + 9 - (0 + 1 + 1 + 1 + 1 + 1 + 1 + 1 + 1 + 1 + 1 + 1 + 1) = i * 12 + 9 by omega]
      exact ih9
    · rw [e, List.getElem?_append_right (by simp; omega)]
      simp only [List.length_cons, List.length_nil, List.getElem_cons_succ]
      rw [show (i + 1) * 12 + 10 - (0 + 1 + 1 + 1 + 1 + 1 + 1 + 1 + 1 + 1 + 1 + 1 + 1) = i * 12 + 10 by omega]
      exact ih10
    · rw [e, List.getElem?_append_right (by simp; omega)]
      simp only [List.length_cons, List.length_nil, List.getElem_cons_succ]
      rw [show (i + 1) * 12 + 11 - (0 + 1 + 1 + 1 + 1 + 1 + 1 + 1 + 1 + 1 + 1 + 1 + 1) = i * 12 + 11 by omega]
      exact ih11
section
variable {H : Type} {enc : TypeId × Value → H} {P : Program} {W : World}
theorem open_comes {t e t0 t1 t2 t3 t4 t5 t6 t7 t8 t9 t10 t11 : TypeId} {f0 f1 f2 f3 f4 f5 f6 f7 f8 f9 f10 f11 fN : Field} {A : Option Addr} {len cap : Nat} {d : DataW H} {p : List MemPlace} (ht : P.underlying t = some (.slice e)) (he : P.underlying e = some (.struct #[f0, f1, f2, f3, fN, f11])) (hN : P.underlying fN.type = some (.struct #[f4, f5, f6, f7, f8, f9, f10]))
    (hone : oneCellFields P #[f4, f5, f6, f7, f8, f9, f10] = true) (hC : P.cellsOf e = 12) (o0 : f0.offset = 0) (k0 : P.cellsOf f0.type = 1) (o1 : f1.offset = 1) (k1 : P.cellsOf f1.type = 1) (o2 : f2.offset = 2) (k2 : P.cellsOf f2.type = 1) (o3 : f3.offset = 3) (k3 : P.cellsOf f3.type = 1) (o11 : f11.offset = 11) (k11 : P.cellsOf f11.type = 1) (oN : fN.offset = 4) (kN : P.cellsOf fN.type = 7) (e0 : f0.type = t0) (e1 : f1.type = t1) (e2 : f2.type = t2) (e3 : f3.type = t3) (e4 : f4.type = t4) (e5 : f5.type = t5) (e6 : f6.type = t6) (e7 : f7.type = t7) (e8 : f8.type = t8) (e9 : f9.type = t9) (e10 : f10.type = t10) (e11 : f11.type = t11) (u0 : P.underlying t0 = some (.int .u16)) (u1 : P.underlying t1 = some (.int .i64)) (u2 : P.underlying t2 = some .bool) (u3 : P.underlying t3 = some .bool) (u4 : P.underlying t4 = some (.int .u64)) (u5 : P.underlying t5 = some (.int .u64)) (u6 : P.underlying t6 = some (.int .u8)) (u7 : P.underlying t7 = some .bool) (u8 : P.underlying t8 = some (.int .u16)) (u9 : P.underlying t9 = some (.int .u16)) (u10 : P.underlying t10 = some .string) (u11 : P.underlying t11 = some .bool)
    (h : DataW.Trod enc P W 0 (fun _ => true) true t (.slice A len cap) d p) :
    ∃ ps : List (Nat × Int × Bool × Bool × Nat × Nat × Nat × Bool × Nat × Nat × ByteArray × Bool), ps.length = len ∧ ps.length ≤ maxLen ∧ Rd W W.heap.size A (comesCells ps) ∧ ∀ q ∈ ps, q.1 < 65536 ∧ (-9223372036854775808 ≤ q.2.1 ∧ q.2.1 ≤ 9223372036854775807) ∧ q.2.2.2.2.1 < 18446744073709551616 ∧ q.2.2.2.2.2.1 < 18446744073709551616 ∧ q.2.2.2.2.2.2.1 < 256 ∧ q.2.2.2.2.2.2.2.2.1 < 65536 ∧ q.2.2.2.2.2.2.2.2.2.1 < 65536 ∧ q.2.2.2.2.2.2.2.2.2.2.1.size ≤ maxLen := by
  obtain ⟨fuel, hf⟩ := h
  rcases open_slice ht hf with ⟨hcs, _⟩ | ⟨a, len', cap', m, n, D, Pl, hcs, _, hl, hm, hmm, _, hel⟩
  · simp [Value.cells] at hcs
    obtain ⟨rfl, rfl, rfl⟩ := hcs
    exact ⟨[], rfl, by simp [maxLen], Rd.none _ _ _, fun q hq => by cases hq⟩
  · simp [Value.cells] at hcs
    obtain ⟨rfl, rfl, rfl⟩ := hcs
    simp only [if_true] at hmm
    subst hmm
    obtain ⟨ps, hlen, hps⟩ := build_list len (fun i (q : Nat × Int × Bool × Bool × Nat × Nat × Nat × Bool × Nat × Nat × ByteArray × Bool) => W.cell? (a.add (i * 12)) = some (Value.int .u16 ((q.1 : Nat) : Int)) ∧ W.cell? (a.add (i * 12 + 1)) = some (Value.int .i64 q.2.1) ∧ W.cell? (a.add (i * 12 + 2)) = some (Value.bool q.2.2.1) ∧ W.cell? (a.add (i * 12 + 3)) = some (Value.bool q.2.2.2.1) ∧ W.cell? (a.add (i * 12 + 4)) = some (Value.int .u64 ((q.2.2.2.2.1 : Nat) : Int)) ∧ W.cell? (a.add (i * 12 + 5)) = some (Value.int .u64 ((q.2.2.2.2.2.1 : Nat) : Int)) ∧ W.cell? (a.add (i * 12 + 6)) = some (Value.int .u8 ((q.2.2.2.2.2.2.1 : Nat) : Int)) ∧ W.cell? (a.add (i * 12 + 7)) = some (Value.bool q.2.2.2.2.2.2.2.1) ∧ W.cell? (a.add (i * 12 + 8)) = some (Value.int .u16 ((q.2.2.2.2.2.2.2.2.1 : Nat) : Int)) ∧ W.cell? (a.add (i * 12 + 9)) = some (Value.int .u16 ((q.2.2.2.2.2.2.2.2.2.1 : Nat) : Int)) ∧ W.cell? (a.add (i * 12 + 10)) = some (Value.string q.2.2.2.2.2.2.2.2.2.2.1) ∧ W.cell? (a.add (i * 12 + 11)) = some (Value.bool q.2.2.2.2.2.2.2.2.2.2.2) ∧ q.1 < 65536 ∧ (-9223372036854775808 ≤ q.2.1 ∧ q.2.1 ≤ 9223372036854775807) ∧ q.2.2.2.2.1 < 18446744073709551616 ∧ q.2.2.2.2.2.1 < 18446744073709551616 ∧ q.2.2.2.2.2.2.1 < 256 ∧ q.2.2.2.2.2.2.2.2.1 < 65536 ∧ q.2.2.2.2.2.2.2.2.2.1 < 65536 ∧ q.2.2.2.2.2.2.2.2.2.2.1.size ≤ maxLen) (fun i hi' => by
      obtain ⟨cs', hc, ht'⟩ := hel i (by omega)
      rw [hC] at hc
      obtain ⟨ys, n', _, _, _, hys, hfl⟩ := DataW.trod_struct he ht'
      obtain ⟨_, hcl2, hat⟩ := World.cells?_some hc
      obtain ⟨o4, k4⟩ := hone_of hone 0 f4 rfl
      obtain ⟨o5, k5⟩ := hone_of hone 1 f5 rfl
      obtain ⟨o6, k6⟩ := hone_of hone 2 f6 rfl
      obtain ⟨o7, k7⟩ := hone_of hone 3 f7 rfl
      obtain ⟨o8, k8⟩ := hone_of hone 4 f8 rfl
      obtain ⟨o9, k9⟩ := hone_of hone 5 f9 rfl
      obtain ⟨o10, k10⟩ := hone_of hone 6 f10 rfl
      match cs', hcl2 with
      | [x0, x1, x2, x3, x4, x5, x6, x7, x8, x9, x10, x11], _ =>
        have g0 := hfl 0 f0 rfl
        rw [o0, k0] at g0
        have g1 := hfl 1 f1 rfl
        rw [o1, k1] at g1
        have g2 := hfl 2 f2 rfl
        rw [o2, k2] at g2
        have g3 := hfl 3 f3 rfl
        rw [o3, k3] at g3
        have gN := hfl 4 fN rfl
        rw [oN, kN] at gN
        have g11 := hfl 5 f11 rfl
        rw [o11, k11] at g11
        simp at gN g0 g1 g2 g3 g11
        match ys, hys with
        | [y0, y1, y2, y3, yN, y11], _ =>
          simp at gN g0 g1 g2 g3 g11
          obtain ⟨zs, n'', _, _, _, hzs, hgl⟩ := DataW.trod_struct hN gN
          have g4 := hgl 0 f4 rfl
          rw [o4, k4] at g4
          have g5 := hgl 1 f5 rfl
          rw [o5, k5] at g5
          have g6 := hgl 2 f6 rfl
          rw [o6, k6] at g6
          have g7 := hgl 3 f7 rfl
          rw [o7, k7] at g7
          have g8 := hgl 4 f8 rfl
          rw [o8, k8] at g8
          have g9 := hgl 5 f9 rfl
          rw [o9, k9] at g9
          have g10 := hgl 6 f10 rfl
          rw [o10, k10] at g10
          simp at g4 g5 g6 g7 g8 g9 g10
          match zs, hzs with
          | [y4, y5, y6, y7, y8, y9, y10], _ =>
            simp at g4 g5 g6 g7 g8 g9 g10
            rw [e0] at g0
            obtain ⟨n0, q0, _, w0⟩ := DataW.trod_int u0 g0
            simp at q0
            subst q0
            have b0 : 0 ≤ n0 ∧ n0 ≤ 65535 := by simpa [Lit.wf, IntKind.min, IntKind.max, IntKind.signed, IntKind.bits] using w0
            obtain ⟨v0, rfl⟩ := Int.eq_ofNat_of_zero_le b0.1
            rw [e1] at g1
            obtain ⟨n1, q1, _, w1⟩ := DataW.trod_int u1 g1
            simp at q1
            subst q1
            have b1 : -9223372036854775808 ≤ n1 ∧ n1 ≤ 9223372036854775807 := by simpa [Lit.wf, IntKind.min, IntKind.max, IntKind.signed, IntKind.bits] using w1
            rw [e2] at g2
            obtain ⟨n2, q2, _⟩ := DataW.trod_bool u2 g2
            simp at q2
            subst q2
            rw [e3] at g3
            obtain ⟨n3, q3, _⟩ := DataW.trod_bool u3 g3
            simp at q3
            subst q3
            rw [e4] at g4
            obtain ⟨n4, q4, _, w4⟩ := DataW.trod_int u4 g4
            simp at q4
            subst q4
            have b4 : 0 ≤ n4 ∧ n4 ≤ 18446744073709551615 := by simpa [Lit.wf, IntKind.min, IntKind.max, IntKind.signed, IntKind.bits] using w4
            obtain ⟨v4, rfl⟩ := Int.eq_ofNat_of_zero_le b4.1
            rw [e5] at g5
            obtain ⟨n5, q5, _, w5⟩ := DataW.trod_int u5 g5
            simp at q5
            subst q5
            have b5 : 0 ≤ n5 ∧ n5 ≤ 18446744073709551615 := by simpa [Lit.wf, IntKind.min, IntKind.max, IntKind.signed, IntKind.bits] using w5
            obtain ⟨v5, rfl⟩ := Int.eq_ofNat_of_zero_le b5.1
            rw [e6] at g6
            obtain ⟨n6, q6, _, w6⟩ := DataW.trod_int u6 g6
            simp at q6
            subst q6
            have b6 : 0 ≤ n6 ∧ n6 ≤ 255 := by simpa [Lit.wf, IntKind.min, IntKind.max, IntKind.signed, IntKind.bits] using w6
            obtain ⟨v6, rfl⟩ := Int.eq_ofNat_of_zero_le b6.1
            rw [e7] at g7
            obtain ⟨n7, q7, _⟩ := DataW.trod_bool u7 g7
            simp at q7
            subst q7
            rw [e8] at g8
            obtain ⟨n8, q8, _, w8⟩ := DataW.trod_int u8 g8
            simp at q8
            subst q8
            have b8 : 0 ≤ n8 ∧ n8 ≤ 65535 := by simpa [Lit.wf, IntKind.min, IntKind.max, IntKind.signed, IntKind.bits] using w8
            obtain ⟨v8, rfl⟩ := Int.eq_ofNat_of_zero_le b8.1
            rw [e9] at g9
            obtain ⟨n9, q9, _, w9⟩ := DataW.trod_int u9 g9
            simp at q9
            subst q9
            have b9 : 0 ≤ n9 ∧ n9 ≤ 65535 := by simpa [Lit.wf, IntKind.min, IntKind.max, IntKind.signed, IntKind.bits] using w9
            obtain ⟨v9, rfl⟩ := Int.eq_ofNat_of_zero_le b9.1
            rw [e10] at g10
            obtain ⟨n10, q10, _, w10⟩ := DataW.trod_string u10 g10
            simp at q10
            subst q10
            rw [e11] at g11
            obtain ⟨n11, q11, _⟩ := DataW.trod_bool u11 g11
            simp at q11
            subst q11
            refine ⟨(v0, n1, n2, n3, v4, v5, v6, n7, v8, v9, n10, n11), ?_, ?_, ?_, ?_, ?_, ?_, ?_, ?_, ?_, ?_, ?_, ?_, by simp only; omega, b1, by simp only; omega, by simp only; omega, by simp only; omega, by simp only; omega, by simp only; omega, w10⟩
            · have := hat 0 (by omega)
              simpa [Addr.add] using this
            · have := hat 1 (by omega)
              rw [Mm.add_add] at this
              simpa using this
            · have := hat 2 (by omega)
              rw [Mm.add_add] at this
              simpa using this
            · have := hat 3 (by omega)
              rw [Mm.add_add] at this
              simpa using this
            · have := hat 4 (by omega)
              rw [Mm.add_add] at this
              simpa using this
            · have := hat 5 (by omega)
              rw [Mm.add_add] at this
              simpa using this
            · have := hat 6 (by omega)
              rw [Mm.add_add] at this
              simpa using this
            · have := hat 7 (by omega)
              rw [Mm.add_add] at this
              simpa using this
            · have := hat 8 (by omega)
              rw [Mm.add_add] at this
              simpa using this
            · have := hat 9 (by omega)
              rw [Mm.add_add] at this
              simpa using this
            · have := hat 10 (by omega)
              rw [Mm.add_add] at this
              simpa using this
            · have := hat 11 (by omega)
              rw [Mm.add_add] at this
              simpa using this)
    refine ⟨ps, hlen, by omega, fun hn => ?_, fun q hq => ?_⟩
    · rw [length_comesCells] at hn
      have hp0 := hps 0 (by omega)
      refine ⟨a, rfl, ?_, fun j u hu' => ?_⟩
      · have := lt_of_cell hp0.1
        rwa [Mm.block_add] at this
      · have hj : j < 12 * ps.length := by
          have := (List.getElem?_eq_some_iff.1 hu').1
          rwa [length_comesCells] at this
        have hk : j / 12 < ps.length := by omega
        obtain ⟨hg0, hg1, hg2, hg3, hg4, hg5, hg6, hg7, hg8, hg9, hg10, hg11⟩ := get_comesCells ps (j / 12) hk
        obtain ⟨hp0, hp1, hp2, hp3, hp4, hp5, hp6, hp7, hp8, hp9, hp10, hp11, _⟩ := hps (j / 12) hk
        have h3 : j % 12 = 0 ∨ j % 12 = 1 ∨ j % 12 = 2 ∨ j % 12 = 3 ∨ j % 12 = 4 ∨ j % 12 = 5 ∨ j % 12 = 6 ∨ j % 12 = 7 ∨ j % 12 = 8 ∨ j % 12 = 9 ∨ j % 12 = 10 ∨ j % 12 = 11 := by omega
        rcases h3 with h0 | h0 | h0 | h0 | h0 | h0 | h0 | h0 | h0 | h0 | h0 | h0
        · have ej : j = j / 12 * 12 := by omega
          rw [ej] at hu' ⊢
          rw [hg0] at hu'
          rw [← hu']; exact hp0
        · have ej : j = j / 12 * 12 + 1 := by omega
          rw [ej] at hu' ⊢
          rw [hg1] at hu'
          rw [← hu']; exact hp1
        · have ej : j = j / 12 * 12 + 2 := by omega
          rw [ej] at hu' ⊢
          rw [hg2] at hu'
          rw [← hu']; exact hp2
        · have ej : j = j / 12 * 12 + 3 := by omega
          rw [ej] at hu' ⊢
          rw [hg3] at hu'
          rw [← hu']; exact hp3
        · have ej : j = j / 12 * 12 + 4 := by omega
          rw [ej] at hu' ⊢
          rw [hg4] at hu'
          rw [← hu']; exact hp4
        · have ej : j = j / 12 * 12 + 5 := by omega
          rw [ej] at hu' ⊢
          rw [hg5] at hu'
          rw [← hu']; exact hp5
        · have ej : j = j / 12 * 12 + 6 := by omega
          rw [ej] at hu' ⊢
          rw [hg6] at hu'
          rw [← hu']; exact hp6
        · have ej : j = j / 12 * 12 + 7 := by omega
          rw [ej] at hu' ⊢
          rw [hg7] at hu'
          rw [← hu']; exact hp7
        · have ej : j = j / 12 * 12 + 8 := by omega
          rw [ej] at hu' ⊢
          rw [hg8] at hu'
          rw [← hu']; exact hp8
        · have ej : j = j / 12 * 12 + 9 := by omega
          rw [ej] at hu' ⊢
          rw [hg9] at hu'
          rw [← hu']; exact hp9
        · have ej : j = j / 12 * 12 + 10 := by omega
          rw [ej] at hu' ⊢
          rw [hg10] at hu'
          rw [← hu']; exact hp10
        · have ej : j = j / 12 * 12 + 11 := by omega
          rw [ej] at hu' ⊢
          rw [hg11] at hu'
          rw [← hu']; exact hp11
    · obtain ⟨i, hi', rfl⟩ := List.getElem_of_mem hq
      exact (hps i hi').2.2.2.2.2.2.2.2.2.2.2.2
end
end Go.Proofs.Yteaghbdeleaanaa.Op

