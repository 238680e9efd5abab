/-
  Arguments of the watches' statements, opened: a watch by value; a slice of acts (a number, a Bool, a text each); a slice of small numbers.
-/
import Derived.Test.YtlbnigdindpnfaaOpen
import Derived.Test.YtlbnigdindpnfaaWaT
namespace Go.Proofs.Ytlbnigdindpnfaa.Op
open Go.ChangeShapes Go.WideShapes Go.ChangeAt Go.RowKit Go.Deep
open Go.Proofs.Ytlbnigdindpnfaa.Mm Go.Proofs.Ytlbnigdindpnfaa.Fl

theorem open_watch {H : Type} {enc : TypeId × Value → H} {W : World} {r : Reach} {b0 : Nat} {x : Value} {y : DataW H} {ms : List MemPlace} (hv : Value.okWide Try.prog W r b0 25 x) (h : DataW.Trod enc Try.prog W 0 (fun _ => true) true 25 x y ms) :
    ∃ (lv e p : Nat) (g : ByteArray) (iv hd nx : Int) (sn : Nat) (lo fa : Bool), x = Wa.wtV lv e p g iv hd nx sn lo fa ∧ lv < 256 ∧ e < 65536 ∧ p < 256 ∧ g.size ≤ maxLen := by
  obtain ⟨cs, n, rfl, hsz, hf⟩ := fields_of Try.underlying25 (by kernel_rfl) (by kernel_rfl) hv h
  obtain ⟨u0, y0, g0, t0⟩ := hf 0 _ rfl
  obtain ⟨u1, y1, g1, t1⟩ := hf 1 _ rfl
  obtain ⟨u2, y2, g2, t2⟩ := hf 2 _ rfl
  obtain ⟨u3, y3, g3, t3⟩ := hf 3 _ rfl
  obtain ⟨u4, y4, g4, t4⟩ := hf 4 _ rfl
  obtain ⟨u5, y5, g5, t5⟩ := hf 5 _ rfl
  obtain ⟨u6, y6, g6, t6⟩ := hf 6 _ rfl
  obtain ⟨u7, y7, g7, t7⟩ := hf 7 _ rfl
  obtain ⟨u8, y8, g8, t8⟩ := hf 8 _ rfl
  obtain ⟨u9, y9, g9, t9⟩ := hf 9 _ rfl
  obtain ⟨a0, rfl, w0⟩ := int_at Try.underlying5 t0
  obtain ⟨a1, rfl, w1⟩ := int_at Try.underlying22 t1
  obtain ⟨a2, rfl, w2⟩ := int_at Try.underlying5 t2
  obtain ⟨a3, rfl, w3⟩ := str_at Try.underlying9 t3
  obtain ⟨a4, rfl, _⟩ := int_at Try.underlying2 t4
  obtain ⟨a5, rfl, _⟩ := int_at Try.underlying2 t5
  obtain ⟨a6, rfl, _⟩ := int_at Try.underlying2 t6
  obtain ⟨a7, rfl, w7⟩ := int_at Try.underlying23 t7
  obtain ⟨a8, rfl⟩ := bool_at Try.underlying4 t8
  obtain ⟨a9, rfl⟩ := bool_at Try.underlying4 t9
  obtain ⟨lv, rfl, hl⟩ := u8_of w0
  obtain ⟨e, rfl, he⟩ := u16_of w1
  obtain ⟨p, rfl, hp⟩ := u8_of w2
  obtain ⟨sn, rfl, _⟩ := u64_of w7
  exact ⟨lv, e, p, a3, a4, a5, a6, sn, a8, a9, congrArg Value.agg (Rw10.arr hsz g0 g1 g2 g3 g4 g5 g6 g7 g8 g9), hl, he, hp, w3⟩

def wactCells (l : List (Nat × Bool × ByteArray)) : List Value := l.flatMap fun p => [.int .u16 (p.1 : Nat), .bool p.2.1, .string p.2.2]
theorem length_wactCells (l : List (Nat × Bool × ByteArray)) : (wactCells l).length = 3 * l.length := by
  unfold wactCells
  induction l with
  | nil => rfl
  | cons p l ih => rw [List.flatMap_cons, List.length_append, ih, List.length_cons]; simp; omega
theorem get_wactCells : ∀ (l : List (Nat × Bool × ByteArray)) (i : Nat) (h : i < l.length), (wactCells l)[i * 3]? = some (.int .u16 (l[i].1 : Nat)) ∧ (wactCells l)[i * 3 + 1]? = some (.bool l[i].2.1) ∧ (wactCells l)[i * 3 + 2]? = some (.string l[i].2.2)
  | [], _, h => by simp at h
  | p :: l, 0, _ => by simp [wactCells]
  | p :: l, i + 1, h => by
    have ih := get_wactCells l i (by simpa using h)
    have e : wactCells (p :: l) = [.int .u16 (p.1 : Nat), .bool p.2.1, .string p.2.2] ++ wactCells l := rfl
    refine ⟨?_, ?_, ?_⟩
    · rw [e, List.getElem?_append_right (by simp; omega)]
      simp only [List.length_cons, List.length_nil, List.getElem_cons_succ]
      rw [show (i + 1) * 3 - (0 + 1 + 1 + 1) = i * 3 by omega]
      exact ih.1
    · rw [e, List.getElem?_append_right (by simp; omega)]
      simp only [List.length_cons, List.length_nil, List.getElem_cons_succ]
      rw [show (i + 1) * 3 + 1 - (0 + 1 + 1 + 1) = i * 3 + 1 by omega]
      exact ih.2.1
    · rw [e, List.getElem?_append_right (by simp; omega)]
      simp only [List.length_cons, List.length_nil, List.getElem_cons_succ]
      rw [show (i + 1) * 3 + 2 - (0 + 1 + 1 + 1) = i * 3 + 2 by omega]
      exact ih.2.2
section
variable {H : Type} {enc : TypeId × Value → H} {P : Program} {W : World}
theorem open_wacts {t e ti tu tb : TypeId} {f0 f1 f2 : Field} {A : Option Addr} {len cap : Nat} {d : DataW H} {p : List MemPlace} (ht : P.underlying t = some (.slice e)) (he : P.underlying e = some (.struct #[f0, f1, f2]))
    (hone : oneCellFields P #[f0, f1, f2] = true) (hC : P.cellsOf e = 3) (e0 : f0.type = ti) (e1 : f1.type = tu) (e2 : f2.type = tb) (hi : P.underlying ti = some (.int .u16)) (hu : P.underlying tu = some .bool) (hbb : P.underlying tb = some .string)
    (h : DataW.Trod enc P W 0 (fun _ => true) true t (.slice A len cap) d p) :
    ∃ ps : List (Nat × Bool × ByteArray), ps.length = len ∧ ps.length ≤ maxLen ∧ Rd W W.heap.size A (wactCells ps) ∧ ∀ q ∈ ps, q.1 < 65536 ∧ q.2.2.size ≤ maxLen := by
  obtain ⟨fuel, hf⟩ := h
  rcases open_slice ht hf with ⟨hcs, _⟩ | ⟨a, len', cap', m, n, D, Pl, hcs, _, hl, hm, hmm, _, hel⟩
  · simp [Value.cells] at hcs
    obtain ⟨rfl, rfl, rfl⟩ := hcs
    exact ⟨[], rfl, by simp [maxLen], Rd.none _ _ _, fun q hq => by cases hq⟩
  · simp [Value.cells] at hcs
    obtain ⟨rfl, rfl, rfl⟩ := hcs
    simp only [if_true] at hmm
    subst hmm
    obtain ⟨ps, hlen, hps⟩ := build_list len (fun i (q : Nat × Bool × ByteArray) => W.cell? (a.add (i * 3)) = some (.int .u16 (q.1 : Nat)) ∧ W.cell? (a.add (i * 3 + 1)) = some (.bool q.2.1) ∧ W.cell? (a.add (i * 3 + 2)) = some (.string q.2.2) ∧ q.1 < 65536 ∧ q.2.2.size ≤ maxLen) (fun i hi' => by
      obtain ⟨cs', hc, ht'⟩ := hel i (by omega)
      rw [hC] at hc
      obtain ⟨ys, n', _, _, _, hys, hfl⟩ := DataW.trod_struct he ht'
      obtain ⟨_, hcl2, hat⟩ := World.cells?_some hc
      obtain ⟨o0, k0⟩ := hone_of hone 0 f0 rfl
      obtain ⟨o1, k1⟩ := hone_of hone 1 f1 rfl
      obtain ⟨o2, k2⟩ := hone_of hone 2 f2 rfl
      match cs', hcl2 with
      | [x0, x1, x2], _ =>
        have g0 := hfl 0 f0 rfl
        have g1 := hfl 1 f1 rfl
        have g2 := hfl 2 f2 rfl
        rw [o0, k0] at g0
        rw [o1, k1] at g1
        rw [o2, k2] at g2
        simp at g0 g1 g2
        match ys, hys with
        | [y0, y1, y2], _ =>
          simp at g0 g1 g2
          rw [e0] at g0
          rw [e1] at g1
          rw [e2] at g2
          obtain ⟨n0, q0, _, w0⟩ := DataW.trod_int hi g0
          obtain ⟨n1, q1, _⟩ := DataW.trod_bool hu g1
          obtain ⟨n2, q2, _, w2⟩ := DataW.trod_string hbb g2
          simp at q0 q1 q2
          subst q0 q1 q2
          obtain ⟨v, rfl, hv⟩ := u16_of w0
          refine ⟨(v, n1, n2), ?_, ?_, ?_, hv, w2⟩
          · have := hat 0 (by omega)
            simpa [Addr.add] using this
          · have := hat 1 (by omega)
            rw [Mm.add_add] at this
            simpa using this
          · have := hat 2 (by omega)
            rw [Mm.add_add] at this
            simpa using this)
    refine ⟨ps, hlen, by omega, fun hn => ?_, fun q hq => ?_⟩
    · rw [length_wactCells] at hn
      have hp0 := hps 0 (by omega)
      refine ⟨a, rfl, ?_, fun j u hu' => ?_⟩
      · have := lt_of_cell hp0.1
        rwa [Mm.block_add] at this
      · have hj : j < 3 * ps.length := by
          have := (List.getElem?_eq_some_iff.1 hu').1
          rwa [length_wactCells] at this
        have hk : j / 3 < ps.length := by omega
        have hg := get_wactCells ps (j / 3) hk
        have hp := hps (j / 3) hk
        have h3 : j % 3 = 0 ∨ j % 3 = 1 ∨ j % 3 = 2 := by omega
        rcases h3 with h0 | h0 | h0
        · have ej : j = j / 3 * 3 := by omega
          rw [ej] at hu' ⊢
          rw [hg.1] at hu'
          rw [← hu']; exact hp.1
        · have ej : j = j / 3 * 3 + 1 := by omega
          rw [ej] at hu' ⊢
          rw [hg.2.1] at hu'
          rw [← hu']; exact hp.2.1
        · have ej : j = j / 3 * 3 + 2 := by omega
          rw [ej] at hu' ⊢
          rw [hg.2.2] at hu'
          rw [← hu']; exact hp.2.2.1
    · obtain ⟨i, hi', rfl⟩ := List.getElem_of_mem hq
      exact (hps i hi').2.2.2
theorem open_u16s {t e : TypeId} {A : Option Addr} {len cap : Nat} {d : DataW H} {p : List MemPlace} (ht : P.underlying t = some (.slice e)) (he : P.underlying e = some (.int .u16)) (hC : P.cellsOf e = 1)
    (h : DataW.Trod enc P W 0 (fun _ => true) true t (.slice A len cap) d p) :
    ∃ zs : List Nat, zs.length = len ∧ zs.length ≤ maxLen ∧ Rd W W.heap.size A (nums .u16 zs) ∧ ∀ z ∈ zs, z < 65536 := by
  obtain ⟨fuel, hf⟩ := h
  rcases open_ints ht he hC hf with ⟨hcs, _⟩ | ⟨x, l, c, zs, hcs, _, hl, hm, hz, _, hcell, hwz⟩
  · simp [Value.cells] at hcs
    obtain ⟨rfl, rfl, rfl⟩ := hcs
    exact ⟨[], rfl, by simp [maxLen], Rd.none _ _ _, fun q hq => by cases hq⟩
  · simp [Value.cells] at hcs
    obtain ⟨rfl, rfl, rfl⟩ := hcs
    have hz' : zs.length = cap := by simpa using hz
    obtain ⟨ns, hn1, hn2⟩ := build_list len (fun i (n : Nat) => zs.getD i 0 = (n : Int) ∧ n < 65536) (fun i hi => by
      have hi' : i < zs.length := by omega
      obtain ⟨n, hn, hn2⟩ := u16_of (hwz _ (List.getElem_mem hi'))
      exact ⟨n, by simp [List.getD_eq_getElem?_getD, hi', hn], hn2⟩)
    refine ⟨ns, hn1, by omega, fun hn => ?_, fun z hq => ?_⟩
    · rw [length_nums, hn1] at hn
      refine ⟨x, rfl, ?_, fun j u hu => ?_⟩
      · have := lt_of_cell (hcell 0 (by omega))
        rwa [Mm.block_add] at this
      · have hj : j < ns.length := by
          have := (List.getElem?_eq_some_iff.1 hu).1
          rwa [length_nums] at this
        rw [hcell j (by omega), ← hu, get_nums _ _ _ hj, (hn2 j hj).1]
        simp [hj]
    · obtain ⟨i, hi', rfl⟩ := List.getElem_of_mem hq
      exact (hn2 i hi').2
end
end Go.Proofs.Ytlbnigdindpnfaa.Op
