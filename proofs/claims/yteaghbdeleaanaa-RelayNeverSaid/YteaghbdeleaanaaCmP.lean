/-
  A Come by value, opened; its cells; out of a slice.
-/
import Derived.Test.YteaghbdeleaanaaCmO
import Derived.Test.YteaghbdeleaanaaTagA
import Derived.Deep.MidRow
namespace Go.Proofs.Yteaghbdeleaanaa.Op
open Go.ChangeShapes Go.WideShapes Go.ChangeAt Go.RowKit Go.Deep
open Go.ChangeMaps (open_string shut_string)
open Go.Proofs.Yteaghbdeleaanaa.Mm Go.Proofs.Yteaghbdeleaanaa.Fl

abbrev Cm := Nat × Int × Bool × Bool × Nat × Nat × Nat × Bool × Nat × Nat × ByteArray × Bool
abbrev cmL (q : Cm) : List Value := [.int .u16 (q.1 : Int), .int .i64 q.2.1, .bool q.2.2.1, .bool q.2.2.2.1, .int .u64 (q.2.2.2.2.1 : Int), .int .u64 (q.2.2.2.2.2.1 : Int), .int .u8 (q.2.2.2.2.2.2.1 : Int), .bool q.2.2.2.2.2.2.2.1, .int .u16 (q.2.2.2.2.2.2.2.2.1 : Int), .int .u16 (q.2.2.2.2.2.2.2.2.2.1 : Int), .string q.2.2.2.2.2.2.2.2.2.2.1, .bool q.2.2.2.2.2.2.2.2.2.2.2]
abbrev cmC (q : Cm) : Array Value := #[.int .u16 (q.1 : Int), .int .i64 q.2.1, .bool q.2.2.1, .bool q.2.2.2.1, .int .u64 (q.2.2.2.2.1 : Int), .int .u64 (q.2.2.2.2.2.1 : Int), .int .u8 (q.2.2.2.2.2.2.1 : Int), .bool q.2.2.2.2.2.2.2.1, .int .u16 (q.2.2.2.2.2.2.2.2.1 : Int), .int .u16 (q.2.2.2.2.2.2.2.2.2.1 : Int), .string q.2.2.2.2.2.2.2.2.2.2.1, .bool q.2.2.2.2.2.2.2.2.2.2.2]
abbrev fcL (q : Cm) : List Value := [.int .u64 (q.2.2.2.2.1 : Int), .int .u64 (q.2.2.2.2.2.1 : Int), .int .u8 (q.2.2.2.2.2.2.1 : Int), .bool q.2.2.2.2.2.2.2.1, .int .u16 (q.2.2.2.2.2.2.2.2.1 : Int), .int .u16 (q.2.2.2.2.2.2.2.2.2.1 : Int), .string q.2.2.2.2.2.2.2.2.2.2.1]
def okM (q : Cm) : Prop := q.1 < 65536 ∧ (-9223372036854775808 ≤ q.2.1 ∧ q.2.1 ≤ 9223372036854775807) ∧ q.2.2.2.2.1 < 18446744073709551616 ∧ q.2.2.2.2.2.1 < 18446744073709551616 ∧ q.2.2.2.2.2.2.1 < 256 ∧ q.2.2.2.2.2.2.2.2.1 < 65536 ∧ q.2.2.2.2.2.2.2.2.2.1 < 65536 ∧ q.2.2.2.2.2.2.2.2.2.2.1.size ≤ maxLen
theorem info_cm (q : Cm) : (Try.prog.info? 29).map (·.size) = some (cmL q).length := by kernel_rfl
theorem info_fc (q : Cm) : (Try.prog.info? 27).map (·.size) = some (fcL q).length := by kernel_rfl
theorem get_cm : ∀ (l : List Cm) (i j : Nat) (h : i < l.length) (v : Value), (cmL l[i])[j]? = some v → (comesCells l)[i * 12 + j]? = some v
  | [], _, _, h, _, _ => by simp at h
  | q :: l, 0, j, _, v, hv => by
    have e : comesCells (q :: l) = cmL q ++ comesCells l := rfl
    have hj : j < 12 := (List.getElem?_eq_some_iff.1 hv).1
    rw [e, Nat.zero_mul, Nat.zero_add, List.getElem?_append_left (show j < (cmL q).length from hj)]
    exact hv
  | q :: l, i + 1, j, h, v, hv => by
    have e : comesCells (q :: l) = cmL q ++ comesCells l := rfl
    have ih := get_cm l i j (by simpa using h) v (by simpa using hv)
    rw [e, List.getElem?_append_right (show (cmL q).length ≤ (i + 1) * 12 + j by show 12 ≤ _; omega)]
    rw [show (i + 1) * 12 + j - (cmL q).length = i * 12 + j by show (i + 1) * 12 + j - 12 = _; omega]
    exact ih
/-- a Come out of a slice: all its cells at its address -/
theorem rd_come {w : World} {B : Nat} {A : Option Addr} {l : List Cm} (h : Rd w B A (comesCells l)) {i : Nat} (hi : i < l.length) :
    ∃ ad : Addr, A = some ad ∧ ad.block < B ∧ ∀ j v, (cmL l[i])[j]? = some v → w.cell? ((ad.add (i * 12)).add j) = some v := by
  obtain ⟨ad, e1, e2, e3⟩ := h (by rw [length_comesCells]; omega)
  refine ⟨ad, e1, e2, fun j v hv => ?_⟩
  rw [Mm.add_add]
  exact e3 _ _ (get_cm l i j hi v hv)
/-- a whole struct at any address is read -/
theorem run_loadVar_any {P : Program} (w : World) (a : Addr) (ty : TypeId) (cs : List Value) (d : TypeDesc) (hc : ∀ j v, cs[j]? = some v → w.cell? (a.add j) = some v)
    (hu : P.underlying ty = some d) (hd : d.isRow = true) (hi : (P.info? ty).map (·.size) = some cs.length) :
    (loadVar ty a).run P w = .ok (.agg cs.toArray) w := by
  have hl : (loadCells a cs.length).run P w = .ok cs.toArray w := run_loadCells_list (P := P) w a cs hc
  cases hq : P.info? ty with
  | none => simp [hq] at hi
  | some i =>
    have hs : i.size = cs.length := by simpa [hq] using hi
    have hagg : (isAgg ty).run P w = .ok true w := by
      unfold isAgg
      rw [Sem.run_bind, run_underlying hu w]
      cases d <;> simp_all
    simp [loadVar, Sem.run_bind, hagg, sizeOf, typeInfo, hq, hs, hl]
theorem wpList_load_any {P : Program} {ops : Array Oper} {rest : List Oper} {op : Oper} {a : Act} {w : World} {Q : Exit → Act → World → Prop} (hgd : op.guard = none) (ty : TypeId) (x : Operand) (ho : op.op = .load ty x)
    (ad : Addr) (hx : a.eval x = .pointer (some ad)) (cs : List Value) (d : TypeDesc) (hc : ∀ j v, cs[j]? = some v → w.cell? (ad.add j) = some v)
    (hu : P.underlying ty = some d) (hd : d.isRow = true) (hi : (P.info? ty).map (·.size) = some cs.length)
    (h : wpList P ops Q rest (a.put op.dst (.agg cs.toArray)) w) : wpList P ops Q (op :: rest) a w :=
  wpList_plain hgd fun _ hK => by
    unfold Oper.wp execOp
    simp only [ho, hx, Instr.loadAt, Instr.sureAddr, Sem.run_bind, Sem.run_pure, Result.andThen_ok, run_loadVar_any w ad ty cs d hc hu hd hi]
    exact hK _ _ h
/-- the frame in a Come -/
theorem range_fc {w : World} {x : Nat} {q : Cm} {t : TypeId} (h : Blk w x t (cmC q)) : w.rangeAt x 4 (fcL q) := World.rangeAt_of_block h 4 7
section
variable {H : Type} {enc : TypeId × Value → H} {P : Program} {W : World}
theorem open_come {e t0 t1 t2 t3 t4 t5 t6 t7 t8 t9 t10 t11 : TypeId} {f0 f1 f2 f3 f4 f5 f6 f7 f8 f9 f10 f11 fN : Field} {r : Reach} {bb : Nat} {v : Value} {d : DataW H} {p : List MemPlace} (he : P.underlying e = some (.struct #[f0, f1, f2, f3, fN, f11])) (hN : P.underlying fN.type = some (.struct #[f4, f5, f6, f7, f8, f9, f10]))
    (hone : oneCellFields P #[f4, f5, f6, f7, f8, f9, f10] = true) (hC : P.cellsOf e = 12) (o0 : f0.offset = 0) (k0 : P.cellsOf f0.type = 1) (o1 : f1.offset = 1) (k1 : P.cellsOf f1.type = 1) (o2 : f2.offset = 2) (k2 : P.cellsOf f2.type = 1) (o3 : f3.offset = 3) (k3 : P.cellsOf f3.type = 1) (o11 : f11.offset = 11) (k11 : P.cellsOf f11.type = 1) (oN : fN.offset = 4) (kN : P.cellsOf fN.type = 7) (e0 : f0.type = t0) (e1 : f1.type = t1) (e2 : f2.type = t2) (e3 : f3.type = t3) (e4 : f4.type = t4) (e5 : f5.type = t5) (e6 : f6.type = t6) (e7 : f7.type = t7) (e8 : f8.type = t8) (e9 : f9.type = t9) (e10 : f10.type = t10) (e11 : f11.type = t11) (u0 : P.underlying t0 = some (.int .u16)) (u1 : P.underlying t1 = some (.int .i64)) (u2 : P.underlying t2 = some .bool) (u3 : P.underlying t3 = some .bool) (u4 : P.underlying t4 = some (.int .u64)) (u5 : P.underlying t5 = some (.int .u64)) (u6 : P.underlying t6 = some (.int .u8)) (u7 : P.underlying t7 = some .bool) (u8 : P.underlying t8 = some (.int .u16)) (u9 : P.underlying t9 = some (.int .u16)) (u10 : P.underlying t10 = some .string) (u11 : P.underlying t11 = some .bool)
    (hv : Value.okWide P W r bb e v) (h : DataW.Trod enc P W 0 (fun _ => true) true e v d p) :
    ∃ q : Cm, v = .agg (cmC q) ∧ okM q := by
  obtain ⟨cs, rfl, hsz⟩ := okWide_struct he hv
  obtain ⟨fuel, hf⟩ := h
  obtain ⟨ys, n', _, _, _, hys, hfl⟩ := DataW.trod_struct he hf
  obtain ⟨cs'⟩ := cs
  have hcl2 : cs'.length = 12 := hsz.trans hC
  change ∀ (i : Nat) (f : Field), _ → DataW.trod enc P W 0 (fun _ => true) true n' f.type ((cs'.drop f.offset).take (P.cellsOf f.type)) = _ at hfl
  obtain ⟨o4, k4⟩ := hone_of hone 0 f4 rfl
  obtain ⟨o5, k5⟩ := hone_of hone 1 f5 rfl
  obtain ⟨o6, k6⟩ := hone_of hone 2 f6 rfl
  obtain ⟨o7, k7⟩ := hone_of hone 3 f7 rfl
  obtain ⟨o8, k8⟩ := hone_of hone 4 f8 rfl
  obtain ⟨o9, k9⟩ := hone_of hone 5 f9 rfl
  obtain ⟨o10, k10⟩ := hone_of hone 6 f10 rfl
  match cs', hcl2 with
  | [x0, x1, x2, x3, x4, x5, x6, x7, x8, x9, x10, x11], _ =>
    have g0 := hfl 0 f0 rfl
    rw [o0, k0] at g0
    have g1 := hfl 1 f1 rfl
    rw [o1, k1] at g1
    have g2 := hfl 2 f2 rfl
    rw [o2, k2] at g2
    have g3 := hfl 3 f3 rfl
    rw [o3, k3] at g3
    have gN := hfl 4 fN rfl
    rw [oN, kN] at gN
    have g11 := hfl 5 f11 rfl
    rw [o11, k11] at g11
    simp at gN g0 g1 g2 g3 g11
    match ys, hys with
    | [y0, y1, y2, y3, yN, y11], _ =>
      simp at gN g0 g1 g2 g3 g11
      obtain ⟨zs, n'', _, _, _, hzs, hgl⟩ := DataW.trod_struct hN gN
      have g4 := hgl 0 f4 rfl
      rw [o4, k4] at g4
      have g5 := hgl 1 f5 rfl
      rw [o5, k5] at g5
      have g6 := hgl 2 f6 rfl
      rw [o6, k6] at g6
      have g7 := hgl 3 f7 rfl
      rw [o7, k7] at g7
      have g8 := hgl 4 f8 rfl
      rw [o8, k8] at g8
      have g9 := hgl 5 f9 rfl
      rw [o9, k9] at g9
      have g10 := hgl 6 f10 rfl
      rw [o10, k10] at g10
      simp at g4 g5 g6 g7 g8 g9 g10
      match zs, hzs with
      | [y4, y5, y6, y7, y8, y9, y10], _ =>
        simp at g4 g5 g6 g7 g8 g9 g10
        rw [e0] at g0
        obtain ⟨n0, q0, _, w0⟩ := DataW.trod_int u0 g0
        simp at q0
        subst q0
        have b0 : 0 ≤ n0 ∧ n0 ≤ 65535 := by simpa [Lit.wf, IntKind.min, IntKind.max, IntKind.signed, IntKind.bits] using w0
        obtain ⟨v0, rfl⟩ := Int.eq_ofNat_of_zero_le b0.1
        rw [e1] at g1
        obtain ⟨n1, q1, _, w1⟩ := DataW.trod_int u1 g1
        simp at q1
        subst q1
        have b1 : -9223372036854775808 ≤ n1 ∧ n1 ≤ 9223372036854775807 := by simpa [Lit.wf, IntKind.min, IntKind.max, IntKind.signed, IntKind.bits] using w1
        rw [e2] at g2
        obtain ⟨n2, q2, _⟩ := DataW.trod_bool u2 g2
        simp at q2
        subst q2
        rw [e3] at g3
        obtain ⟨n3, q3, _⟩ := DataW.trod_bool u3 g3
        simp at q3
        subst q3
        rw [e4] at g4
        obtain ⟨n4, q4, _, w4⟩ := DataW.trod_int u4 g4
        simp at q4
        subst q4
        have b4 : 0 ≤ n4 ∧ n4 ≤ 18446744073709551615 := by simpa [Lit.wf, IntKind.min, IntKind.max, IntKind.signed, IntKind.bits] using w4
        obtain ⟨v4, rfl⟩ := Int.eq_ofNat_of_zero_le b4.1
        rw [e5] at g5
        obtain ⟨n5, q5, _, w5⟩ := DataW.trod_int u5 g5
        simp at q5
        subst q5
        have b5 : 0 ≤ n5 ∧ n5 ≤ 18446744073709551615 := by simpa [Lit.wf, IntKind.min, IntKind.max, IntKind.signed, IntKind.bits] using w5
        obtain ⟨v5, rfl⟩ := Int.eq_ofNat_of_zero_le b5.1
        rw [e6] at g6
        obtain ⟨n6, q6, _, w6⟩ := DataW.trod_int u6 g6
        simp at q6
        subst q6
        have b6 : 0 ≤ n6 ∧ n6 ≤ 255 := by simpa [Lit.wf, IntKind.min, IntKind.max, IntKind.signed, IntKind.bits] using w6
        obtain ⟨v6, rfl⟩ := Int.eq_ofNat_of_zero_le b6.1
        rw [e7] at g7
        obtain ⟨n7, q7, _⟩ := DataW.trod_bool u7 g7
        simp at q7
        subst q7
        rw [e8] at g8
        obtain ⟨n8, q8, _, w8⟩ := DataW.trod_int u8 g8
        simp at q8
        subst q8
        have b8 : 0 ≤ n8 ∧ n8 ≤ 65535 := by simpa [Lit.wf, IntKind.min, IntKind.max, IntKind.signed, IntKind.bits] using w8
        obtain ⟨v8, rfl⟩ := Int.eq_ofNat_of_zero_le b8.1
        rw [e9] at g9
        obtain ⟨n9, q9, _, w9⟩ := DataW.trod_int u9 g9
        simp at q9
        subst q9
        have b9 : 0 ≤ n9 ∧ n9 ≤ 65535 := by simpa [Lit.wf, IntKind.min, IntKind.max, IntKind.signed, IntKind.bits] using w9
        obtain ⟨v9, rfl⟩ := Int.eq_ofNat_of_zero_le b9.1
        rw [e10] at g10
        obtain ⟨n10, q10, _, w10⟩ := DataW.trod_string u10 g10
        simp at q10
        subst q10
        rw [e11] at g11
        obtain ⟨n11, q11, _⟩ := DataW.trod_bool u11 g11
        simp at q11
        subst q11
        exact ⟨(v0, n1, n2, n3, v4, v5, v6, n7, v8, v9, n10, n11), rfl, by simp only; omega, b1, by simp only; omega, by simp only; omega, by simp only; omega, by simp only; omega, by simp only; omega, w10⟩
end
end Go.Proofs.Yteaghbdeleaanaa.Op
