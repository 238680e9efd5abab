/-
  An argument that is a plan, by value: opened field by field.
-/
import Derived.Test.YtoiggajjbjcabaaOpen
import Derived.Test.YtoiggajjbjcabaaPlD
namespace Go.Proofs.Ytoiggajjbjcabaa.Op
open Go.ChangeShapes Go.WideShapes Go.ChangeAt Go.RowKit Go.Deep
open Go.Proofs.Ytoiggajjbjcabaa.Mm Go.Proofs.Ytoiggajjbjcabaa.Fl

theorem open_plan {H : Type} {enc : TypeId × Value → H} {W : World} {r : Reach} {b0 : Nat} {x : Value} {y : DataW H} {ms : List MemPlace} (hv : Value.okWide Try.prog W r b0 24 x) (h : DataW.Trod enc Try.prog W 0 (fun _ => true) true 24 x y ms) :
    ∃ p : Pn.Pl, x = Pn.plV p ∧ Pn.Pw p := by
  obtain ⟨cs, n, rfl, hsz, hf⟩ := fields_of Try.underlying24 (by kernel_rfl) (by kernel_rfl) hv h
  obtain ⟨u0, y0, g0, t0⟩ := hf 0 _ rfl
  obtain ⟨u1, y1, g1, t1⟩ := hf 1 _ rfl
  obtain ⟨u2, y2, g2, t2⟩ := hf 2 _ rfl
  obtain ⟨u3, y3, g3, t3⟩ := hf 3 _ rfl
  obtain ⟨u4, y4, g4, t4⟩ := hf 4 _ rfl
  obtain ⟨u5, y5, g5, t5⟩ := hf 5 _ rfl
  obtain ⟨u6, y6, g6, t6⟩ := hf 6 _ rfl
  obtain ⟨u7, y7, g7, t7⟩ := hf 7 _ rfl
  obtain ⟨u8, y8, g8, t8⟩ := hf 8 _ rfl
  obtain ⟨u9, y9, g9, t9⟩ := hf 9 _ rfl
  obtain ⟨u10, y10, g10, t10⟩ := hf 10 _ rfl
  obtain ⟨u11, y11, g11, t11⟩ := hf 11 _ rfl
  obtain ⟨u12, y12, g12, t12⟩ := hf 12 _ rfl
  obtain ⟨u13, y13, g13, t13⟩ := hf 13 _ rfl
  obtain ⟨u14, y14, g14, t14⟩ := hf 14 _ rfl
  obtain ⟨u15, y15, g15, t15⟩ := hf 15 _ rfl
  obtain ⟨a0, rfl, w0⟩ := int_at Try.underlying3 t0
  obtain ⟨a1, rfl, w1⟩ := int_at Try.underlying3 t1
  obtain ⟨a2, rfl, w2⟩ := int_at Try.underlying5 t2
  obtain ⟨b2, rfl, -⟩ := u8_of w2
  obtain ⟨a3, rfl, w3⟩ := int_at Try.underlying22 t3
  obtain ⟨b3, rfl, -⟩ := u16_of w3
  obtain ⟨a4, rfl, w4⟩ := int_at Try.underlying22 t4
  obtain ⟨b4, rfl, -⟩ := u16_of w4
  obtain ⟨a5, rfl, w5⟩ := int_at Try.underlying2 t5
  obtain ⟨a6, rfl, w6⟩ := int_at Try.underlying2 t6
  obtain ⟨a7, rfl, w7⟩ := int_at Try.underlying2 t7
  obtain ⟨a8, rfl, w8⟩ := int_at Try.underlying2 t8
  obtain ⟨a9, rfl, w9⟩ := int_at Try.underlying2 t9
  obtain ⟨a10, rfl, w10⟩ := int_at Try.underlying2 t10
  obtain ⟨a11, rfl, w11⟩ := int_at Try.underlying2 t11
  obtain ⟨a12, rfl, w12⟩ := int_at Try.underlying2 t12
  obtain ⟨a13, rfl, w13⟩ := int_at Try.underlying3 t13
  obtain ⟨a14, rfl, w14⟩ := int_at Try.underlying3 t14
  obtain ⟨a15, rfl⟩ := bool_at Try.underlying4 t15
  refine ⟨⟨a0, a1, b2, b3, b4, a5, a6, a7, a8, a9, a10, a11, a12, a13, a14, a15⟩, congrArg Value.agg (Rw16.arr hsz g0 g1 g2 g3 g4 g5 g6 g7 g8 g9 g10 g11 g12 g13 g14 g15), ?_⟩
  have h6 : IntKind.i64.min ≤ a6 ∧ a6 ≤ IntKind.i64.max := by simpa [Lit.wf] using w6
  have e1 : IntKind.i64.min = -9223372036854775808 := by decide
  have e2 : IntKind.i64.max = 9223372036854775807 := by decide
  rw [e1, e2] at h6
  exact h6
end Go.Proofs.Ytoiggajjbjcabaa.Op
