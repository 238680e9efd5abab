/-
  An argument that is a head, by value: opened field by field.
-/
import Derived.Test.YtflofehnclaffaaOpen
import Derived.Test.YtflofehnclaffaaOam2
namespace Go.Proofs.Ytflofehnclaffaa.Op
open Go.ChangeShapes Go.WideShapes Go.ChangeAt Go.RowKit Go.Deep
open Go.Proofs.Ytflofehnclaffaa.Mm Go.Proofs.Ytflofehnclaffaa.Fl

theorem open_head {H : Type} {enc : TypeId × Value → H} {W : World} {r : Reach} {b0 : Nat} {x : Value} {y : DataW H} {ms : List MemPlace} (hv : Value.okWide Try.prog W r b0 23 x) (h : DataW.Trod enc Try.prog W 0 (fun _ => true) true 23 x y ms) :
    ∃ (l v c f o : Nat), x = Oa.hdV l v c f o ∧ l < 256 ∧ v < 256 ∧ c < 256 ∧ f < 256 ∧ o < 256 := by
  obtain ⟨cs, n, rfl, hsz, hf⟩ := fields_of Try.underlying23 (by kernel_rfl) (by kernel_rfl) hv h
  obtain ⟨u0, y0, g0, t0⟩ := hf 0 _ rfl
  obtain ⟨u1, y1, g1, t1⟩ := hf 1 _ rfl
  obtain ⟨u2, y2, g2, t2⟩ := hf 2 _ rfl
  obtain ⟨u3, y3, g3, t3⟩ := hf 3 _ rfl
  obtain ⟨u4, y4, g4, t4⟩ := hf 4 _ rfl
  obtain ⟨a0, rfl, w0⟩ := int_at Try.underlying5 t0
  obtain ⟨a1, rfl, w1⟩ := int_at Try.underlying5 t1
  obtain ⟨a2, rfl, w2⟩ := int_at Try.underlying5 t2
  obtain ⟨a3, rfl, w3⟩ := int_at Try.underlying5 t3
  obtain ⟨a4, rfl, w4⟩ := int_at Try.underlying5 t4
  obtain ⟨l, rfl, hl⟩ := u8_of w0
  obtain ⟨v, rfl, hv'⟩ := u8_of w1
  obtain ⟨c, rfl, hc⟩ := u8_of w2
  obtain ⟨f, rfl, hf'⟩ := u8_of w3
  obtain ⟨o, rfl, ho⟩ := u8_of w4
  exact ⟨l, v, c, f, o, congrArg Value.agg (Rw5.arr hsz g0 g1 g2 g3 g4), hl, hv', hc, hf', ho⟩
end Go.Proofs.Ytflofehnclaffaa.Op
