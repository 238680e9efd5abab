/-
  An argument that is a line's message, by value: opened field by field.
-/
import Derived.Test.YtnapbmdkaldncaaOpen
import Derived.Test.YtnapbmdkaldncaaCmA
namespace Go.Proofs.Ytnapbmdkaldncaa.Op
open Go.ChangeShapes Go.WideShapes Go.ChangeAt Go.RowKit Go.Deep
open Go.Proofs.Ytnapbmdkaldncaa.Mm Go.Proofs.Ytnapbmdkaldncaa.Fl

theorem u32_of {a : Int} (h : (Lit.int .u32 a).wf = true) : ∃ n : Nat, a = n ∧ n < 4294967296 := by
  have b : 0 ≤ a ∧ a ≤ 4294967295 := by simpa [Lit.wf, IntKind.min, IntKind.max, IntKind.signed, IntKind.bits] using h
  obtain ⟨n, rfl⟩ := Int.eq_ofNat_of_zero_le b.1
  exact ⟨n, rfl, by omega⟩
theorem open_cmsg {H : Type} {enc : TypeId × Value → H} {W : World} {r : Reach} {b0 : Nat} {x : Value} {y : DataW H} {ms : List MemPlace} (hv : Value.okWide Try.prog W r b0 46 x) (h : DataW.Trod enc Try.prog W 0 (fun _ => true) true 46 x y ms) :
    ∃ (b : Bool) (p c e : Nat) (g : ByteArray), x = Cc.cmV b p c e g ∧ p < 256 ∧ c < 4294967296 ∧ e < 65536 ∧ g.size ≤ maxLen := by
  obtain ⟨cs, n, rfl, hsz, hf⟩ := fields_of Try.underlying46 (by kernel_rfl) (by kernel_rfl) hv h
  obtain ⟨u0, y0, g0, t0⟩ := hf 0 _ rfl
  obtain ⟨u1, y1, g1, t1⟩ := hf 1 _ rfl
  obtain ⟨u2, y2, g2, t2⟩ := hf 2 _ rfl
  obtain ⟨u3, y3, g3, t3⟩ := hf 3 _ rfl
  obtain ⟨u4, y4, g4, t4⟩ := hf 4 _ rfl
  obtain ⟨a0, rfl⟩ := bool_at Try.underlying4 t0
  obtain ⟨a1, rfl, w1⟩ := int_at Try.underlying5 t1
  obtain ⟨a2, rfl, w2⟩ := int_at Try.underlying43 t2
  obtain ⟨a3, rfl, w3⟩ := int_at Try.underlying44 t3
  obtain ⟨a4, rfl, w4⟩ := str_at Try.underlying9 t4
  obtain ⟨p, rfl, hp⟩ := u8_of w1
  obtain ⟨c, rfl, hc⟩ := u32_of w2
  obtain ⟨e, rfl, he⟩ := u16_of w3
  exact ⟨a0, p, c, e, a4, congrArg Value.agg (Rw5.arr hsz g0 g1 g2 g3 g4), hp, hc, he, w4⟩
end Go.Proofs.Ytnapbmdkaldncaa.Op
