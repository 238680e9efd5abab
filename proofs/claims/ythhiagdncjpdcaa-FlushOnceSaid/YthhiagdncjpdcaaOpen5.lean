/-
  An argument that is a ring's message, by value: opened field by field.
-/
import Derived.Test.YthhiagdncjpdcaaOpen
import Derived.Test.YthhiagdncjpdcaaRapA
namespace Go.Proofs.Ythhiagdncjpdcaa.Op
open Go.ChangeShapes Go.WideShapes Go.ChangeAt Go.RowKit Go.Deep
open Go.Proofs.Ythhiagdncjpdcaa.Mm Go.Proofs.Ythhiagdncjpdcaa.Fl

theorem open_rmsg {H : Type} {enc : TypeId × Value → H} {W : World} {r : Reach} {b0 : Nat} {x : Value} {y : DataW H} {ms : List MemPlace} (hv : Value.okWide Try.prog W r b0 35 x) (h : DataW.Trod enc Try.prog W 0 (fun _ => true) true 35 x y ms) :
    ∃ (q : Nat) (b k e : Bool) (n : Nat), x = Rp.msV q b k e n ∧ q < 256 ∧ n < 18446744073709551616 := by
  obtain ⟨cs, n, rfl, hsz, hf⟩ := fields_of Try.underlying35 (by kernel_rfl) (by kernel_rfl) hv h
  obtain ⟨u0, y0, g0, t0⟩ := hf 0 _ rfl
  obtain ⟨u1, y1, g1, t1⟩ := hf 1 _ rfl
  obtain ⟨u2, y2, g2, t2⟩ := hf 2 _ rfl
  obtain ⟨u3, y3, g3, t3⟩ := hf 3 _ rfl
  obtain ⟨u4, y4, g4, t4⟩ := hf 4 _ rfl
  obtain ⟨a0, rfl, w0⟩ := int_at Try.underlying33 t0
  obtain ⟨a1, rfl⟩ := bool_at Try.underlying4 t1
  obtain ⟨a2, rfl⟩ := bool_at Try.underlying4 t2
  obtain ⟨a3, rfl⟩ := bool_at Try.underlying4 t3
  obtain ⟨a4, rfl, w4⟩ := int_at Try.underlying25 t4
  obtain ⟨q, rfl, hq⟩ := u8_of w0
  obtain ⟨m, rfl, hm⟩ := u64_of w4
  exact ⟨q, a1, a2, a3, m, congrArg Value.agg (Rw5.arr hsz g0 g1 g2 g3 g4), hq, hm⟩
end Go.Proofs.Ythhiagdncjpdcaa.Op
