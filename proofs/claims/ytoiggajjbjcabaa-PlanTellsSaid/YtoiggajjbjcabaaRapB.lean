/-
  The document's Close of a ring's message.
  Contract of raps' Open.
  Contract of raps' Open: behind the head.
-/
import Derived.Test.YtoiggajjbjcabaaRapA
import Derived.Test.YtoiggajjbjcabaaRgK
import Derived.Test.YtoiggajjbjcabaaOamB
namespace Go.Proofs.Ytoiggajjbjcabaa.Rp
open Go.RowKit Go.Proofs.Ytoiggajjbjcabaa.Bt Go.Proofs.Ytoiggajjbjcabaa.Mm Go.Proofs.Ytoiggajjbjcabaa.Fl Go.Proofs.Ytoiggajjbjcabaa.Lw Go.Proofs.Ytoiggajjbjcabaa.Hx Go.Proofs.Ytoiggajjbjcabaa.Mc Go.Proofs.Ytoiggajjbjcabaa.Tg Go.Proofs.Ytoiggajjbjcabaa.Oa

/-- a message's cells in a block -/
def Sm (g q : Nat) (b k e : Bool) (n : Nat) (w : World) : Prop :=
  g < w.heap.size ∧ w.cell? ⟨g, 0, none⟩ = some (.int .u8 (q : Int)) ∧ w.cell? ⟨g, 1, none⟩ = some (.bool b) ∧ w.cell? ⟨g, 2, none⟩ = some (.bool k) ∧ w.cell? ⟨g, 3, none⟩ = some (.bool e) ∧ w.cell? ⟨g, 4, none⟩ = some (.int .u64 (n : Int))
theorem sm_keeps (g q : Nat) (b k e : Bool) (n : Nat) : Rg.Keeps (Sm g q b k e n) := fun _ _ hs hb => Rw5.keep hb hs
end Go.Proofs.Ytoiggajjbjcabaa.Rp
namespace Go.Proofs.Ytoiggajjbjcabaa.Rp
open Go.RowKit Go.Proofs.Ytoiggajjbjcabaa.Bt Go.Proofs.Ytoiggajjbjcabaa.Mm Go.Proofs.Ytoiggajjbjcabaa.Fl Go.Proofs.Ytoiggajjbjcabaa.Lw Go.Proofs.Ytoiggajjbjcabaa.Hx Go.Proofs.Ytoiggajjbjcabaa.Mc Go.Proofs.Ytoiggajjbjcabaa.Tg Go.Proofs.Ytoiggajjbjcabaa.Oa

abbrev widthsM : List Int := [4, 4, 1, 1, 1, 5, 48]
theorem split_msg (c : ByteArray) (h : c.size = 32) : splitR c widthsM = ([byteAt c.data.toList 0 / 16, byteAt c.data.toList 0 % 16, byteAt c.data.toList 1 / 128, byteAt c.data.toList 1 / 64 % 2, byteAt c.data.toList 1 / 32 % 2, byteAt c.data.toList 1 % 32, getN c.data.toList 2 6], c.extract 8 c.size, 0) := by
  have e1 : widthsM.all okW = true := by decide
  have e2 : tot widthsM = 64 := by decide
  have ev : valsOf c widthsM = [getB c 0 4, getB c 4 4, getB c 8 1, getB c 9 1, getB c 10 1, getB c 11 5, getB c 16 48] := rfl
  have j0 := getB_join c 0 4 4 (by omega)
  have j1 := getB_join c 8 1 7 (by omega)
  have j2 := getB_join c 9 1 6 (by omega)
  have j3 := getB_join c 10 1 5 (by omega)
  have b0 := byte_get c 0 (by omega)
  have b1 := byte_get c 1 (by omega)
  have g := getB_getN c 2 6
  have l0 := getB_lt c 4 4
  have l1 := getB_lt c 9 1
  have l2 := getB_lt c 10 1
  have l3 := getB_lt c 11 5
  simp only [Nat.reduceAdd, Nat.reduceMul, Nat.reducePow, Nat.zero_add, Nat.mul_zero, Nat.mul_one] at j0 j1 j2 j3 b0 b1 g l0 l1 l2 l3
  have p0 : getB c 0 4 = byteAt c.data.toList 0 / 16 := by omega
  have p1 : getB c 4 4 = byteAt c.data.toList 0 % 16 := by omega
  have p2 : getB c 8 1 = byteAt c.data.toList 1 / 128 := by omega
  have p3 : getB c 9 1 = byteAt c.data.toList 1 / 64 % 2 := by omega
  have p4 : getB c 10 1 = byteAt c.data.toList 1 / 32 % 2 := by omega
  have p5 : getB c 11 5 = byteAt c.data.toList 1 % 32 := by omega
  unfold splitR
  rw [if_pos e1, e2, if_pos (by decide), if_pos (by omega), ev, p0, p1, p2, p3, p4, p5, g]
abbrev zeroMC : Array Value := #[.int .u8 0, .bool false, .bool false, .bool false, .int .u64 0]
abbrev zeroMV : Value := .agg zeroMC

end Go.Proofs.Ytoiggajjbjcabaa.Rp
namespace Go.Proofs.Ytoiggajjbjcabaa.Rp
open Go.RowKit Go.Proofs.Ytoiggajjbjcabaa.Bt Go.Proofs.Ytoiggajjbjcabaa.Mm Go.Proofs.Ytoiggajjbjcabaa.Fl Go.Proofs.Ytoiggajjbjcabaa.Lw Go.Proofs.Ytoiggajjbjcabaa.Hx Go.Proofs.Ytoiggajjbjcabaa.Mc Go.Proofs.Ytoiggajjbjcabaa.Tg Go.Proofs.Ytoiggajjbjcabaa.Oa

end Go.Proofs.Ytoiggajjbjcabaa.Rp
