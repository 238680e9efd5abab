/-
  Contract of raps' Open: behind the head.
-/
import Derived.Test.YtoiggajjbjcabaaRapB
namespace Go.Proofs.Ytoiggajjbjcabaa.Rp
open Go.RowKit Go.Proofs.Ytoiggajjbjcabaa.Bt Go.Proofs.Ytoiggajjbjcabaa.Mm Go.Proofs.Ytoiggajjbjcabaa.Fl Go.Proofs.Ytoiggajjbjcabaa.Lw Go.Proofs.Ytoiggajjbjcabaa.Hx Go.Proofs.Ytoiggajjbjcabaa.Mc Go.Proofs.Ytoiggajjbjcabaa.Tg Go.Proofs.Ytoiggajjbjcabaa.Oa

theorem msgOf_bits (l : List UInt8) : (((byteAt l 1 / 128 : Nat) : Int) == 1) = decide (128 ≤ byteAt l 1) ∧ (((byteAt l 1 / 64 % 2 : Nat) : Int) == 1) = (byteAt l 1 / 64 % 2 == 1) ∧ (((byteAt l 1 / 32 % 2 : Nat) : Int) == 1) = (byteAt l 1 / 32 % 2 == 1) := by
  have h := byte_lt l 1
  refine ⟨?_, ?_, ?_⟩
  · rw [Bool.eq_iff_iff]; simp; omega
  · rw [Bool.eq_iff_iff]; simp; omega
  · rw [Bool.eq_iff_iff]; simp; omega
theorem zeros_iff (l : List UInt8) (n : Nat) (h : l.length = n) : zeros l = true ↔ l = noughts n := by
  unfold zeros noughts
  rw [List.all_eq_true, List.eq_replicate_iff]
  simp [h]
abbrev valM (m : Ms) : Value := msV m.req m.block m.keep m.east m.node
theorem openO_size {s : List UInt8} {h : Hd} {c : List UInt8} (ho : openO s = (h, c, 0)) : c.length = h.offset := by
  unfold openO at ho
  split at ho
  · simp at ho
  rename_i h1
  split at ho
  · simp at ho
  simp only [Prod.mk.injEq] at ho
  obtain ⟨rfl, rfl, _⟩ := ho
  rw [List.length_take, List.length_drop]
  have : (headOf s).offset = byteAt s 3 := rfl
  omega
end Go.Proofs.Ytoiggajjbjcabaa.Rp
