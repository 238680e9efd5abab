/-
  ccm's Open answers openC. Contract of the document's Open of a line's message.
  ccm's Open answers openC. Contract of the document's Open of a line's message.
-/
import Derived.Test.YtoiggajjbjcabaaCcmC
import Derived.Test.YtoiggajjbjcabaaRapC
namespace Go.Proofs.Ytoiggajjbjcabaa.Cc
open Go.RowKit Go.Proofs.Ytoiggajjbjcabaa.Bt Go.Proofs.Ytoiggajjbjcabaa.Mm Go.Proofs.Ytoiggajjbjcabaa.Fl Go.Proofs.Ytoiggajjbjcabaa.Lw Go.Proofs.Ytoiggajjbjcabaa.Hx Go.Proofs.Ytoiggajjbjcabaa.Mc Go.Proofs.Ytoiggajjbjcabaa.Tg Go.Proofs.Ytoiggajjbjcabaa.Oa Go.Proofs.Ytoiggajjbjcabaa.Rp
set_option linter.unusedSimpArgs false
set_option linter.unusedVariables false

abbrev valC (m : Cm) : Value := cmV m.lost m.period m.count m.fin ⟨m.group.toArray⟩
theorem flag_bit {f : Nat} (h : f < 256) : (((f / 128 : Nat) : Int) == 1) = decide (128 ≤ f) := by
  rw [Bool.eq_iff_iff]; simp; omega
theorem byteAt_one {f : Nat} (h : f < 256) : byteAt [UInt8.ofNat f] 0 = f := ofNat_toNat _ h
theorem name_full (l : List UInt8) (h : 48 ≤ l.length) : nameC l = l.take 48 := by
  unfold nameC noughts
  rw [show 48 - l.length = 0 by omega]
  simp
/-- what is known of a message that was read -/
theorem read_facts {s : List UInt8} {l v c f o lv : Nat} {cs : List UInt8} (ho : openO s = (⟨l, v, c, f, o⟩, cs, 0)) (hi : isO ⟨l, v, c, f, o⟩ lv 0 1 70 = 0) : lv ≤ 7 ∧ f < 256 ∧ cs.length = 70 := by
  have h1 := isO_zero hi
  have h2 := openO_size ho
  have h3 := openO_small (s := s) (by rw [ho])
  rw [ho] at h3
  have e1 : l = byteAt s 0 / 32 := congrArg Hd.level h3
  have e2 : f = byteAt s 2 := congrArg Hd.flags h3
  have b0 := byte_lt s 0
  have b2 := byte_lt s 2
  simp only at h1 h2
  omega
theorem wrong_read {lv f e : Nat} {b : Bool} {c : Nat} {g : List UInt8} (hl : lv ≤ 7) (he : e < 8192) (hg : g.length = 48) : wrongC ⟨b, f % 8, c, e % 8192, g⟩ lv = if f % 8 = 0 ∨ e = 0 then 4 else 0 := by
  by_cases h : f % 8 = 0 ∨ e = 0
  · rw [if_pos h]
    exact wrongC_bad (by omega)
  · rw [if_neg h]
    unfold wrongC
    rw [if_neg (show ¬ badC _ _ by unfold badC; simp only; omega), if_neg (by simpa using hg)]
end Go.Proofs.Ytoiggajjbjcabaa.Cc
namespace Go.Proofs.Ytoiggajjbjcabaa.Cc
open Go.RowKit Go.Proofs.Ytoiggajjbjcabaa.Bt Go.Proofs.Ytoiggajjbjcabaa.Mm Go.Proofs.Ytoiggajjbjcabaa.Fl Go.Proofs.Ytoiggajjbjcabaa.Lw Go.Proofs.Ytoiggajjbjcabaa.Hx Go.Proofs.Ytoiggajjbjcabaa.Mc Go.Proofs.Ytoiggajjbjcabaa.Tg Go.Proofs.Ytoiggajjbjcabaa.Oa Go.Proofs.Ytoiggajjbjcabaa.Rp
end Go.Proofs.Ytoiggajjbjcabaa.Cc
