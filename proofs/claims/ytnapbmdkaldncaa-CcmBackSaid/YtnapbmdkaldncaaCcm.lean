/-
  Plain lemmas on the lines' messages: their bytes, and back; a group's text.
-/
import Derived.Test.YtnapbmdkaldncaaRaps
namespace Go.Proofs.Ytnapbmdkaldncaa.Cc
open Go.Proofs.Ytnapbmdkaldncaa.Bt Go.Proofs.Ytnapbmdkaldncaa.Fl Go.Proofs.Ytnapbmdkaldncaa.Tg Go.Proofs.Ytnapbmdkaldncaa.Oa Go.Proofs.Ytnapbmdkaldncaa.Rp

structure Cm where
  lost : Bool
  period : Nat
  count : Nat
  fin : Nat
  group : List UInt8
def zeroC : Cm := ⟨false, 0, 0, 0, []⟩
def flagsC (m : Cm) : Nat := m.period + bitN m.lost 128
def content (m : Cm) : List UInt8 := putB m.count 4 ++ (putB m.fin 2 ++ (m.group ++ noughts 16))
def badC (m : Cm) (level : Nat) : Prop := 7 < level ∨ m.period = 0 ∨ 7 < m.period ∨ m.fin = 0 ∨ 8191 < m.fin
instance (m : Cm) (l : Nat) : Decidable (badC m l) := by unfold badC; exact inferInstance
/-- what Close answers -/
def closeC (m : Cm) (level : Nat) : List UInt8 × Nat := if badC m level then ([], 4) else if m.group.length ≠ 48 then ([], 3) else closeO ⟨level, 0, 1, flagsC m, 70⟩ (content m)
/-- the message that stands in a head and a content -/
def msgOf (h : Hd) (c : List UInt8) : Cm := ⟨decide (128 ≤ h.flags), h.flags % 8, getN c 0 4, getN c 4 2, (c.drop 6).take 48⟩
def stray (h : Hd) (c : List UInt8) : Prop := 8192 ≤ getN c 4 2 ∨ h.flags / 8 % 16 ≠ 0 ∨ c.drop 54 ≠ noughts 16
instance (h : Hd) (c : List UInt8) : Decidable (stray h c) := by unfold stray; exact inferInstance
def openA (h : Hd) (c : List UInt8) (level : Nat) : Cm × Nat :=
  if isO h level 0 1 70 ≠ 0 then (zeroC, isO h level 0 1 70) else if stray h c then (zeroC, 3) else if h.flags % 8 = 0 ∨ getN c 4 2 = 0 then (zeroC, 4) else (msgOf h c, 0)
/-- what Open answers -/
def openC (s : List UInt8) (level : Nat) : Cm × Nat := if (openO s).2.2 ≠ 0 then (zeroC, (openO s).2.2) else openA (openO s).1 (openO s).2.1 level
/-- a group's text -/
def nameC (s : List UInt8) : List UInt8 := s.take 48 ++ noughts (48 - s.length)
theorem length_name (s : List UInt8) : (nameC s).length = 48 := by unfold nameC noughts; simp; omega

theorem closeC_zero {m : Cm} {l : Nat} {b : List UInt8} (h : closeC m l = (b, 0)) : (l ≤ 7 ∧ 1 ≤ m.period ∧ m.period ≤ 7 ∧ 1 ≤ m.fin ∧ m.fin ≤ 8191) ∧ m.group.length = 48 ∧ closeO ⟨l, 0, 1, flagsC m, 70⟩ (content m) = (b, 0) := by
  unfold closeC at h
  split at h
  · simp at h
  rename_i h1
  split at h
  · simp at h
  rename_i h2
  unfold badC at h1
  exact ⟨by omega, by simpa using h2, h⟩
theorem flags_lt {m : Cm} (h : m.period ≤ 7) : flagsC m < 256 := by unfold flagsC bitN; split <;> omega
theorem length_content {m : Cm} (h : m.group.length = 48) : (content m).length = 70 := by
  unfold content noughts
  simp only [List.length_append, length_putB, List.length_replicate, h]
theorem msgOf_content {m : Cm} {l o : Nat} (hp : m.period ≤ 7) (hc : m.count < 4294967296) (he : m.fin ≤ 8191) (hg : m.group.length = 48) :
    msgOf ⟨l, 0, 1, flagsC m, o⟩ (content m) = m ∧ getN (content m) 4 2 = m.fin ∧ flagsC m / 8 % 16 = 0 ∧ flagsC m % 8 = m.period ∧ (content m).drop 54 = noughts 16 := by
  have g0 : getN (content m) 0 4 = m.count := by
    have := getN_putB m.count 4 (by simpa using hc) [] (putB m.fin 2 ++ (m.group ++ noughts 16))
    simpa [content] using this
  have g1 : getN (content m) 4 2 = m.fin := by
    have := getN_putB m.fin 2 (by simp; omega) (putB m.count 4) (m.group ++ noughts 16)
    rw [length_putB] at this
    simpa [content] using this
  have e6 : (content m).drop 6 = m.group ++ noughts 16 := by
    have : content m = (putB m.count 4 ++ putB m.fin 2) ++ (m.group ++ noughts 16) := by simp [content]
    rw [this, List.drop_left' (by simp [length_putB])]
  have g2 : ((content m).drop 6).take 48 = m.group := by rw [e6, List.take_left' hg]
  have g3 : (content m).drop 54 = noughts 16 := by
    rw [show 54 = 6 + 48 from rfl, ← List.drop_drop, e6, List.drop_left' hg]
  have f1 : flagsC m / 8 % 16 = 0 := by unfold flagsC bitN; split <;> omega
  have f2 : flagsC m % 8 = m.period := by unfold flagsC bitN; split <;> omega
  have f3 : decide (128 ≤ flagsC m) = m.lost := by
    unfold flagsC bitN
    cases m.lost <;> simp <;> omega
  refine ⟨?_, g1, f1, f2, g3⟩
  unfold msgOf
  simp only [g0, g1, g2, f2, f3]
theorem small_head {m : Cm} {l : Nat} (hl : l ≤ 7) (hp : m.period ≤ 7) : Small ⟨l, 0, 1, flagsC m, 70⟩ := ⟨by show l < 256; omega, by show 0 < 256; omega, by show 1 < 256; omega, flags_lt hp, by show 70 < 256; omega⟩
/-- P6.2, one way -/
theorem open_closed {m : Cm} {l : Nat} {b : List UInt8} (h : closeC m l = (b, 0)) (hc : m.count < 4294967296) : openC b l = (m, 0) := by
  obtain ⟨⟨hl, hp1, hp, he1, he⟩, hg, hcl⟩ := closeC_zero h
  have ho := Oa.open_closed (small_head hl hp) hcl []
  rw [List.append_nil] at ho
  obtain ⟨e1, e2, e3, e4, e5⟩ := msgOf_content (l := l) (o := 70) hp hc he hg
  unfold openC
  rw [ho, if_neg (by simp)]
  unfold openA
  rw [if_neg (by simp [isO]), if_neg (by unfold stray; rw [e2, e5]; simp only [e3]; simp; omega), if_neg (by rw [e2]; simp only [e4]; omega), e1]
theorem length_closed {m : Cm} {l : Nat} {b : List UInt8} (h : closeC m l = (b, 0)) : b.length = 75 := by
  obtain ⟨_, _, hc⟩ := closeC_zero h
  obtain ⟨_, _, h3, rfl⟩ := closeO_zero hc
  simp only [headB, List.length_append, List.length_cons, List.length_nil, h3]
theorem openC_zero {s : List UInt8} {l : Nat} {m : Cm} (h : openC s l = (m, 0)) : (openO s).2.2 = 0 ∧ isO (openO s).1 l 0 1 70 = 0 ∧ ¬ stray (openO s).1 (openO s).2.1 ∧ ¬ ((openO s).1.flags % 8 = 0 ∨ getN (openO s).2.1 4 2 = 0) ∧ m = msgOf (openO s).1 (openO s).2.1 := by
  unfold openC at h
  split at h
  · rename_i h1
    simp only [Prod.mk.injEq] at h
    exact absurd h.2 h1
  rename_i h1
  unfold openA at h
  split at h
  · rename_i h2
    simp only [Prod.mk.injEq] at h
    exact absurd h.2 h2
  rename_i h2
  split at h
  · simp at h
  rename_i h3
  split at h
  · simp at h
  rename_i h4
  simp only [Prod.mk.injEq, and_true] at h
  exact ⟨by simpa using h1, by simpa using h2, h3, h4, h.symm⟩
theorem openC_err {s : List UInt8} {l : Nat} {m : Cm} {k : Nat} (h : openC s l = (m, k)) (hk : k ≠ 0) : m = zeroC := by
  unfold openC at h
  split at h
  · simp only [Prod.mk.injEq] at h; exact h.1.symm
  unfold openA at h
  split at h
  · simp only [Prod.mk.injEq] at h; exact h.1.symm
  split at h
  · simp only [Prod.mk.injEq] at h; exact h.1.symm
  split at h
  · simp only [Prod.mk.injEq] at h; exact h.1.symm
  · simp only [Prod.mk.injEq] at h; exact absurd h.2.symm hk
theorem openO_small {s : List UInt8} (h : (openO s).2.2 = 0) : (openO s).1 = headOf s := by
  unfold openO at h ⊢
  split at h
  · simp at h
  rename_i h1
  rw [if_neg h1]
  split at h
  · simp at h
  rename_i h2
  rw [if_neg h2]
/-- P6.2, the other way -/
theorem close_opened {s : List UInt8} {l : Nat} {m : Cm} (h : openC s l = (m, 0)) (hl7 : s.length = 75) : closeC m l = (s, 0) := by
  obtain ⟨h0, hi, hst, hz, rfl⟩ := openC_zero h
  obtain ⟨i1, i2, i3, i4⟩ := isO_zero hi
  obtain ⟨hc, hcl⟩ := closeO_opened h0 (by rw [i4]; omega)
  obtain ⟨c1, _, _, _⟩ := closeO_zero hc
  have hf : (openO s).1.flags < 256 := by rw [openO_small h0]; exact UInt8.toNat_lt _
  rw [i4] at hcl
  generalize (openO s).2.1 = c at *
  generalize (openO s).1 = x at *
  obtain ⟨a, b, d, f, o⟩ := x
  simp only at i1 i2 i3 i4 c1 hf hz
  subst i1 i2 i3 i4
  unfold stray at hst
  simp only at hst
  have s1 : getN c 4 2 ≤ 8191 := by omega
  have s2 : f / 8 % 16 = 0 := by omega
  have s3 : c.drop 54 = noughts 16 := by
    by_cases e : c.drop 54 = noughts 16
    · exact e
    · exact absurd (.inr (.inr e)) hst
  have hfl : flagsC (msgOf ⟨a, 0, 1, f, 70⟩ c) = f := by
    unfold flagsC msgOf bitN
    simp only [decide_eq_true_eq]
    split <;> omega
  have hct : content (msgOf ⟨a, 0, 1, f, 70⟩ c) = c := by
    unfold content msgOf
    simp only
    rw [putB_getN c 0 4 (by omega), putB_getN c 4 2 (by omega), ← s3]
    have cut : ∀ a n, (c.drop a).take n ++ c.drop (a + n) = c.drop a := fun a n => by rw [← List.drop_drop, List.take_append_drop]
    rw [cut 6 48, cut 4 2, cut 0 4]
    simp
  have hbad : ¬ badC (msgOf ⟨a, 0, 1, f, 70⟩ c) a := by
    unfold badC msgOf
    simp only
    omega
  have hgl : (msgOf ⟨a, 0, 1, f, 70⟩ c).group.length = 48 := by
    unfold msgOf
    simp only [List.length_take, List.length_drop]
    omega
  unfold closeC
  rw [if_neg hbad, if_neg (by rw [hgl]; simp), hct, hfl, hc]
end Go.Proofs.Ytnapbmdkaldncaa.Cc
