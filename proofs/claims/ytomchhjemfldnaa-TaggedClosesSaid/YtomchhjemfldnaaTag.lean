/-
  Plain lemmas on frames with a tag: their bytes, and back.
-/
import Derived.Test.YtomchhjemfldnaaPutGet
namespace Go.Proofs.Ytomchhjemfldnaa.Tg
open Go.Proofs.Ytomchhjemfldnaa.Bt Go.Proofs.Ytomchhjemfldnaa.Fl Go.Proofs.Ytomchhjemfldnaa.Hx Go.Proofs.Ytomchhjemfldnaa.Mc

structure Fr where
  dst : Nat
  src : Nat
  pri : Nat
  drop : Bool
  vlan : Nat
  type : Nat
  body : List UInt8
def zeroF : Fr := ⟨0, 0, 0, false, 0, 0, []⟩
/-- the two bytes of a tag, as a number -/
def tci (f : Fr) : Nat := f.pri * 8192 + (if f.drop = true then 4096 else 0) + f.vlan
def badAddr (f : Fr) : Bool := !(mayB f.dst) || (!(mayB f.src) || groupB f.src)
def badRange (f : Fr) : Bool := decide (7 < f.pri) || (decide (f.vlan = 0) || decide (4094 < f.vlan))
def frameBytes (f : Fr) : List UInt8 := bytesM f.dst ++ (bytesM f.src ++ ([0x81, 0] ++ (putB (tci f) 2 ++ (putB f.type 2 ++ f.body))))
/-- what Close answers -/
def closeT (f : Fr) : List UInt8 × Nat :=
  if badAddr f = true then ([], 3) else if badRange f = true then ([], 4) else if f.type < 1536 then ([], 6) else if 1600 < 18 + f.body.length then ([], 2) else (frameBytes f, 0)
/-- the frame that stands in bytes, wrong or not -/
def frameOf (s : List UInt8) : Fr := ⟨getN s 0 6, getN s 6 6, getN s 14 2 / 8192, getN s 14 2 / 4096 % 2 == 1, getN s 14 2 % 4096, getN s 16 2, s.drop 18⟩
/-- what Open answers -/
def openT (s : List UInt8) : Fr × Nat :=
  if s.length < 18 then (zeroF, 1) else if 1600 < s.length then (zeroF, 2) else if (s.drop 12).take 2 ≠ [0x81, 0] then (zeroF, 5)
  else if groupB (frameOf s).src = true then (zeroF, 3) else if (frameOf s).vlan = 0 ∨ (frameOf s).vlan = 4095 then (zeroF, 4) else if (frameOf s).type < 1536 then (zeroF, 6) else (frameOf s, 0)

theorem bytesM_put {n : Nat} (h : n < 281474976710656) : bytesM n = putB n 6 := by unfold bytesM; rw [bytesM_yes h]; rfl
theorem tci_lt {f : Fr} (hp : f.pri ≤ 7) (hv : f.vlan ≤ 4094) : tci f < 65536 := by unfold tci; split <;> omega
theorem length_frame {f : Fr} (hd : f.dst < 281474976710656) (hs : f.src < 281474976710656) : (frameBytes f).length = 18 + f.body.length := by
  unfold frameBytes
  simp only [List.length_append, length_bytesM hd, length_bytesM hs, length_putB, List.length_cons, List.length_nil]
  omega
theorem closeT_zero {f : Fr} {b : List UInt8} (h : closeT f = (b, 0)) : badAddr f = false ∧ badRange f = false ∧ 1536 ≤ f.type ∧ 18 + f.body.length ≤ 1600 ∧ b = frameBytes f := by
  unfold closeT at h
  split at h
  · simp at h
  · rename_i h1
    split at h
    · simp at h
    · rename_i h2
      split at h
      · simp at h
      · rename_i h3
        split at h
        · simp at h
        · rename_i h4
          simp only [Prod.mk.injEq, and_true] at h
          exact ⟨by simpa using h1, by simpa using h2, by omega, by omega, h.symm⟩
theorem addr_parts {f : Fr} (h : badAddr f = false) : f.dst < 281474976710656 ∧ f.src < 281474976710656 ∧ groupB f.src = false := by
  unfold badAddr at h
  simp only [Bool.or_eq_false_iff, Bool.not_eq_false'] at h
  exact ⟨of_decide_eq_true h.1, of_decide_eq_true h.2.1, h.2.2⟩
theorem range_parts {f : Fr} (h : badRange f = false) : f.pri ≤ 7 ∧ 1 ≤ f.vlan ∧ f.vlan ≤ 4094 := by
  unfold badRange at h
  simp only [Bool.or_eq_false_iff, decide_eq_false_iff_not] at h
  omega
/-- the frame that stands in a frame's bytes -/
theorem frameOf_bytes {f : Fr} (ha : badAddr f = false) (hr : badRange f = false) (ht : f.type < 65536) : frameOf (frameBytes f) = f := by
  obtain ⟨hd, hs, _⟩ := addr_parts ha
  obtain ⟨hp, hv1, hv2⟩ := range_parts hr
  have htc := tci_lt hp hv2
  have g0 : getN (frameBytes f) 0 6 = f.dst := by
    have := getN_putB f.dst 6 (by simpa using hd) [] (bytesM f.src ++ ([0x81, 0] ++ (putB (tci f) 2 ++ (putB f.type 2 ++ f.body))))
    rw [← bytesM_put hd] at this
    simpa [frameBytes] using this
  have g1 : getN (frameBytes f) 6 6 = f.src := by
    have := getN_putB f.src 6 (by simpa using hs) (bytesM f.dst) ([0x81, 0] ++ (putB (tci f) 2 ++ (putB f.type 2 ++ f.body)))
    rw [← bytesM_put hs, length_bytesM hd] at this
    simpa [frameBytes] using this
  have g2 : getN (frameBytes f) 14 2 = tci f := by
    have := getN_putB (tci f) 2 (by simpa using htc) (bytesM f.dst ++ bytesM f.src ++ [0x81, 0]) (putB f.type 2 ++ f.body)
    have hl : (bytesM f.dst ++ bytesM f.src ++ [0x81, 0]).length = 14 := by simp [length_bytesM hd, length_bytesM hs]
    rw [hl] at this
    simpa [frameBytes] using this
  have g3 : getN (frameBytes f) 16 2 = f.type := by
    have := getN_putB f.type 2 (by simpa using ht) (bytesM f.dst ++ bytesM f.src ++ [0x81, 0] ++ putB (tci f) 2) f.body
    have hl : (bytesM f.dst ++ bytesM f.src ++ [0x81, 0] ++ putB (tci f) 2).length = 16 := by simp [length_bytesM hd, length_bytesM hs, length_putB]
    rw [hl] at this
    simpa [frameBytes] using this
  have g4 : (frameBytes f).drop 18 = f.body := by
    have hl : (bytesM f.dst ++ bytesM f.src ++ [0x81, 0] ++ putB (tci f) 2 ++ putB f.type 2).length = 18 := by simp [length_bytesM hd, length_bytesM hs, length_putB]
    have e : frameBytes f = (bytesM f.dst ++ bytesM f.src ++ [0x81, 0] ++ putB (tci f) 2 ++ putB f.type 2) ++ f.body := by simp [frameBytes]
    rw [e, List.drop_left' hl]
  unfold frameOf
  rw [g0, g1, g2, g3, g4]
  obtain ⟨dst, src, pri, drop, vlan, type, body⟩ := f
  simp only [Fr.mk.injEq, true_and, and_true]
  simp only at hp hv1 hv2
  unfold tci
  cases drop
  · simp only [Bool.false_eq_true, if_false]
    refine ⟨by omega, ?_, by omega⟩
    rw [beq_eq_false_iff_ne]; omega
  · simp only [if_true]
    refine ⟨by omega, ?_, by omega⟩
    rw [beq_iff_eq]; omega
theorem tag_bytes {f : Fr} (ha : badAddr f = false) : ((frameBytes f).drop 12).take 2 = [0x81, 0] := by
  obtain ⟨hd, hs, _⟩ := addr_parts ha
  have e : frameBytes f = (bytesM f.dst ++ bytesM f.src) ++ ([0x81, 0] ++ (putB (tci f) 2 ++ (putB f.type 2 ++ f.body))) := by simp [frameBytes]
  rw [e, List.drop_left' (by simp [length_bytesM hd, length_bytesM hs])]
  rfl
/-- P3.2, one way -/
theorem open_closed {f : Fr} {b : List UInt8} (h : closeT f = (b, 0)) (ht : f.type < 65536) : openT b = (f, 0) := by
  obtain ⟨ha, hr, hty, hln, rfl⟩ := closeT_zero h
  obtain ⟨hd, hs, hg⟩ := addr_parts ha
  obtain ⟨hp, hv1, hv2⟩ := range_parts hr
  have hl := length_frame (f := f) hd hs
  unfold openT
  rw [if_neg (by omega), if_neg (by omega), if_neg (by rw [tag_bytes ha]; simp), frameOf_bytes ha hr ht, if_neg (by rw [hg]; simp), if_neg (by omega), if_neg (by omega)]
theorem openT_zero {s : List UInt8} {f : Fr} (h : openT s = (f, 0)) : 18 ≤ s.length ∧ s.length ≤ 1600 ∧ (s.drop 12).take 2 = [0x81, 0] ∧ groupB (frameOf s).src = false ∧ (frameOf s).vlan ≠ 0 ∧ (frameOf s).vlan ≠ 4095 ∧ 1536 ≤ (frameOf s).type ∧ f = frameOf s := by
  unfold openT at h
  split at h
  · simp at h
  · rename_i h1
    split at h
    · simp at h
    · rename_i h2
      split at h
      · simp at h
      · rename_i h3
        split at h
        · simp at h
        · rename_i h4
          split at h
          · simp at h
          · rename_i h5
            split at h
            · simp at h
            · rename_i h6
              simp only [Prod.mk.injEq, and_true] at h
              exact ⟨by omega, by omega, by simpa using h3, by simpa using h4, fun e => h5 (.inl e), fun e => h5 (.inr e), by omega, h.symm⟩
/-- P3.2, the other way -/
theorem close_opened {s : List UInt8} {f : Fr} (h : openT s = (f, 0)) : closeT f = (s, 0) := by
  obtain ⟨h18, h16, htag, hg, hv0, hv1, hty, rfl⟩ := openT_zero h
  have b0 : getN s 0 6 < 281474976710656 := by have := getN_lt s 0 6; simpa using this
  have b1 : getN s 6 6 < 281474976710656 := by have := getN_lt s 6 6; simpa using this
  have b2 : getN s 14 2 < 65536 := by have := getN_lt s 14 2; simpa using this
  have ha : badAddr (frameOf s) = false := by
    unfold badAddr mayB
    rw [hg]
    simp [frameOf, b0, b1]
  have hr : badRange (frameOf s) = false := by
    have e1 : (frameOf s).pri = getN s 14 2 / 8192 := rfl
    have e2 : (frameOf s).vlan = getN s 14 2 % 4096 := rfl
    unfold badRange
    rw [Bool.or_eq_false_iff, Bool.or_eq_false_iff]
    exact ⟨decide_eq_false (by omega), decide_eq_false hv0, decide_eq_false (by omega)⟩
  have hb : (frameOf s).body.length = s.length - 18 := by simp [frameOf]
  have htci : tci (frameOf s) = getN s 14 2 := by
    unfold tci
    simp only [frameOf, beq_iff_eq]
    split <;> omega
  have e : frameBytes (frameOf s) = s := by
    unfold frameBytes
    rw [htci]
    show bytesM (getN s 0 6) ++ (bytesM (getN s 6 6) ++ ([0x81, 0] ++ (putB (getN s 14 2) 2 ++ (putB (getN s 16 2) 2 ++ s.drop 18)))) = s
    rw [bytesM_put b0, bytesM_put b1, putB_getN s 0 6 (by omega), putB_getN s 6 6 (by omega), putB_getN s 14 2 (by omega), putB_getN s 16 2 (by omega), ← htag]
    have cut : ∀ a n, (s.drop a).take n ++ s.drop (a + n) = s.drop a := fun a n => by rw [← List.drop_drop, List.take_append_drop]
    rw [cut 16 2, cut 14 2, cut 12 2, cut 6 6]
    simp
  unfold closeT
  rw [if_neg (by rw [ha]; simp), if_neg (by rw [hr]; simp), if_neg (by omega), if_neg (by omega), e]
end Go.Proofs.Ytomchhjemfldnaa.Tg
