/-
  Open's contract in the document's words: its answer is openT's.
-/
import Derived.Test.YtomchhjemfldnaaTag6
namespace Go.Proofs.Ytomchhjemfldnaa.Tg
open Go.RowKit Go.Proofs.Ytomchhjemfldnaa.Bt Go.Proofs.Ytomchhjemfldnaa.Mm Go.Proofs.Ytomchhjemfldnaa.Fl Go.Proofs.Ytomchhjemfldnaa.Rf Go.Proofs.Ytomchhjemfldnaa.Hx Go.Proofs.Ytomchhjemfldnaa.Lw Go.Proofs.Ytomchhjemfldnaa.Mc

theorem val_from (a : Nat) (r : List Nat) : r.foldl (fun a b => 2 * a + b) a = a * 2 ^ r.length + val r := by
  induction r generalizing a with
  | nil => simp [val]
  | cons b r ih =>
    have h2 := ih (2 * 0 + b)
    unfold val at h2 ⊢
    rw [List.foldl_cons, ih, List.foldl_cons, h2, List.length_cons, Nat.pow_succ]
    unfold val
    generalize 2 ^ r.length = x
    generalize List.foldl (fun a b => 2 * a + b) 0 r = y
    simp only [Nat.mul_zero, Nat.zero_add, Nat.add_mul]
    rw [show a * (x * 2) = 2 * a * x by rw [Nat.mul_comm x 2, ← Nat.mul_assoc, Nat.mul_comm a 2]]
    omega
theorem val_append (l r : List Nat) : val (l ++ r) = val l * 2 ^ r.length + val r := by
  have := val_from (val l) r
  unfold val at this ⊢
  rw [List.foldl_append, this]
/-- a number of k + m bits is two numbers -/
theorem getB_join (s : ByteArray) (a k m : Nat) (h : a + k + m ≤ 8 * s.size) : getB s a (k + m) = getB s a k * 2 ^ m + getB s (a + k) m := by
  unfold getB
  have hl : (((bitsB s.data.toList).drop (a + k)).take m).length = m := by rw [List.length_take, List.length_drop, length_bitsB, size_list]; omega
  have e : ((bitsB s.data.toList).drop a).take (k + m) = ((bitsB s.data.toList).drop a).take k ++ ((bitsB s.data.toList).drop (a + k)).take m := by
    rw [List.take_add, List.drop_drop]
  rw [e, val_append, hl]
theorem vals_widths (s : ByteArray) : valsOf s widths = [getB s 0 48, getB s 48 48, getB s 96 16, getB s 112 3, getB s 115 1, getB s 116 12, getB s 128 16] := rfl
theorem tag_parts (s : ByteArray) (h : 18 ≤ s.size) : getB s 112 3 = getN s.data.toList 14 2 / 8192 ∧ getB s 115 1 = getN s.data.toList 14 2 / 4096 % 2 ∧ getB s 116 12 = getN s.data.toList 14 2 % 4096 := by
  have h1 := getB_join s 112 3 13 (by omega)
  have h2 := getB_join s 115 1 12 (by omega)
  have h3 := getB_getN s 14 2
  have l1 := getB_lt s 112 3
  have l2 := getB_lt s 115 1
  have l3 := getB_lt s 116 12
  simp only [Nat.reduceAdd, Nat.reduceMul, Nat.reducePow] at h1 h2 h3 l1 l2 l3
  omega
theorem split_frame (s : ByteArray) (h : 18 ≤ s.size) : splitR s widths = ([(frameOf s.data.toList).dst, (frameOf s.data.toList).src, getN s.data.toList 12 2, (frameOf s.data.toList).pri, getN s.data.toList 14 2 / 4096 % 2, (frameOf s.data.toList).vlan, (frameOf s.data.toList).type], s.extract 18 s.size, 0) := by
  have e1 : widths.all okW = true := by decide
  have e2 : tot widths = 144 := by decide
  obtain ⟨t1, t2, t3⟩ := tag_parts s h
  unfold splitR
  rw [if_pos e1, e2, if_pos (by decide), if_pos (by omega), vals_widths, t1, t2, t3]
  have g0 := getB_getN s 0 6
  have g1 := getB_getN s 6 6
  have g2 := getB_getN s 12 2
  have g3 := getB_getN s 16 2
  simp only [Nat.reduceMul, Nat.mul_zero] at g0 g1 g2 g3
  rw [g0, g1, g2, g3]
  rfl
theorem split_short (s : ByteArray) (h : s.size < 18) : splitR s widths = ([], ⟨#[]⟩, 1) := by
  have e1 : widths.all okW = true := by decide
  have e2 : tot widths = 144 := by decide
  unfold splitR
  rw [if_pos e1, e2, if_pos (by decide), if_neg (by omega)]
theorem mark_get (l : List UInt8) (h : 18 ≤ l.length) : getN l 12 2 = 33024 ↔ (l.drop 12).take 2 = [0x81, 0] := by
  have hp := putB_getN l 12 2 (by omega)
  constructor
  · intro e
    rw [← hp, e]
    exact mark_bytes
  · intro e
    unfold getN
    rw [e]
    decide
theorem frame_bounds (l : List UInt8) : (frameOf l).dst < 281474976710656 ∧ (frameOf l).src < 281474976710656 ∧ (frameOf l).pri < 8 ∧ (frameOf l).vlan < 4096 ∧ (frameOf l).type < 65536 := by
  have b0 := getN_lt l 0 6
  have b1 := getN_lt l 6 6
  have b2 := getN_lt l 14 2
  have b3 := getN_lt l 16 2
  simp only [Nat.reduceMul, Nat.reducePow] at b0 b1 b2 b3
  refine ⟨b0, b1, ?_, ?_, b3⟩
  · show getN l 14 2 / 8192 < 8
    omega
  · show getN l 14 2 % 4096 < 4096
    omega
theorem openT_wrong (l : List UInt8) : openT l = if l.length < 18 then (zeroF, 1) else if 1600 < l.length then (zeroF, 2) else if (l.drop 12).take 2 ≠ [0x81, 0] then (zeroF, 5) else if wrongT (frameOf l) = 0 then (frameOf l, 0) else (zeroF, wrongT (frameOf l)) := by
  obtain ⟨b0, b1, b2, b3, b4⟩ := frame_bounds l
  unfold openT
  split
  · rfl
  rename_i h1
  split
  · rfl
  rename_i h2
  split
  · rfl
  have ha : badAddr (frameOf l) = groupB (frameOf l).src := by unfold badAddr mayB; simp [b0, b1]
  have hr : badRange (frameOf l) = true ↔ ((frameOf l).vlan = 0 ∨ (frameOf l).vlan = 4095) := by
    unfold badRange
    simp only [Bool.or_eq_true, decide_eq_true_eq]
    omega
  have hb : (frameOf l).body.length = l.length - 18 := by simp [frameOf]
  unfold wrongT
  rw [ha]
  split
  · simp
  · by_cases h4 : (frameOf l).vlan = 0 ∨ (frameOf l).vlan = 4095
    · rw [if_pos h4, if_pos (hr.2 h4)]
      simp
    · rw [if_neg h4, if_neg (fun e => h4 (hr.1 e))]
      split
      · simp
      · rw [if_neg (show ¬ 1600 < 18 + (frameOf l).body.length by rw [hb]; omega)]
        simp
/-- a frame as a value -/
abbrev valF (f : Fr) : Value := frV f.dst f.src f.pri f.drop f.vlan f.type ⟨f.body.toArray⟩

theorem open_at {f : Fr} {k : Nat} (s : ByteArray) (w : World) (h : openT s.data.toList = (f, k)) (hs : s.size ≤ maxLen) :
    Calls Try.prog 10 #[.string s] w fun e w' => e = .returned (.tuple #[valF f, .int .i64 (k : Int)]) ∧ Below w.heap.size w w' := by
  have hsl := size_list s
  rw [openT_wrong, hsl] at h
  by_cases h1 : s.size < 18
  · rw [if_pos h1] at h
    simp only [Prod.mk.injEq] at h
    obtain ⟨rfl, rfl⟩ := h
    exact open_short s w hs (split_short s h1)
  rw [if_neg h1] at h
  have hsp := split_frame s (by omega)
  obtain ⟨b0, b1, b2, b3, b4⟩ := frame_bounds s.data.toList
  by_cases h2 : 1600 < s.size
  · rw [if_pos h2] at h
    simp only [Prod.mk.injEq] at h
    obtain ⟨rfl, rfl⟩ := h
    exact open_long s _ _ _ _ _ _ _ _ w hs h2 hsp
  rw [if_neg h2] at h
  by_cases h3 : (s.data.toList.drop 12).take 2 = [0x81, 0]
  · rw [if_neg (fun hn => hn h3)] at h
    have hm := (mark_get s.data.toList (by omega)).2 h3
    rw [hm] at hsp
    have hdr : (((getN s.data.toList 14 2 / 4096 % 2 : Nat) : Int) == 1) = (frameOf s.data.toList).drop := by
      show _ = (getN s.data.toList 14 2 / 4096 % 2 == 1)
      generalize getN s.data.toList 14 2 / 4096 % 2 = x
      rw [Bool.eq_iff_iff]
      simp only [beq_iff_eq]
      omega
    have hbody : (s.extract 18 s.size).data.toList = (frameOf s.data.toList).body := by rw [extract_list]; rfl
    have hbv : s.extract 18 s.size = ⟨(frameOf s.data.toList).body.toArray⟩ := by
      apply ba_ext
      rw [hbody]
    have hfr : frT (frameOf s.data.toList).dst (frameOf s.data.toList).src (frameOf s.data.toList).pri (frameOf s.data.toList).drop (frameOf s.data.toList).vlan (frameOf s.data.toList).type (s.extract 18 s.size) = frameOf s.data.toList := by
      unfold frT
      rw [hbody]
    have := open_rest s _ _ _ _ _ _ _ k (frameOf s.data.toList).drop w (by omega) hsp (by omega) (by simp; omega) (by omega) (by omega) b4 hdr (by
      rw [hfr]
      split at h
      · simp only [Prod.mk.injEq] at h
        rename_i h0
        rw [h0, ← h.2]
      · simp only [Prod.mk.injEq] at h
        exact h.2) (valF f) (by
      split at h
      · simp only [Prod.mk.injEq] at h
        obtain ⟨rfl, rfl⟩ := h
        rw [if_pos rfl, hbv]
      · simp only [Prod.mk.injEq] at h
        rename_i h0
        obtain ⟨rfl, rfl⟩ := h
        rw [if_neg h0]
        rfl)
    exact this
  · rw [if_pos h3] at h
    simp only [Prod.mk.injEq] at h
    obtain ⟨rfl, rfl⟩ := h
    exact open_tag s _ _ _ _ _ _ _ _ w (by omega) (fun e => h3 ((mark_get s.data.toList (by omega)).1 e)) hsp
end Go.Proofs.Ytomchhjemfldnaa.Tg
