/-
  Plain lemmas: what is packed is split as it was; what is split is packed as it was.
-/
import Derived.Test.YtflofehnclaffaaField4
namespace Go.Proofs.Ytflofehnclaffaa.Fl
open Go.RowKit Go.Proofs.Ytflofehnclaffaa.Bt Go.Proofs.Ytflofehnclaffaa.Mm

theorem packR_zero {ps : List (Int × Nat)} {b : List UInt8} (h : packR ps = (b, 0)) : ps.all okP = true ∧ (allBits ps).length % 8 = 0 ∧ b = bytesOf (allBits ps) := by
  unfold packR at h
  split at h
  · rename_i h1
    split at h
    · rename_i h2
      simp only [Prod.mk.injEq] at h
      exact ⟨h1, h2, h.1.symm⟩
    · simp at h
  · simp at h
theorem packR_len {ps : List (Int × Nat)} {b : List UInt8} {k : Nat} (h : packR ps = (b, k)) : b.length ≤ 8 * ps.length := by
  unfold packR at h
  split at h
  · rename_i h1
    split at h
    · simp only [Prod.mk.injEq] at h
      rw [← h.1, length_bytesOf]
      have := len_take_le ps ps.length (by rw [List.take_length]; exact h1)
      rw [List.take_length] at this
      omega
    · simp only [Prod.mk.injEq] at h; rw [← h.1]; simp
  · simp only [Prod.mk.injEq] at h; rw [← h.1]; simp
theorem tot_fst (ps : List (Int × Nat)) : tot (ps.map (·.1)) = (allBits ps).length := by
  induction ps with
  | nil => rfl
  | cons p ps ih =>
    have e : p :: ps = [p] ++ ps := rfl
    rw [e, List.map_append, tot_append, ih, allBits_append, List.length_append]
    simp [tot, allBits]
theorem okW_fst {ps : List (Int × Nat)} (h : ps.all okP = true) : (ps.map (·.1)).all okW = true := by
  rw [List.all_eq_true] at h ⊢
  intro z hz
  obtain ⟨p, hp, rfl⟩ := List.mem_map.1 hz
  have := of_decide_eq_true (h p hp)
  exact decide_eq_true ⟨this.1, this.2.1⟩
theorem data_list (l : List UInt8) : (ByteArray.mk l.toArray).data.toList = l := by simp
theorem size_mk (l : List UInt8) : (ByteArray.mk l.toArray).size = l.length := by rw [← size_list, data_list]
theorem ba_ext {a b : ByteArray} (h : a.data.toList = b.data.toList) : a = b := by
  apply ByteArray.ext
  exact Array.toList_inj.1 h
theorem extract_list (s : ByteArray) (k : Nat) : (s.extract k s.size).data.toList = s.data.toList.drop k := by
  rw [ByteArray.data_extract, Array.toList_extract, List.extract_eq_take_drop]
  rw [List.take_of_length_le (by rw [List.length_drop, size_list]; omega)]
/-- P1.3, one way -/
theorem split_packed (ps : List (Int × Nat)) (b : List UInt8) (behind : ByteArray) (h : packR ps = (b, 0)) (s : ByteArray) (hs : s.data.toList = b ++ behind.data.toList) : splitR s (ps.map (·.1)) = (ps.map (·.2), behind, 0) := by
  obtain ⟨hall, h8, rfl⟩ := packR_zero h
  have hsz : s.size = (allBits ps).length / 8 + behind.size := by rw [← size_list, hs, List.length_append, length_bytesOf, size_list]
  have hbits : bitsB s.data.toList = allBits ps ++ bitsB behind.data.toList := by rw [hs, bitsB_append, bitsB_bytesOf (bin_allBits ps) h8]
  unfold splitR
  rw [if_pos (okW_fst hall), tot_fst, if_pos h8, if_pos (by omega)]
  refine Prod.ext ?_ (Prod.ext ?_ rfl)
  · apply List.ext_getElem
    · simp [valsOf]
    · intro i h1 h2
      have hi : i < ps.length := by simpa using h2
      have e : (valsOf s (ps.map (·.1)))[i] = getB s (allBits (ps.take i)).length ps[i].1.toNat := by
        simp [valsOf, hi, ← tot_fst, List.map_take]
      rw [e]
      unfold getB
      rw [hbits, allBits_cut ps i hi]
      have e2 : (((allBits (ps.take i) ++ (bitsN ps[i].2 ps[i].1.toNat ++ allBits (ps.drop (i + 1)))) ++ bitsB behind.data.toList).drop (allBits (ps.take i)).length).take ps[i].1.toNat = bitsN ps[i].2 ps[i].1.toNat := by
        rw [List.append_assoc, List.drop_left, List.append_assoc, List.take_append_of_le_length (by simp), List.take_of_length_le (by simp)]
      rw [e2, val_bitsN]
      have hok := of_decide_eq_true (List.all_eq_true.1 hall _ (List.getElem_mem hi))
      simp only [List.getElem_map]
      exact Nat.mod_eq_of_lt hok.2.2
  · apply ba_ext
    rw [extract_list, hs, List.drop_left' (by rw [length_bytesOf])]

theorem splitR_zero {s : ByteArray} {zs : List Int} {vs : List Nat} {r : ByteArray} (h : splitR s zs = (vs, r, 0)) : zs.all okW = true ∧ tot zs % 8 = 0 ∧ tot zs / 8 ≤ s.size ∧ vs = valsOf s zs ∧ r = s.extract (tot zs / 8) s.size := by
  unfold splitR at h
  split at h
  · rename_i h1
    split at h
    · rename_i h2
      split at h
      · rename_i h3
        simp only [Prod.mk.injEq] at h
        exact ⟨h1, h2, h3, h.1.symm, h.2.1.symm⟩
      · simp at h
    · simp at h
  · simp at h
theorem splitR_not {s : ByteArray} {zs : List Int} {vs : List Nat} {r : ByteArray} {k : Nat} (h : splitR s zs = (vs, r, k)) (hk : k ≠ 0) : vs = [] := by
  unfold splitR at h
  split at h
  · split at h
    · split at h
      · simp only [Prod.mk.injEq] at h; exact absurd h.2.2.symm hk
      · simp only [Prod.mk.injEq] at h; exact h.1.symm
    · simp only [Prod.mk.injEq] at h; exact h.1.symm
  · simp only [Prod.mk.injEq] at h; exact h.1.symm
theorem length_valsOf (s : ByteArray) (zs : List Int) : (valsOf s zs).length = zs.length := by simp [valsOf]
theorem splitR_len {s : ByteArray} {zs : List Int} {vs : List Nat} {r : ByteArray} {k : Nat} (h : splitR s zs = (vs, r, k)) : vs.length ≤ zs.length := by
  rcases Nat.eq_zero_or_pos k with h0 | h0
  · subst h0
    rw [(splitR_zero h).2.2.2.1, length_valsOf]; omega
  · rw [splitR_not h (by omega)]; simp
theorem get_valsOf (s : ByteArray) (zs : List Int) (i : Nat) (h : i < zs.length) : (valsOf s zs)[i]'(by rw [length_valsOf]; exact h) = getB s (tot (zs.take i)) zs[i].toNat := by simp [valsOf, h]
theorem bitsN_take (l : List Nat) (hl : Bin l) (a n : Nat) (h : a + n ≤ l.length) : bitsN (val ((l.drop a).take n)) n = (l.drop a).take n := by
  have e := bitsN_val ((hl.drop a).take n)
  have hn : ((l.drop a).take n).length = n := by simp; omega
  rw [hn] at e
  exact e
theorem allBits_zip (s : ByteArray) (zs : List Int) (hT : tot zs ≤ 8 * s.size) (k : Nat) (hk : k ≤ zs.length) : allBits ((zs.zip (valsOf s zs)).take k) = (bitsB s.data.toList).take (tot (zs.take k)) := by
  induction k with
  | zero => simp [allBits, tot]
  | succ k ih =>
    have hk' : k < zs.length := by omega
    have hz : k < (zs.zip (valsOf s zs)).length := by rw [List.length_zip, length_valsOf]; omega
    have hm := tot_mono zs k hk'
    rw [take_snocP _ k hz, allBits_snoc, ih (by omega), tot_snoc zs k hk']
    have e : (zs.zip (valsOf s zs))[k] = (zs[k], getB s (tot (zs.take k)) zs[k].toNat) := by
      rw [List.getElem_zip, get_valsOf s zs k hk']
    rw [e]
    show _ ++ bitsN (getB s (tot (zs.take k)) zs[k].toNat) zs[k].toNat = _
    unfold getB
    rw [bitsN_take _ (bin_bitsB _) _ _ (by rw [length_bitsB, size_list]; omega), List.take_add]
/-- P1.3, the other way -/
theorem pack_split (s : ByteArray) (zs : List Int) (vs : List Nat) (r : ByteArray) (h : splitR s zs = (vs, r, 0)) : ∃ b : List UInt8, packR (zs.zip vs) = (b, 0) ∧ b ++ r.data.toList = s.data.toList := by
  obtain ⟨hall, h8, hle, rfl, rfl⟩ := splitR_zero h
  have hab : allBits (zs.zip (valsOf s zs)) = (bitsB s.data.toList).take (tot zs) := by
    have e := allBits_zip s zs (by omega) zs.length (Nat.le_refl _)
    rw [List.take_of_length_le (by rw [List.length_zip, length_valsOf]; omega), List.take_length] at e
    exact e
  have hcut : (bitsB s.data.toList).take (tot zs) = bitsB (s.data.toList.take (tot zs / 8)) := by
    have e : bitsB s.data.toList = bitsB (s.data.toList.take (tot zs / 8)) ++ bitsB (s.data.toList.drop (tot zs / 8)) := by rw [← bitsB_append, List.take_append_drop]
    rw [e, List.take_append_of_le_length (by rw [length_bitsB, List.length_take, size_list]; omega), List.take_of_length_le (by rw [length_bitsB, List.length_take, size_list]; omega)]
  have hok : (zs.zip (valsOf s zs)).all okP = true := by
    rw [List.all_eq_true]
    intro p hp
    obtain ⟨i, hi, rfl⟩ := List.getElem_of_mem hp
    have hi' : i < zs.length := by rw [List.length_zip, length_valsOf] at hi; omega
    have e : (zs.zip (valsOf s zs))[i] = (zs[i], getB s (tot (zs.take i)) zs[i].toNat) := by
      rw [List.getElem_zip, get_valsOf s zs i hi']
    rw [e]
    have hz := of_decide_eq_true (List.all_eq_true.1 hall _ (List.getElem_mem hi'))
    exact decide_eq_true ⟨hz.1, hz.2, getB_lt _ _ _⟩
  refine ⟨bytesOf (allBits (zs.zip (valsOf s zs))), ?_, ?_⟩
  · unfold packR
    rw [if_pos hok, if_pos]
    rw [hab, List.length_take, length_bitsB, size_list]; omega
  · rw [hab, hcut, bytesOf_bitsB, extract_list, List.take_append_drop]
end Go.Proofs.Ytflofehnclaffaa.Fl
