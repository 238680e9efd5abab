/-
  Contracts: mac's Bytes, Of; the document's Put, Bytes, Get.
-/
import Derived.Test.YtomchhjemfldnaaMac1
namespace Go.Proofs.Ytomchhjemfldnaa.Mc
open Go.RowKit Go.Proofs.Ytomchhjemfldnaa.Bt Go.Proofs.Ytomchhjemfldnaa.Mm Go.Proofs.Ytomchhjemfldnaa.Fl Go.Proofs.Ytomchhjemfldnaa.Rf Go.Proofs.Ytomchhjemfldnaa.Hx Go.Proofs.Ytomchhjemfldnaa.Lw

theorem rpack_lit (ps : List (Int × Nat)) (cs : Array Value) (s : List UInt8) (n k c : Nat) (t : TypeId) (w : World) (hcs : cs.toList = partCells ps) (hn : ps.length = n) (hn2 : n ≤ 100000) (hv : ∀ p ∈ ps, p.2 < 18446744073709551616) (hr : packR ps = (s, k)) :
    Calls Try.prog 29 #[.slice (some ⟨w.heap.size, 0, none⟩) n c] (w.alloc (.cells cs t)) fun e w' => e = .returned (.tuple #[.string ⟨s.toArray⟩, .int .i64 (k : Nat)]) ∧ Below (w.heap.size + 1) (w.alloc (.cells cs t)) w' := by
  subst hn
  have hb := Blk.fresh w t cs
  have hA : Rd (w.alloc (.cells cs t)) (w.alloc (.cells cs t)).heap.size (some ⟨w.heap.size, 0, none⟩) (partCells ps) := by
    rw [← hcs]
    exact Rd.of_cells (xs := cs.toList) (by simpa using hb)
  have h := rpack_any ps (some ⟨w.heap.size, 0, none⟩) c (w.alloc (.cells cs t)) hn2 hA hv
  rw [hr] at h
  simpa using h
theorem one_part (n : Nat) (hn : n < 18446744073709551616) : ∀ p ∈ [((48 : Int), n)], p.2 < 18446744073709551616 := by
  intro p hp
  simp at hp
  subst hp
  exact hn
theorem below_one {w w1 : World} (o : Obj) (h : Below (w.heap.size + 1) (w.alloc o) w1) : Below w.heap.size w w1 := ((Below.refl w.heap.size w).alloc (Nat.le_refl _) o).trans (h.mono (by omega))

theorem bytes_any (n : Nat) (w : World) (hn : n < 18446744073709551616) :
    Calls Try.prog 25 #[.int .u64 (n : Int)] w fun e w' => e = .returned (.string ⟨(bytesM n).toArray⟩) ∧ Below w.heap.size w w' := by
  obtain ⟨b, k, hp⟩ : ∃ b k, packR [(48, n)] = (b, k) := ⟨_, _, rfl⟩
  have hb : bytesM n = b := by unfold bytesM; rw [hp]
  have HP := Lib.hid hp; clear hp
  rw [hb]
  clear hb
  go_enter Try.func25, Try.ntmps25
  go_wp2_with fail
  refine (pack_lit [(48, n)] _ _ _ _ _ _ w rfl rfl (by simp) (one_part n hn) HP.out).mono ?_
  rintro e w1 ⟨rfl, hb⟩
  have HB := Lib.hid (below_one _ hb); clear hb
  go_wp2
  go_ret
  exact ⟨rfl, HB.out⟩
theorem put6_any (n : Nat) (w : World) (hn : n < 18446744073709551616) :
    Calls Try.prog 19 #[.int .u64 (n : Int), .int .i64 6] w fun e w' => e = .returned (.string ⟨(bytesM n).toArray⟩) ∧ Below w.heap.size w w' := by
  obtain ⟨b, k, hp⟩ : ∃ b k, packR [(48, n)] = (b, k) := ⟨_, _, rfl⟩
  have hb : bytesM n = b := by unfold bytesM; rw [hp]
  have HP := Lib.hid hp; clear hp
  rw [hb]
  clear hb
  go_enter Try.func19, Try.ntmps19
  go_wp2_with fail
  refine (rpack_lit [(48, n)] _ _ _ _ _ _ w rfl rfl (by simp) (one_part n hn) HP.out).mono ?_
  rintro e w1 ⟨rfl, hb⟩
  have HB := Lib.hid (below_one _ hb); clear hb
  go_wp2
  go_ret
  exact ⟨rfl, HB.out⟩
theorem rbytes_any (n : Nat) (w : World) (hn : n < 18446744073709551616) :
    Calls Try.prog 18 #[.int .u64 (n : Int)] w fun e w' => e = .returned (.string ⟨(bytesM n).toArray⟩) ∧ Below w.heap.size w w' := by
  by_cases h : n < 281474976710656
  · have HM := Lib.hid (show mayB n = true from decide_eq_true h)
    go_enter Try.func18, Try.ntmps18
    go_wp2_with fail
    refine (rmay_b true n _ HM.out).mono ?_
    rintro e w' ⟨rfl, rfl⟩
    go_wp2_with fail
    refine (put6_any n _ hn).mono ?_
    rintro e w1 ⟨rfl, hb⟩
    have HB := Lib.hid hb; clear hb
    go_wp2
    go_ret
    exact ⟨rfl, HB.out⟩
  · have HM := Lib.hid (show mayB n = false from decide_eq_false h)
    have hz : bytesM n = [] := by unfold bytesM; rw [bytesM_no h]
    rw [hz]
    clear hz
    go_enter Try.func18, Try.ntmps18
    go_wp2_with fail
    refine (rmay_b false n _ HM.out).mono ?_
    rintro e w' ⟨rfl, rfl⟩
    go_wp2
    go_ret
    exact ⟨rfl, Below.refl _ _⟩

/-! ### Of -/
theorem splitR48 (s : ByteArray) : splitR s [48] = if 6 ≤ s.size then ([getB s 0 48], s.extract 6 s.size, 0) else ([], ⟨#[]⟩, 1) := by
  have e1 : ([48] : List Int).all okW = true := by decide
  have e2 : tot [48] = 48 := by decide
  unfold splitR
  rw [if_pos e1, e2, if_pos (by decide)]
  by_cases h : 6 ≤ s.size
  · rw [if_pos (by omega), if_pos h]
    rfl
  · rw [if_neg (by omega), if_neg h]
theorem getB48 (s : ByteArray) (h : s.size = 6) : getB s 0 48 = s.data.toList.foldl (fun a c => a * 256 + c.toNat) 0 := by
  unfold getB
  rw [List.drop_zero, List.take_of_length_le (by rw [length_bitsB, size_list]; omega), val_bitsB]
/-- Split by one width that the caller has written out -/
theorem split_one {vs : List Nat} {r : ByteArray} {k : Nat} (s : ByteArray) (z : Int) (t : TypeId) (w : World) (h : splitR s [z] = (vs, r, k)) (hs : s.size ≤ maxLen) :
    Calls Try.prog 20 #[.string s, .slice (some ⟨w.heap.size, 0, none⟩) 1 1] (w.alloc (.cells #[.int .i64 z] t)) fun e w' => ∃ A' c', e = .returned (.tuple #[.slice A' vs.length c', .string r, .int .i64 (k : Nat)]) ∧ Rd w' w'.heap.size A' (nums .u64 vs) ∧ Below w.heap.size w w' := by
  have hR : Rd (w.alloc (.cells #[.int .i64 z] t)) (w.alloc (.cells #[.int .i64 z] t)).heap.size (some ⟨w.heap.size, 0, none⟩) (ints [z]) := Rd.of_cells (xs := ints [z]) (Blk.fresh w t #[.int .i64 z])
  refine (split_at s [z] (some ⟨w.heap.size, 0, none⟩) 1 _ h hs (by simp) hR).mono ?_
  rintro e w1 ⟨A', c', h1, h2, h3⟩
  exact ⟨A', c', h1, h2, below_one _ (by simpa using h3)⟩
theorem rsplit_one {vs : List Nat} {r : ByteArray} {k : Nat} (s : ByteArray) (z : Int) (t : TypeId) (w : World) (h : splitR s [z] = (vs, r, k)) (hs : s.size ≤ maxLen) :
    Calls Try.prog 31 #[.string s, .slice (some ⟨w.heap.size, 0, none⟩) 1 1] (w.alloc (.cells #[.int .i64 z] t)) fun e w' => ∃ A' c', e = .returned (.tuple #[.slice A' vs.length c', .string r, .int .i64 (k : Nat)]) ∧ Rd w' w'.heap.size A' (nums .u64 vs) ∧ Below w.heap.size w w' := by
  have hR : Rd (w.alloc (.cells #[.int .i64 z] t)) (w.alloc (.cells #[.int .i64 z] t)).heap.size (some ⟨w.heap.size, 0, none⟩) (ints [z]) := Rd.of_cells (xs := ints [z]) (Blk.fresh w t #[.int .i64 z])
  refine (rsplit_at s [z] (some ⟨w.heap.size, 0, none⟩) 1 _ h hs (by simp) hR).mono ?_
  rintro e w1 ⟨A', c', h1, h2, h3⟩
  exact ⟨A', c', h1, h2, below_one _ (by simpa using h3)⟩
/-- what Of answers -/
def ofR (s : List UInt8) : Nat × Nat := if s.length < 6 then (0, 1) else if 6 < s.length then (0, 2) else (s.foldl (fun a c => a * 256 + c.toNat) 0, 0)
theorem get6_any (s : ByteArray) (w : World) (h6 : s.size = 6) :
    Calls Try.prog 21 #[.string s, .int .i64 0, .int .i64 6] w fun e w' => e = .returned (.int .u64 (s.data.toList.foldl (fun a c => a * 256 + c.toNat) 0 : Nat)) ∧ Below w.heap.size w w' := by
  have hsp := splitR48 s
  rw [if_pos (by omega)] at hsp
  have HS := Lib.hid hsp; clear hsp
  have HG := Lib.hid (getB48 s h6)
  have hx : s.extract 0 s.size = s := by apply ba_ext; rw [extract_list, List.drop_zero]
  generalize getB s 0 48 = x at *
  generalize s.extract 6 s.size = r at *
  have hs0 : (0 : Int) ≤ (s.size : Int) := by omega
  have hs6 : s.size ≤ maxLen := by unfold maxLen; omega
  have HS6 := Lib.hid hs6; clear hs6
  clear h6
  go_enter Try.func21, Try.ntmps21
  go_wp2_with fail
  refine (rsplit_one s 48 _ w HS.out HS6.out).mono ?_
  rintro e w1 ⟨A', c', rfl, hr, hb⟩
  obtain ⟨ad, rfl, _, hc⟩ := hr (by simp [nums])
  have c0 := hc 0 _ rfl
  simp [Addr.add] at c0
  have HB := Lib.hid hb; clear hb hc
  go_wp2
  go_ret
  exact ⟨ret_int (by rw [← HG.out]), HB.out⟩
end Go.Proofs.Ytomchhjemfldnaa.Mc
