/-
  Tally: the document's Add, Get; the law's same.
-/
import Derived.Test.YtaadpallnhgigaaTaB
import Derived.Laws.Tables
namespace Go.Proofs.Ytaadpallnhgigaa.Ta
open Go.RowKit Go.Proofs.Ytaadpallnhgigaa.Bt Go.Proofs.Ytaadpallnhgigaa.Mm Go.Proofs.Ytaadpallnhgigaa.Fl Go.Proofs.Ytaadpallnhgigaa.Tg Go.Proofs.Ytaadpallnhgigaa.Lw

theorem size_cells (f : Nat → Nat) : (cells f).size = 16 := size_numCells _ _ _
theorem info_cells (f : Nat → Nat) : (Try.prog.info? 28).map (·.size) = some (cells f).size := by rw [size_cells]; kernel_rfl
theorem one_cells (f : Nat → Nat) : (cells f).all (·.oneCell') = true := by
  rw [Array.all_eq_true_iff_forall_mem]
  intro v hv
  simp only [cells, numCells, List.mem_toArray, List.mem_map] at hv
  obtain ⟨x, _, rfl⟩ := hv
  rfl
theorem blk_row {w : World} {g : Nat} {t : TypeId} {cs : Array Value} (h : Blk w g t cs) (cs' : Array Value) : Blk (w.setRow g cs') g t cs' := by
  unfold Blk at h ⊢
  simp [World.setRow, Array.getElem?_modify, h]
theorem far_row {w : World} {g k : Nat} {t : TypeId} {cs : Array Value} (h : Blk w g t cs) (hne : k ≠ g) (cs' : Array Value) : Blk (w.setRow k cs') g t cs := by
  unfold Blk at h ⊢
  simp [World.setRow, Array.getElem?_modify, h, hne]
theorem row_below {a w : World} {B g : Nat} (h : Below B a w) (hg : B ≤ g) (cs : Array Value) : Below B a (w.setRow g cs) :=
  ⟨h.os, h.tape, h.output, by simpa [World.setRow] using h.size, fun k hk => by
    have e : k ≠ g := by omega
    simp only [World.setRow, Array.getElem?_modify]
    rw [if_neg (fun e' => e e'.symm)]
    exact h.block k hk⟩

theorem rget_in (f : Nat → Nat) (j : Nat) (w : World) (hj : j < 16) :
    Calls Try.prog 13 #[.agg (cells f), .int .i64 (j : Nat)] w fun e w' => e = .returned (.int .u64 (f j : Nat)) ∧ Below w.heap.size w w' := by
  have h0 : 0 ≤ (j : Int) := by omega
  have h15 : (j : Int) ≤ 15 := by omega
  have hi : 0 ≤ (j : Int) ∧ (j : Int) < 16 := by omega
  have hc : (w.alloc (.cells (cells f) 28)).cell? ⟨w.heap.size, j, none⟩ = some (.int .u64 (f j : Nat)) := cell_of (Blk.fresh w _ (cells f)) j hj
  have HB := Lib.hid ((Below.refl w.heap.size w).alloc (Nat.le_refl _) (.cells (cells f) 28))
  go_enter Try.func13, Try.ntmps13
  go_wp2
  go_ret
  exact ⟨rfl, HB.out⟩
theorem rget_out (f : Nat → Nat) (k : Int) (w : World) (h : ¬ (0 ≤ k ∧ k < 16)) :
    Calls Try.prog 13 #[.agg (cells f), .int .i64 k] w fun e w' => e = .returned (.int .u64 (0 : Nat)) ∧ Below w.heap.size w w' := by
  have HB := Lib.hid ((Below.refl w.heap.size w).alloc (Nat.le_refl _) (.cells (cells f) 28))
  by_cases h1 : k < 0
  · go_enter Try.func13, Try.ntmps13
    go_wp2
    go_ret
    exact ⟨rfl, HB.out⟩
  · have h2 : 15 < k := by omega
    clear h
    go_enter Try.func13, Try.ntmps13
    go_wp2
    go_ret
    exact ⟨rfl, HB.out⟩
theorem rget_any (f : Nat → Nat) (k : Int) (w : World) :
    Calls Try.prog 13 #[.agg (cells f), .int .i64 k] w fun e w' => e = .returned (.int .u64 (getF f k : Nat)) ∧ Below w.heap.size w w' := by
  unfold getF
  by_cases h : 0 ≤ k ∧ k < 16
  · rw [if_pos h]
    obtain ⟨j, rfl⟩ := Int.eq_ofNat_of_zero_le h.1
    exact rget_in f j w (by omega)
  · rw [if_neg h]
    exact rget_out f k w h

/-- the two variables of the document's Add, made -/
theorem two_made (f : Nat → Nat) (w : World) (z : Array Value) : ∃ w1 : World, w1 = (w.alloc (.cells (cells f) 28)).alloc (.cells z 28) ∧ Blk w1 w.heap.size 28 (cells f) ∧ Blk w1 (w.heap.size + 1) 28 z ∧ Below w.heap.size w w1 :=
  ⟨_, rfl, (Blk.fresh _ _ _).alloc _, fresh_second _ _ _ _, ((Below.refl _ _).alloc (Nat.le_refl _) _).alloc (by simp) _⟩
abbrev zero16 : Array Value := #[.int .u64 0, .int .u64 0, .int .u64 0, .int .u64 0, .int .u64 0, .int .u64 0, .int .u64 0, .int .u64 0, .int .u64 0, .int .u64 0, .int .u64 0, .int .u64 0, .int .u64 0, .int .u64 0, .int .u64 0, .int .u64 0]

theorem radd_out (f : Nat → Nat) (k : Int) (n : Nat) (w : World) (h : ¬ (0 ≤ k ∧ k < 16)) :
    Calls Try.prog 10 #[.agg (cells f), .int .i64 k, .int .u64 (n : Nat)] w fun e w' => e = .returned (.agg (cells f)) ∧ Below w.heap.size w w' := by
  obtain ⟨w1, hw1, ba, bz, bb⟩ := two_made f w zero16
  have BA := Lib.hid ba
  have BZ := Lib.hid bz
  have BB := Lib.hid bb
  clear ba bz bb
  by_cases h1 : k < 0
  · go_enter Try.func10, Try.ntmps10
    go_upto_region 1 with (fail)
    rw [← hw1]
    clear hw1
    go_wp2_with (first | (refine wpList_load_row rfl 28 _ rfl _ rfl _ _ _ _ BA.out Try.underlying28 rfl (info_cells f) ?_) | (refine wpList_store_row rfl 28 _ _ rfl _ _ rfl rfl _ _ BZ.out (info_cells f) (size_cells f).symm (one_cells f) ?_))
    refine bodyPost_ret (results_cell_row rfl _ _ _ _ _ _ _ rfl (blk_row BZ.out (cells f)) Try.underlying28 rfl (info_cells f)) rfl ?_
    exact ⟨rfl, row_below BB.out (Nat.le_succ _) _⟩
  · have h2 : 15 < k := by omega
    clear h
    go_enter Try.func10, Try.ntmps10
    go_upto_region 1 with (fail)
    rw [← hw1]
    clear hw1
    go_wp2_with (first | (refine wpList_load_row rfl 28 _ rfl _ rfl _ _ _ _ BA.out Try.underlying28 rfl (info_cells f) ?_) | (refine wpList_store_row rfl 28 _ _ rfl _ _ rfl rfl _ _ BZ.out (info_cells f) (size_cells f).symm (one_cells f) ?_))
    refine bodyPost_ret (results_cell_row rfl _ _ _ _ _ _ _ rfl (blk_row BZ.out (cells f)) Try.underlying28 rfl (info_cells f)) rfl ?_
    exact ⟨rfl, row_below BB.out (Nat.le_succ _) _⟩

theorem radd_in (f : Nat → Nat) (j n : Nat) (w : World) (hj : j < 16) (hf : Ok f) (_hn : n < 18446744073709551616) :
    Calls Try.prog 10 #[.agg (cells f), .int .i64 (j : Nat), .int .u64 (n : Nat)] w fun e w' => e = .returned (.agg (cells (addF f j n))) ∧ Below w.heap.size w w' := by
  obtain ⟨w1, hw1, ba, bz, bb⟩ := two_made f w zero16
  have hc := cell_of ba j hj
  have hz := ba.frozen j
  have hfj := hf j
  have h0 : 0 ≤ (j : Int) := by omega
  have h15 : (j : Int) ≤ 15 := by omega
  have hi : 0 ≤ (j : Int) ∧ (j : Int) < 16 := by omega
  have b2 := ba.put j (.int .u64 (sat (f j) n : Nat))
  rw [cells_in] at b2
  have z2 := bz.far (p := ⟨w.heap.size, j, none⟩) (by simp) (.int .u64 (sat (f j) n : Nat))
  have e2 := bb.setCell (p := ⟨w.heap.size, j, none⟩) (Nat.le_refl _) (.int .u64 (sat (f j) n : Nat))
  obtain ⟨f2, hf2⟩ : ∃ f2, f2 = addF f j n := ⟨_, rfl⟩
  rw [← hf2] at b2 ⊢
  have BA := Lib.hid b2
  have BZ := Lib.hid z2
  have BB := Lib.hid e2
  have HF := Lib.hid hf
  have HF2 := Lib.hid hf2
  clear ba bz bb b2 z2 e2 hf hf2
  have hw : IntKind.u64.wrap (18446744073709551615 - (f j : Int)) = 18446744073709551615 - (f j : Int) := by rw [IntKind.wrap_u64]; omega
  by_cases hs : 18446744073709551615 < f j + n
  · have hlt : 18446744073709551615 - (f j : Int) < (n : Int) := by omega
    have hS : sat (f j) n = 18446744073709551615 := by unfold sat; rw [if_pos hs]
    rw [hS] at BA BZ BB
    clear hS hs
    go_enter Try.func10, Try.ntmps10
    go_upto_region 1 with (fail)
    rw [← hw1]
    clear hw1
    go_wp2_with (first | (refine wpList_load_row rfl 28 _ rfl _ rfl _ _ _ _ BA.out Try.underlying28 rfl (info_cells f2) ?_) | (refine wpList_store_row rfl 28 _ _ rfl _ _ rfl rfl _ _ BZ.out (info_cells f2) (size_cells f2).symm (one_cells f2) ?_))
    refine bodyPost_ret (results_cell_row rfl _ _ _ _ _ _ _ rfl (blk_row BZ.out (cells f2)) Try.underlying28 rfl (info_cells f2)) rfl ?_
    exact ⟨rfl, row_below BB.out (Nat.le_succ _) _⟩
  · have hlt : ¬ 18446744073709551615 - (f j : Int) < (n : Int) := by omega
    have hS : sat (f j) n = f j + n := by unfold sat; rw [if_neg hs]
    have hw2 : IntKind.u64.wrap ((f j : Int) + (n : Int)) = (f j : Int) + (n : Int) := by rw [IntKind.wrap_u64]; omega
    rw [hS] at BA BZ BB
    rw [show ((f j + n : Nat) : Int) = (f j : Int) + (n : Int) from Int.natCast_add _ _] at BA BZ BB
    clear hS hs
    go_enter Try.func10, Try.ntmps10
    go_upto_region 1 with (fail)
    rw [← hw1]
    clear hw1
    go_wp2_with (first | (refine wpList_load_row rfl 28 _ rfl _ rfl _ _ _ _ BA.out Try.underlying28 rfl (info_cells f2) ?_) | (refine wpList_store_row rfl 28 _ _ rfl _ _ rfl rfl _ _ BZ.out (info_cells f2) (size_cells f2).symm (one_cells f2) ?_))
    refine bodyPost_ret (results_cell_row rfl _ _ _ _ _ _ _ rfl (blk_row BZ.out (cells f2)) Try.underlying28 rfl (info_cells f2)) rfl ?_
    exact ⟨rfl, row_below BB.out (Nat.le_succ _) _⟩
theorem radd_any (f : Nat → Nat) (k : Int) (n : Nat) (w : World) (hf : Ok f) (hn : n < 18446744073709551616) :
    Calls Try.prog 10 #[.agg (cells f), .int .i64 k, .int .u64 (n : Nat)] w fun e w' => e = .returned (.agg (cells (addF f k n))) ∧ Below w.heap.size w w' := by
  by_cases h : 0 ≤ k ∧ k < 16
  · obtain ⟨j, rfl⟩ := Int.eq_ofNat_of_zero_le h.1
    exact radd_in f j n w (by omega) hf hn
  · rw [cells_out _ _ _ h]
    exact radd_out f k n w h

theorem same_any (f : Nat → Nat) (b : Nat) (w : World) (hb : Blk w b 26 (cells f)) :
    Calls Try.prog 7 #[.slice (some ⟨b, 0, none⟩) 16 16, .agg (cells f)] w fun e w' => e = .returned (.bool true) ∧ Below w.heap.size w w' := by
  obtain ⟨w1, hw1, ba, bx, bb⟩ : ∃ w1 : World, w1 = w.alloc (.cells (cells f) 28) ∧ Blk w1 w.heap.size 28 (cells f) ∧ Blk w1 b 26 (cells f) ∧ Below w.heap.size w w1 :=
    ⟨_, rfl, Blk.fresh _ _ _, hb.alloc _, (Below.refl _ _).alloc (Nat.le_refl _) _⟩
  have BA := Lib.hid ba
  have BX := Lib.hid bx
  have BB := Lib.hid bb
  clear ba bx bb hb
  go_enter Try.func7, Try.ntmps7
  go_upto_region 1 with (fail)
  rw [← hw1]
  clear hw1
  go_wp2
  go_loopw [11] (fun i wr => ∃ k : Nat, k ≤ 16 ∧ i = .int .i64 k ∧ Below w1.heap.size w1 wr) (fun i _ => 16 - (intOf i).toNat)
  case atStart => exact ⟨0, Nat.zero_le _, rfl, Below.refl _ _⟩
  case round =>
    obtain ⟨k, hk, rfl, hbl⟩ := hrel
    by_cases hlt : k < 16
    · have c0 := cell_of (BA.out.below hbl BA.out.lt) k hlt
      have c1 := cell_of (BX.out.below hbl BX.out.lt) k hlt
      have hi : 0 ≤ (k : Int) ∧ (k : Int) < 16 := by omega
      have hne : ((f k : Int) != (f k : Int)) = false := by simp
      have HL := Lib.hid hbl; clear hbl
      go_wp2
      go_quiet (fail)
      go_wp2
      exact ⟨⟨k + 1, by omega, by go_num, below_drewN HL.out _⟩, by simp [intOf]; omega⟩
    · have HL := Lib.hid hbl; clear hbl
      go_wp2
      go_ret
      exact ⟨rfl, BB.out.trans (HL.out.mono BB.out.size)⟩
end Go.Proofs.Ytaadpallnhgigaa.Ta
