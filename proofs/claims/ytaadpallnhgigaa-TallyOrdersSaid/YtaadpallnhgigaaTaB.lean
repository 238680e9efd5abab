/-
  Tally: New, Add, Get by contracts over the counters as a function.
-/
import Derived.Test.YtaadpallnhgigaaTaA
namespace Go.Proofs.Ytaadpallnhgigaa.Ta
open Go.RowKit Go.Proofs.Ytaadpallnhgigaa.Bt Go.Proofs.Ytaadpallnhgigaa.Mm Go.Proofs.Ytaadpallnhgigaa.Fl Go.Proofs.Ytaadpallnhgigaa.Tg

/-- the counters behind one addition -/
def addF (f : Nat → Nat) (k : Int) (n : Nat) : Nat → Nat := fun i => if (i : Int) = k then sat (f i) n else f i
/-- a counter; 0, if there is no such -/
def getF (f : Nat → Nat) (k : Int) : Nat := if 0 ≤ k ∧ k < 16 then f k.toNat else 0
/-- the counters as cells -/
def cells (f : Nat → Nat) : Array Value := numCells .u64 16 f
def Ok (f : Nat → Nat) : Prop := ∀ i, f i < 18446744073709551616
theorem Ok.add {f : Nat → Nat} (h : Ok f) (k : Int) (n : Nat) : Ok (addF f k n) := fun i => by
  unfold addF
  split
  · exact sat_lt _ _
  · exact h i
theorem cells_out (f : Nat → Nat) (k : Int) (n : Nat) (h : ¬ (0 ≤ k ∧ k < 16)) : cells (addF f k n) = cells f := by
  refine numCells_congr fun i hi => ?_
  unfold addF
  rw [if_neg (by omega)]
theorem cells_in (f : Nat → Nat) (j n : Nat) : (cells f).setIfInBounds j (.int .u64 (sat (f j) n : Nat)) = cells (addF f j n) := by
  refine put_numCells .u64 16 f (addF f j n) j _ ?_ fun i hi => ?_
  · unfold addF; rw [if_pos rfl]
  · unfold addF; rw [if_neg (by omega)]
theorem cell_of {w : World} {g : Nat} {t : TypeId} {f : Nat → Nat} (h : Blk w g t (cells f)) (j : Nat) (hj : j < 16) : w.cell? ⟨g, j, none⟩ = some (.int .u64 (f j : Nat)) := by
  rw [h.cell]; exact get_numCells _ _ _ _ hj

theorem new_any (w : World) :
    Calls Try.prog 5 #[] w fun e w' => ∃ g, e = .returned (.pointer (some ⟨g, 0, none⟩)) ∧ w.heap.size ≤ g ∧ Blk w' g 47 (cells (fun _ => 0)) ∧ Below w.heap.size w w' := by
  go_enter Try.func5, Try.ntmps5
  go_wp2
  go_ret
  exact ⟨_, rfl, Nat.le_refl _, Blk.fresh _ _ _, (Below.refl _ _).alloc (Nat.le_refl _) _⟩

theorem add_in (f : Nat → Nat) (j n g : Nat) (w : World) (hj : j < 16) (hf : Ok f) (hn : n < 18446744073709551616) (hb : Blk w g 47 (cells f)) :
    Calls Try.prog 9 #[.pointer (some ⟨g, 0, none⟩), .int .i64 (j : Nat), .int .u64 (n : Nat)] w fun e w' => e = .returned (.tuple #[]) ∧ Blk w' g 47 (cells (addF f j n)) ∧ Only g w w' := by
  have hm : decide (0 ≤ (j : Int) ∧ (j : Int) < 16) = true := decide_eq_true (by omega)
  have HM := Lib.hid hm; clear hm
  have hc := cell_of hb j hj
  have hz := hb.frozen j
  have hi : 0 ≤ (j : Int) ∧ (j : Int) < 16 := by omega
  have hfj := hf j
  have HF := Lib.hid hf; clear hf
  go_enter Try.func9, Try.ntmps9
  go_wp2_with (go_at_call 15; refine (may_t _ _ _ HM).mono ?_; rintro e w1 ⟨rfl, rfl⟩)
  refine wp_loop_once ?_
  go_wp2_with (go_at_call 16; refine (load_at _ _ _ _ hc).mono ?_; rintro e w1 ⟨rfl, rfl⟩)
  go_region_with (first | (go_at_call 18; refine (sum_any _ _ _ hfj hn).mono ?_; rintro e w2 ⟨rfl, rfl⟩) | (go_at_call 17; refine (cas_at _ _ _ _ _ (by assumption) (by assumption)).mono ?_; rintro e w2 ⟨rfl, rfl⟩))
  go_wp2
  refine bodyPost_ret (results_none rfl _ _ _) rfl ?_
  have hb2 := hb.put j (.int .u64 (sat (f j) n : Nat))
  rw [cells_in] at hb2
  exact ⟨rfl, hb2, ((Only.refl _ _).put _ _).drew⟩

theorem get_in (f : Nat → Nat) (j g : Nat) (w : World) (hj : j < 16) (hb : Blk w g 47 (cells f)) :
    Calls Try.prog 12 #[.pointer (some ⟨g, 0, none⟩), .int .i64 (j : Nat)] w fun e w' => e = .returned (.int .u64 (f j : Nat)) ∧ w' = w := by
  have hm : decide (0 ≤ (j : Int) ∧ (j : Int) < 16) = true := decide_eq_true (by omega)
  have HM := Lib.hid hm; clear hm
  have hc := cell_of hb j hj
  have hi : 0 ≤ (j : Int) ∧ (j : Int) < 16 := by omega
  go_enter Try.func12, Try.ntmps12
  go_wp2_with (go_at_call 15; refine (may_t _ _ _ HM).mono ?_; rintro e w1 ⟨rfl, rfl⟩)
  go_wp2_with (go_at_call 16; refine (load_at _ _ _ _ hc).mono ?_; rintro e w1 ⟨rfl, rfl⟩)
  go_ret
  exact ⟨rfl, rfl⟩
end Go.Proofs.Ytaadpallnhgigaa.Ta
