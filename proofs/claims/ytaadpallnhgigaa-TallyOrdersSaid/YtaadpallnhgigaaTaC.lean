/-
  Tally: All, Reset: a new row of the counters.
-/
import Derived.Test.YtaadpallnhgigaaTaB
namespace Go.Proofs.Ytaadpallnhgigaa.Ta
open Go.RowKit Go.Proofs.Ytaadpallnhgigaa.Bt Go.Proofs.Ytaadpallnhgigaa.Mm Go.Proofs.Ytaadpallnhgigaa.Fl Go.Proofs.Ytaadpallnhgigaa.Tg Go.Proofs.Ytaadpallnhgigaa.Lw

def upF (f : Nat → Nat) (k i : Nat) : Nat := if i < k then f i else 0
def dnF (f : Nat → Nat) (k i : Nat) : Nat := if i < k then 0 else f i
theorem up_none (f : Nat → Nat) : cells (upF f 0) = cells (fun _ => 0) := numCells_congr fun i _ => by unfold upF; rw [if_neg (by omega)]
theorem up_all (f : Nat → Nat) : cells (upF f 16) = cells f := numCells_congr fun i hi => by unfold upF; rw [if_pos hi]
theorem dn_none (f : Nat → Nat) : cells (dnF f 0) = cells f := numCells_congr fun i _ => by unfold dnF; rw [if_neg (by omega)]
theorem dn_all (f : Nat → Nat) : cells (dnF f 16) = cells (fun _ => 0) := numCells_congr fun i hi => by unfold dnF; rw [if_pos hi]
theorem up_put (f : Nat → Nat) (k : Nat) : (cells (upF f k)).setIfInBounds k (.int .u64 (f k : Nat)) = cells (upF f (k + 1)) := by
  refine put_numCells .u64 16 (upF f k) (upF f (k + 1)) k _ ?_ fun i hi => ?_
  · unfold upF; rw [if_pos (by omega)]
  · unfold upF
    by_cases h : i < k
    · rw [if_pos h, if_pos (by omega)]
    · rw [if_neg h, if_neg (by omega)]
theorem dn_put (f : Nat → Nat) (k : Nat) : (cells (dnF f k)).setIfInBounds k (.int .u64 (0 : Nat)) = cells (dnF f (k + 1)) := by
  refine put_numCells .u64 16 (dnF f k) (dnF f (k + 1)) k _ ?_ fun i hi => ?_
  · unfold dnF; rw [if_pos (by omega)]
  · unfold dnF
    by_cases h : i < k
    · rw [if_pos h, if_pos (by omega)]
    · rw [if_neg h, if_neg (by omega)]

theorem only_new {a w : World} {g : Nat} (h : Only g a w) {p : Addr} (hp : a.heap.size ≤ p.block) (u : Value) : Only g a (w.setCell p u) :=
  ⟨h.os, h.tape, h.output, by simpa [World.setCell] using h.size, fun k hk hne => (Below.heap_setCell w p u k (by omega)).trans (h.block k hk hne)⟩
theorem mk16 (w : World) : (Instr.makeSlice 32 (.int .i64 16) (.int .i64 16)).run Try.prog w = .ok (.slice (some ⟨w.heap.size, 0, none⟩) 16 16) (w.alloc (.cells (cells (fun _ => 0)) 26)) := by
  obtain ⟨i0, hi, hz0, hz1, hz2⟩ := info_parts info_u64
  have h := run_make (P := Try.prog) w 32 26 i0 (.int .u64 0) Try.underlying32 hi hz0 .i64 .i64 16 16 (by omega) (Int.le_refl _) (by rw [hz2]; omega) (by omega)
  rw [show ((16 : Int)).toNat = 16 by decide, hz1, made_nums] at h
  exact h
theorem all_any (f : Nat → Nat) (g : Nat) (w : World) (hb : Blk w g 47 (cells f)) :
    Calls Try.prog 11 #[.pointer (some ⟨g, 0, none⟩)] w fun e w' => ∃ b, e = .returned (.slice (some ⟨b, 0, none⟩) 16 16) ∧ Blk w' b 26 (cells f) ∧ Below w.heap.size w w' := by
  have hmk := mk16 w
  have HB := Lib.hid hb
  have hgl := hb.lt
  clear hb
  go_enter Try.func11, Try.ntmps11
  go_wp2
  clear hmk
  go_loopw [6] (fun i wr => ∃ k : Nat, k ≤ 16 ∧ i = .int .i64 k ∧ Blk wr w.heap.size 26 (cells (upF f k)) ∧ Below w.heap.size w wr) (fun i _ => 16 - (intOf i).toNat)
  case atStart => exact ⟨0, Nat.zero_le _, rfl, by rw [up_none]; exact Blk.fresh _ _ _, (Below.refl _ _).alloc (Nat.le_refl _) _⟩
  case round =>
    obtain ⟨k, hk, rfl, hg, hbl⟩ := hrel
    by_cases hlt : k < 16
    · have c0 := cell_of (HB.out.below hbl hgl) k hlt
      have c1 := cell_of hg k hlt
      have z1 := hg.frozen k
      have hi : 0 ≤ (k : Int) ∧ (k : Int) < 16 := by omega
      have HG := Lib.hid hg; clear hg
      have HL := Lib.hid hbl; clear hbl
      go_wp2_with (go_at_call 16; refine (load_at _ _ _ _ c0).mono ?_; rintro e w1 ⟨rfl, rfl⟩)
      refine ⟨⟨k + 1, by omega, by go_num, ?_, HL.out.setCell (Nat.le_refl _) _⟩, by simp [intOf]; omega⟩
      have h2 := HG.out.put k (.int .u64 (f k : Nat))
      rw [up_put] at h2
      exact h2
    · obtain rfl : k = 16 := by omega
      rw [up_all] at hg
      have HG := Lib.hid hg; clear hg
      have HL := Lib.hid hbl; clear hbl
      go_wp2
      go_ret
      exact ⟨_, rfl, HG.out, HL.out⟩
theorem reset_any (f : Nat → Nat) (g : Nat) (w : World) (hb : Blk w g 47 (cells f)) :
    Calls Try.prog 8 #[.pointer (some ⟨g, 0, none⟩)] w fun e w' => ∃ b, e = .returned (.slice (some ⟨b, 0, none⟩) 16 16) ∧ w.heap.size ≤ b ∧ Blk w' b 26 (cells f) ∧ Blk w' g 47 (cells (fun _ => 0)) ∧ Only g w w' := by
  have hmk := mk16 w
  have HB := Lib.hid hb
  have hgl := hb.lt
  have hne : ¬ g = w.heap.size := by omega
  clear hb
  go_enter Try.func8, Try.ntmps8
  go_wp2
  clear hmk
  go_loopw [6] (fun i wr => ∃ k : Nat, k ≤ 16 ∧ i = .int .i64 k ∧ Blk wr w.heap.size 26 (cells (upF f k)) ∧ Blk wr g 47 (cells (dnF f k)) ∧ Only g w wr) (fun i _ => 16 - (intOf i).toNat)
  case atStart => exact ⟨0, Nat.zero_le _, rfl, by rw [up_none]; exact Blk.fresh _ _ _, by rw [dn_none]; exact HB.out.alloc _, (Only.refl _ _).alloc _⟩
  case round =>
    obtain ⟨k, hk, rfl, hg, hd, hbl⟩ := hrel
    by_cases hlt : k < 16
    · have c0 : wr.cell? ⟨g, k, none⟩ = some (.int .u64 (f k : Nat)) := by
        have := cell_of hd k hlt
        rw [this]; unfold dnF; rw [if_neg (by omega)]
      have z0 := hd.frozen k
      have c1 := cell_of hg k hlt
      have z1 := hg.frozen k
      have hi : 0 ≤ (k : Int) ∧ (k : Int) < 16 := by omega
      have HG := Lib.hid hg; clear hg
      have HD := Lib.hid hd; clear hd
      have HL := Lib.hid hbl; clear hbl
      go_wp2_with (go_at_call 14; refine (swap_at _ _ _ _ _ c0 z0).mono ?_; rintro e w1 ⟨rfl, rfl⟩)
      refine ⟨⟨k + 1, by omega, by go_num, ?_, ?_, only_new (HL.out.put _ _) (Nat.le_refl _) _⟩, by simp [intOf]; omega⟩
      · have h2 := (HG.out.far (p := ⟨g, k, none⟩) (fun e => hne e.symm) (.int .u64 0)).put k (.int .u64 (f k : Nat))
        rw [up_put] at h2
        exact h2
      · have h2 := HD.out.put k (.int .u64 (0 : Nat))
        rw [dn_put] at h2
        exact h2.far (p := ⟨w.heap.size, k, none⟩) hne _
    · obtain rfl : k = 16 := by omega
      rw [up_all] at hg
      rw [dn_all] at hd
      have HG := Lib.hid hg; clear hg
      have HD := Lib.hid hd; clear hd
      have HL := Lib.hid hbl; clear hbl
      go_wp2
      go_ret
      exact ⟨_, rfl, Nat.le_refl _, HG.out, HD.out, HL.out⟩

theorem add_any (f : Nat → Nat) (k : Int) (n g : Nat) (w : World) (hf : Ok f) (hn : n < 18446744073709551616) (hb : Blk w g 47 (cells f)) :
    Calls Try.prog 9 #[.pointer (some ⟨g, 0, none⟩), .int .i64 k, .int .u64 (n : Nat)] w fun e w' => e = .returned (.tuple #[]) ∧ Blk w' g 47 (cells (addF f k n)) ∧ Only g w w' := by
  by_cases h : 0 ≤ k ∧ k < 16
  · obtain ⟨j, rfl⟩ := Int.eq_ofNat_of_zero_le h.1
    exact add_in f j n g w (by omega) hf hn hb
  · rw [cells_out _ _ _ h]
    have HM := Lib.hid (show decide (0 ≤ k ∧ k < 16) = false from decide_eq_false h)
    have HB := Lib.hid hb
    clear h hf hb
    go_enter Try.func9, Try.ntmps9
    go_wp2_with (go_at_call 15; refine (may_t _ _ _ HM).mono ?_; rintro e w1 ⟨rfl, rfl⟩)
    refine bodyPost_ret (results_none rfl _ _ _) rfl ?_
    exact ⟨rfl, HB.out, Only.refl _ _⟩
theorem get_any (f : Nat → Nat) (k : Int) (g : Nat) (w : World) (hb : Blk w g 47 (cells f)) :
    Calls Try.prog 12 #[.pointer (some ⟨g, 0, none⟩), .int .i64 k] w fun e w' => e = .returned (.int .u64 (getF f k : Nat)) ∧ w' = w := by
  by_cases h : 0 ≤ k ∧ k < 16
  · have e : getF f k = f k.toNat := by unfold getF; rw [if_pos h]
    rw [e]
    obtain ⟨j, rfl⟩ := Int.eq_ofNat_of_zero_le h.1
    exact get_in f j g w (by omega) hb
  · have HR := Lib.hid (show getF f k = 0 by unfold getF; rw [if_neg h])
    have HM := Lib.hid (show decide (0 ≤ k ∧ k < 16) = false from decide_eq_false h)
    clear h hb
    go_enter Try.func12, Try.ntmps12
    go_wp2_with (go_at_call 15; refine (may_t _ _ _ HM).mono ?_; rintro e w1 ⟨rfl, rfl⟩)
    go_ret
    exact ⟨by rw [HR.out]; rfl, rfl⟩
end Go.Proofs.Ytaadpallnhgigaa.Ta
