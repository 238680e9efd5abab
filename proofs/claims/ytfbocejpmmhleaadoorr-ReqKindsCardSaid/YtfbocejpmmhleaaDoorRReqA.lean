/-
  The package req and the document's answers for it: contracts.
-/
import Derived.Test.YtfbocejpmmhleaaDoorRRpJ
import Derived.Test.YtfbocejpmmhleaaDoorRLaidS
import Derived.Test.YtfbocejpmmhleaaDoorRRows
namespace Go.Proofs.YtfbocejpmmhleaaDoorR.Rq
open Go.RowKit Go.Proofs.YtfbocejpmmhleaaDoorR.Bt Go.Proofs.YtfbocejpmmhleaaDoorR.Mm Go.Proofs.YtfbocejpmmhleaaDoorR.Fl Go.Proofs.YtfbocejpmmhleaaDoorR.Lw

/-- the requests' words -/
def wds : List (List UInt8) := [[99, 108, 101, 97, 114], [102, 115], [114, 101, 109, 111, 116, 101, 45, 102, 115], [115, 102], [99, 108, 101, 97, 114, 45, 115, 102], [114, 101, 109, 111, 116, 101, 45, 115, 102], [114, 101, 109, 111, 116, 101, 45, 109, 115], [109, 115], [114, 101, 115, 116, 45, 111, 118, 101, 114], [114, 101, 115, 116, 45, 114, 117, 110, 115], [98, 108, 111, 99, 107, 45, 111, 118, 101, 114], [98, 108, 111, 99, 107, 45, 114, 117, 110, 115], [114, 101, 109, 111, 116, 101, 45, 105, 100, 108, 101], [114, 101, 109, 111, 116, 101, 45, 110, 111, 110, 101]]
def wd (n : Nat) : ByteArray := ⟨(wds.getD n []).toArray⟩
def noW : ByteArray := ⟨#[110, 111, 110, 101]⟩
def mayK (k : Int) : Bool := decide (0 ≤ k) && decide (k < 14)
def aboveK (k l : Int) : Bool := mayK k && (!mayK l || decide (k < l))
def wordK (k : Int) : ByteArray := if mayK k = true then wd k.toNat else noW
def remK (k : Int) : Bool := k == 2 || k == 5 || k == 6 || k == 12 || k == 13
theorem may_yes {k : Int} (h : mayK k = true) : 0 ≤ k ∧ k < 14 := by simpa [mayK] using h
theorem may_no {k : Int} (h : mayK k = false) : k < 0 ∨ 14 ≤ k := by
  simp [mayK] at h
  omega

/-- the table of words lies where it was laid -/
def Wd (w : World) : Prop := ∀ i, i < 14 → w.cell? ⟨0, i, none⟩ = some (.string (wd i))
theorem Wd.lt {w : World} (h : Wd w) : 0 < w.heap.size := by
  have h0 := h 0 (by decide)
  by_cases hl : 0 < w.heap.size
  · exact hl
  · unfold World.cell? at h0
    rw [Array.getElem?_eq_none (by simpa using hl)] at h0
    simp at h0
theorem Wd.below {w w' : World} {B : Nat} (h : Wd w) (hb : Below B w w') (hB : 0 < B) : Wd w' := fun i hi => (hb.cell (p := ⟨0, i, none⟩) hB).trans (h i hi)
theorem wd_of_laid {W : World} (h : laidMetH Tryd.prog [("carousel/req.words", Rows.laid_carousel_req_words)] W) : Wd W := by
  rw [MakeChecks.laidMetH_plain _ _ _ (by kernel_rfl)] at h
  obtain ⟨ps, ⟨g, t, cs, fuel, p, q, hg, ht, hvar, hd, _, _⟩, _⟩ := h
  have eg : Tryd.prog.globalNamed "carousel/req.words" = some 0 := by kernel_rfl
  have et : (Tryd.prog.globals[0]?).map (·.type) = some 33 := by kernel_rfl
  obtain rfl := Option.some.inj (eg.symm.trans hg)
  obtain rfl := Option.some.inj (et.symm.trans ht)
  obtain ⟨_, hcs⟩ := Ld.cells_of_texts (zs := wds) Tryd.underlying33 Tryd.underlying9 (by kernel_rfl) (by kernel_rfl) hd
  intro i hi
  have := World.var?_cell hg hvar i
  rw [this, ← Array.getElem?_toList, hcs]
  simp [wd, List.getElem?_eq_getElem (show i < wds.length from hi)]

theorem may_any (k : Int) (w : World) : Calls Tryd.prog 6 #[.int .i64 k] w fun e w' => e = .returned (.bool (mayK k)) ∧ w' = w := by
  by_cases h1 : 0 ≤ k
  · have d1 : decide (0 ≤ k) = true := decide_eq_true h1
    go_enter Tryd.func6, Tryd.ntmps6
    go_wp2
    go_ret
    exact ⟨by simp [mayK, d1], rfl⟩
  · have d1 : decide (0 ≤ k) = false := decide_eq_false h1
    go_enter Tryd.func6, Tryd.ntmps6
    go_wp2
    go_ret
    exact ⟨by simp [mayK, d1], rfl⟩
theorem may_b {b : Bool} {k : Int} (h : Hid (mayK k = b)) (w : World) : Calls Tryd.prog 6 #[.int .i64 k] w fun e w' => e = .returned (.bool b) ∧ w' = w := by
  rw [← h.out]; exact may_any k w
theorem rmay_any (k : Int) (w : World) : Calls Tryd.prog 7 #[.int .i64 k] w fun e w' => e = .returned (.bool (mayK k)) ∧ w' = w := by
  by_cases h1 : 0 ≤ k
  · have d1 : decide (0 ≤ k) = true := decide_eq_true h1
    go_enter Tryd.func7, Tryd.ntmps7
    go_wp2
    go_ret
    exact ⟨by simp [mayK, d1]; omega, rfl⟩
  · have d1 : decide (0 ≤ k) = false := decide_eq_false h1
    go_enter Tryd.func7, Tryd.ntmps7
    go_wp2
    go_ret
    exact ⟨by simp [mayK, d1], rfl⟩
theorem rmay_b {b : Bool} {k : Int} (h : Hid (mayK k = b)) (w : World) : Calls Tryd.prog 7 #[.int .i64 k] w fun e w' => e = .returned (.bool b) ∧ w' = w := by
  rw [← h.out]; exact rmay_any k w
theorem above_any (k l : Int) (w : World) : Calls Tryd.prog 12 #[.int .i64 k, .int .i64 l] w fun e w' => e = .returned (.bool (aboveK k l)) ∧ w' = w := by
  obtain ⟨a, ha⟩ : ∃ a, mayK k = a := ⟨_, rfl⟩
  obtain ⟨b, hb⟩ : ∃ b, mayK l = b := ⟨_, rfl⟩
  have HA := Lib.hid ha
  have HB := Lib.hid hb
  clear ha hb
  cases a
  · go_enter Tryd.func12, Tryd.ntmps12
    go_wp2_with fail
    refine (may_b HA w).mono ?_
    rintro e w1 ⟨rfl, rfl⟩
    go_wp2
    go_ret
    exact ⟨by simp [aboveK, HA.out], rfl⟩
  · cases b
    · go_enter Tryd.func12, Tryd.ntmps12
      go_wp2_with fail
      refine (may_b HA w).mono ?_
      rintro e w1 ⟨rfl, rfl⟩
      go_wp2_with fail
      refine (may_b HB w1).mono ?_
      rintro e w2 ⟨rfl, rfl⟩
      go_wp2
      go_ret
      exact ⟨by simp [aboveK, HA.out, HB.out], rfl⟩
    · go_enter Tryd.func12, Tryd.ntmps12
      go_wp2_with fail
      refine (may_b HA w).mono ?_
      rintro e w1 ⟨rfl, rfl⟩
      go_wp2_with fail
      refine (may_b HB w1).mono ?_
      rintro e w2 ⟨rfl, rfl⟩
      go_wp2
      go_ret
      exact ⟨by simp [aboveK, HA.out, HB.out], rfl⟩
theorem above_b {b : Bool} {k l : Int} (h : Hid (aboveK k l = b)) (w : World) : Calls Tryd.prog 12 #[.int .i64 k, .int .i64 l] w fun e w' => e = .returned (.bool b) ∧ w' = w := by
  rw [← h.out]; exact above_any k l w
theorem rabove_any (k l : Int) (w : World) : Calls Tryd.prog 13 #[.int .i64 k, .int .i64 l] w fun e w' => e = .returned (.bool (aboveK k l)) ∧ w' = w := by
  obtain ⟨a, ha⟩ : ∃ a, mayK k = a := ⟨_, rfl⟩
  obtain ⟨b, hb⟩ : ∃ b, mayK l = b := ⟨_, rfl⟩
  have HA := Lib.hid ha
  have HB := Lib.hid hb
  clear ha hb
  cases a
  · go_enter Tryd.func13, Tryd.ntmps13
    go_wp2_with fail
    refine (rmay_b HA w).mono ?_
    rintro e w1 ⟨rfl, rfl⟩
    go_wp2
    go_ret
    exact ⟨by simp [aboveK, HA.out], rfl⟩
  · cases b
    · go_enter Tryd.func13, Tryd.ntmps13
      go_wp2_with fail
      refine (rmay_b HA w).mono ?_
      rintro e w1 ⟨rfl, rfl⟩
      go_wp2_with fail
      refine (rmay_b HB w1).mono ?_
      rintro e w2 ⟨rfl, rfl⟩
      go_wp2
      go_ret
      exact ⟨by simp [aboveK, HA.out, HB.out], rfl⟩
    · go_enter Tryd.func13, Tryd.ntmps13
      go_wp2_with fail
      refine (rmay_b HA w).mono ?_
      rintro e w1 ⟨rfl, rfl⟩
      go_wp2_with fail
      refine (rmay_b HB w1).mono ?_
      rintro e w2 ⟨rfl, rfl⟩
      go_wp2
      go_ret
      exact ⟨by simp [aboveK, HA.out, HB.out], rfl⟩
theorem rabove_b {b : Bool} {k l : Int} (h : Hid (aboveK k l = b)) (w : World) : Calls Tryd.prog 13 #[.int .i64 k, .int .i64 l] w fun e w' => e = .returned (.bool b) ∧ w' = w := by
  rw [← h.out]; exact rabove_any k l w

theorem string_any (k : Int) (w : World) (hw : Wd w) : Calls Tryd.prog 10 #[.int .i64 k] w fun e w' => e = .returned (.string (wordK k)) ∧ w' = w := by
  have HW := Lib.hid hw
  clear hw
  obtain ⟨a, ha⟩ : ∃ a, mayK k = a := ⟨_, rfl⟩
  have HA := Lib.hid ha
  clear ha
  cases a
  · go_enter Tryd.func10, Tryd.ntmps10
    go_wp2_with fail
    refine (may_b HA w).mono ?_
    rintro e w1 ⟨rfl, rfl⟩
    go_wp2
    go_ret
    exact ⟨by unfold wordK; rw [if_neg (by rw [HA.out]; decide)]; rfl, rfl⟩
  · have hk := may_yes HA.out
    obtain ⟨n, rfl⟩ := Int.eq_ofNat_of_zero_le hk.1
    have hn : n < 14 := by omega
    have c := HW.out n hn
    go_enter Tryd.func10, Tryd.ntmps10
    go_wp2_with fail
    refine (may_b HA w).mono ?_
    rintro e w1 ⟨rfl, rfl⟩
    go_wp2
    go_ret
    exact ⟨by unfold wordK; rw [if_pos HA.out]; rfl, rfl⟩
theorem string_at {b : ByteArray} {k : Int} (h : Hid (wordK k = b)) (w : World) (hw : Wd w) : Calls Tryd.prog 10 #[.int .i64 k] w fun e w' => e = .returned (.string b) ∧ w' = w := by
  rw [← h.out]; exact string_any k w hw

theorem remote_any (k : Int) (w : World) : Calls Tryd.prog 8 #[.int .i64 k] w fun e w' => e = .returned (.bool (remK k)) ∧ w' = w := by
  by_cases h1 : k = 2
  · subst h1
    go_enter Tryd.func8, Tryd.ntmps8
    go_wp2
    go_ret
    exact ⟨rfl, rfl⟩
  by_cases h2 : k = 5
  · subst h2
    go_enter Tryd.func8, Tryd.ntmps8
    go_wp2
    go_ret
    exact ⟨rfl, rfl⟩
  by_cases h3 : k = 6
  · subst h3
    go_enter Tryd.func8, Tryd.ntmps8
    go_wp2
    go_ret
    exact ⟨rfl, rfl⟩
  by_cases h4 : k = 12
  · subst h4
    go_enter Tryd.func8, Tryd.ntmps8
    go_wp2
    go_ret
    exact ⟨rfl, rfl⟩
  by_cases h5 : k = 13
  · subst h5
    go_enter Tryd.func8, Tryd.ntmps8
    go_wp2
    go_ret
    exact ⟨rfl, rfl⟩
  have e1 : (k == 2) = false := by simpa using h1
  have e2 : (k == 5) = false := by simpa using h2
  have e3 : (k == 6) = false := by simpa using h3
  have e4 : (k == 12) = false := by simpa using h4
  have e5 : (k == 13) = false := by simpa using h5
  go_enter Tryd.func8, Tryd.ntmps8
  go_wp2
  go_ret
  exact ⟨by simp [remK, e1, e2, e3, e4, e5], rfl⟩
end Go.Proofs.YtfbocejpmmhleaaDoorR.Rq
