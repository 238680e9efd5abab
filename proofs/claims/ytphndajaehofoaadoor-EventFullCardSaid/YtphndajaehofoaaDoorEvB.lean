/-
  Event: contracts of may, fault, String, the document's Word, Of, Few.
-/
import Derived.Test.YtphndajaehofoaaDoorEvA
import Derived.Test.YtphndajaehofoaaDoorLaidS
import Derived.Test.YtphndajaehofoaaDoorRows
import Derived.Laws.ResultCell
import Derived.Deep.MidRow
namespace Go.Proofs.YtphndajaehofoaaDoor.Ev
open Go.RowKit Go.Proofs.YtphndajaehofoaaDoor.Bt Go.Proofs.YtphndajaehofoaaDoor.Mm Go.Proofs.YtphndajaehofoaaDoor.Fl Go.Proofs.YtphndajaehofoaaDoor.Tg Go.Proofs.YtphndajaehofoaaDoor.Oa Go.Proofs.YtphndajaehofoaaDoor.Op
set_option linter.unusedVariables false
set_option linter.unusedSimpArgs false

/-- the kinds' words -/
def wds : List (List UInt8) := [[116, 105, 99, 107], [100, 101, 108, 105, 118, 101, 114], [100, 114, 111, 112], [100, 111, 119, 110], [117, 112], [111, 114, 100, 101, 114], [104, 111, 115, 116], [102, 108, 111, 119]]
def wd (n : Nat) : ByteArray := ⟨(wds.getD n []).toArray⟩
def noW : ByteArray := ⟨#[110, 111, 110, 101]⟩
def wordE (k : Nat) : ByteArray := if k < 8 then wd k else noW
/-- the table of words lies where it was laid -/
def Wd (w : World) : Prop := ∀ i, i < 8 → w.cell? ⟨0, i, none⟩ = some (.string (wd i))
theorem Wd.lt {w : World} (h : Wd w) : 0 < w.heap.size := by
  have h0 := h 0 (by decide)
  by_cases hl : 0 < w.heap.size
  · exact hl
  · unfold World.cell? at h0
    rw [Array.getElem?_eq_none (by simpa using hl)] at h0
    simp at h0
theorem Wd.below {w w' : World} {B : Nat} (h : Wd w) (hb : Below B w w') (hB : 0 < B) : Wd w' := fun i hi => (hb.cell (p := ⟨0, i, none⟩) hB).trans (h i hi)
theorem wd_of_laid {W : World} (h : laidMetH Tryd.prog [("carousel/event.words", Rows.laid_carousel_event_words)] W) : Wd W := by
  rw [MakeChecks.laidMetH_plain _ _ _ (by kernel_rfl)] at h
  obtain ⟨ps, ⟨g, t, cs, fuel, p, q, hg, ht, hvar, hd, _, _⟩, _⟩ := h
  have eg : Tryd.prog.globalNamed "carousel/event.words" = some 0 := by kernel_rfl
  have et : (Tryd.prog.globals[0]?).map (·.type) = some 56 := by kernel_rfl
  obtain rfl := Option.some.inj (eg.symm.trans hg)
  obtain rfl := Option.some.inj (et.symm.trans ht)
  obtain ⟨_, hcs⟩ := Ld.cells_of_texts (zs := wds) Tryd.underlying56 Tryd.underlying9 (by kernel_rfl) (by kernel_rfl) hd
  intro i hi
  have := World.var?_cell hg hvar i
  rw [this, ← Array.getElem?_toList, hcs]
  simp [wd, List.getElem?_eq_getElem (show i < wds.length from hi)]

theorem may_b {b : Bool} {k : Nat} (h : Hid (decide ((k : Int) < 8) = b)) (w : World) : Calls Tryd.prog 21 #[.int .u8 (k : Int)] w fun e w' => e = .returned (.bool b) ∧ w' = w := by
  rw [← h.out]
  go_enter Tryd.func21, Tryd.ntmps21
  go_wp2
  go_ret
  exact ⟨rfl, rfl⟩
theorem fault_at {n : Nat} (k a b c : Nat) (s : ByteArray) (w : World) (h : faultE (k, a, b, c, s) = n) :
    Calls Tryd.prog 17 #[evV k a b c s] w fun e w' => e = .returned (.int .i64 (n : Int)) ∧ Below w.heap.size w w' := by
  unfold faultE at h
  dsimp only at h
  by_cases h1 : 7 < k
  · rw [if_pos h1] at h
    subst h
    have HK : Hid (decide ((k : Int) < 8) = false) := Lib.hid (by simp; omega)
    clear h1
    go_enter Tryd.func17, Tryd.ntmps17
    go_upto_region 1 with (fail)
    have HA := Lib.hid (Blk.fresh w 28 (evC k a b c s))
    have HB := Lib.hid ((Below.refl w.heap.size w).alloc (Nat.le_refl _) (.cells (evC k a b c s) 28))
    generalize w.alloc (.cells (evC k a b c s) 28) = w0 at HA HB ⊢
    cases Rw5.row HA.out
    go_wp2_with fail
    refine (may_b HK _).mono ?_
    rintro e w1 ⟨rfl, rfl⟩
    go_wp2
    go_ret
    exact ⟨rfl, HB.out⟩
  · rw [if_neg h1] at h
    have HK : Hid (decide ((k : Int) < 8) = true) := Lib.hid (by simp; omega)
    clear h1
    obtain ⟨d, hd⟩ : ∃ d : Bool, decide ((1600 : Int) < (s.size : Int)) = d := ⟨_, rfl⟩
    have e : n = if d = true then 2 else 0 := by
      rw [← h, ← hd]
      by_cases h2 : 1600 < s.size
      · rw [if_pos h2, if_pos (by simp; omega)]
      · rw [if_neg h2, if_neg (by simp; omega)]
    subst e
    clear h
    go_enter Tryd.func17, Tryd.ntmps17
    go_upto_region 1 with (fail)
    have HA := Lib.hid (Blk.fresh w 28 (evC k a b c s))
    have HB := Lib.hid ((Below.refl w.heap.size w).alloc (Nat.le_refl _) (.cells (evC k a b c s) 28))
    generalize w.alloc (.cells (evC k a b c s) 28) = w0 at HA HB ⊢
    cases Rw5.row HA.out
    go_wp2_with fail
    refine (may_b HK _).mono ?_
    rintro e w1 ⟨rfl, rfl⟩
    cases d
    · go_wp2
      go_ret
      exact ⟨rfl, HB.out⟩
    · go_wp2
      go_ret
      exact ⟨rfl, HB.out⟩
theorem string_at {b : ByteArray} {k : Nat} (h : Hid (wordE k = b)) (w : World) (hw : Wd w) : Calls Tryd.prog 12 #[.int .u8 (k : Int)] w fun e w' => e = .returned (.string b) ∧ w' = w := by
  rw [← h.out]
  have HW := Lib.hid hw
  clear hw
  by_cases hk : k < 8
  · have HK : Hid (decide ((k : Int) < 8) = true) := Lib.hid (by simp; omega)
    have c := HW.out k hk
    have i0 : (0 : Int) ≤ (k : Int) := by omega
    have i1 : (k : Int) < 8 := by omega
    go_enter Tryd.func12, Tryd.ntmps12
    go_wp2_with fail
    refine (may_b HK _).mono ?_
    rintro e w1 ⟨rfl, rfl⟩
    go_wp2
    go_ret
    exact ⟨by unfold wordE; rw [if_pos hk]; rfl, rfl⟩
  · have HK : Hid (decide ((k : Int) < 8) = false) := Lib.hid (by simp; omega)
    go_enter Tryd.func12, Tryd.ntmps12
    go_wp2_with fail
    refine (may_b HK _).mono ?_
    rintro e w1 ⟨rfl, rfl⟩
    go_wp2
    go_ret
    exact ⟨by unfold wordE; rw [if_neg hk]; rfl, rfl⟩
theorem word_at {b : ByteArray} {k : Nat} (h : Hid (wordE k = b)) (w : World) : Calls Tryd.prog 13 #[.int .i64 (k : Int)] w fun e w' => e = .returned (.string b) ∧ Below w.heap.size w w' := by
  rw [← h.out]
  clear h
  have n0 : decide ((k : Int) < 0) = false := by simp
  by_cases hk : k < 8
  · have e7 : decide ((7 : Int) < (k : Int)) = false := by simp; omega
    have i0 : (0 : Int) ≤ (k : Int) := by omega
    have i1 : (k : Int) < 8 := by omega
    go_enter Tryd.func13, Tryd.ntmps13
    go_upto_region 2 with (fail)
    have HA := Lib.hid (Blk.fresh w 9 #[.string (wd 0), .string (wd 1), .string (wd 2), .string (wd 3), .string (wd 4), .string (wd 5), .string (wd 6), .string (wd 7)])
    have HB := Lib.hid ((Below.refl w.heap.size w).alloc (Nat.le_refl _) (.cells #[.string (wd 0), .string (wd 1), .string (wd 2), .string (wd 3), .string (wd 4), .string (wd 5), .string (wd 6), .string (wd 7)] 9))
    have hq : ∀ a b : World, a = b → a = b := fun _ _ h => h
    obtain ⟨w0, hw0, HA', HB'⟩ : ∃ w0, w0 = w.alloc (.cells #[.string (wd 0), .string (wd 1), .string (wd 2), .string (wd 3), .string (wd 4), .string (wd 5), .string (wd 6), .string (wd 7)] 9) ∧ Hid (Blk w0 w.heap.size 9 #[.string (wd 0), .string (wd 1), .string (wd 2), .string (wd 3), .string (wd 4), .string (wd 5), .string (wd 6), .string (wd 7)]) ∧ Hid (Below w.heap.size w w0) := ⟨_, rfl, HA, HB⟩
    have hw1 : w.alloc (.cells #[.string ⟨#[116, 105, 99, 107]⟩, .string ⟨#[100, 101, 108, 105, 118, 101, 114]⟩, .string ⟨#[100, 114, 111, 112]⟩, .string ⟨#[100, 111, 119, 110]⟩, .string ⟨#[117, 112]⟩, .string ⟨#[111, 114, 100, 101, 114]⟩, .string ⟨#[104, 111, 115, 116]⟩, .string ⟨#[102, 108, 111, 119]⟩] 9) = w0 := hw0.symm
    rw [hw1]
    clear hw0 hw1 HA HB hq
    have c : w0.cell? ⟨w.heap.size, k, none⟩ = some (.string (wd k)) := by
      rw [HA'.out.cell]
      match k, hk with
      | 0, _ => rfl
      | 1, _ => rfl
      | 2, _ => rfl
      | 3, _ => rfl
      | 4, _ => rfl
      | 5, _ => rfl
      | 6, _ => rfl
      | 7, _ => rfl
    go_wp2
    go_ret
    exact ⟨by unfold wordE; rw [if_pos hk]; rfl, HB'.out⟩
  · have e7 : decide ((7 : Int) < (k : Int)) = true := by simp; omega
    go_enter Tryd.func13, Tryd.ntmps13
    go_wp2
    go_ret
    exact ⟨by unfold wordE; rw [if_neg hk]; rfl, (Below.refl w.heap.size w).alloc (Nat.le_refl _) _⟩
theorem info_ev : (Tryd.prog.info? 28).map (·.size) = some 5 := by kernel_rfl
theorem info_rev : (Tryd.prog.info? 30).map (·.size) = some 5 := by kernel_rfl
theorem below_two (w : World) (a b : Obj) : Below w.heap.size w ((w.alloc a).alloc b) := ((Below.refl w.heap.size w).alloc (Nat.le_refl _) a).alloc (by simp) b
theorem blk_two (w : World) (t s : TypeId) (x y : Array Value) : Blk ((w.alloc (.cells x t)).alloc (.cells y s)) w.heap.size t x := (Blk.fresh w t x).alloc _
theorem of_any (k a b c : Nat) (s : ByteArray) (w : World) : Calls Tryd.prog 9 #[evV k a b c s] w fun x w' => x = .returned (evV k a b c s) ∧ Below w.heap.size w w' := by
  go_enter Tryd.func9, Tryd.ntmps9
  go_upto_region 1 with (fail)
  have HA := Lib.hid (blk_two w 28 30 (evC k a b c s) zeroC)
  have HR := Lib.hid (fresh_second w (.cells (evC k a b c s) 28) 30 zeroC)
  have HB := Lib.hid (below_two w (.cells (evC k a b c s) 28) (.cells zeroC 30))
  generalize (w.alloc (.cells (evC k a b c s) 28)).alloc (.cells zeroC 30) = w0 at HA HR HB ⊢
  cases Rw5.row HA.out
  cases Rw5.row HR.out
  go_wp2
  (try simp only [Exit.inBlock, Exit.then]); refine bodyPost_ret (results_cell_row rfl _ _ (w.heap.size + 1) 30 _ (0, 0) _ rfl (Rw5.blk_set HR.out _ _ _ _ _) Tryd.underlying30 rfl info_rev) rfl ?_
  exact ⟨rfl, Rw5.below_set HB.out (by omega) _ _ _ _ _⟩
end Go.Proofs.YtphndajaehofoaaDoor.Ev
