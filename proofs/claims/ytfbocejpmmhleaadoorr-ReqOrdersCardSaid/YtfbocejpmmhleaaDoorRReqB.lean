/-
  The package req and the document's answers for it: words, the best, the examples.
-/
import Derived.Test.YtfbocejpmmhleaaDoorRReqA
namespace Go.Proofs.YtfbocejpmmhleaaDoorR.Rq
open Go.RowKit Go.Proofs.YtfbocejpmmhleaaDoorR.Bt Go.Proofs.YtfbocejpmmhleaaDoorR.Mm Go.Proofs.YtfbocejpmmhleaaDoorR.Fl Go.Proofs.YtfbocejpmmhleaaDoorR.Lw

def wordCells : Array Value := (wds.map fun z => Value.string ⟨z.toArray⟩).toArray
theorem words_any (w : World) : Calls Tryd.prog 16 #[] w fun e w' => ∃ g, e = .returned (.slice (some ⟨g, 0, none⟩) 14 14) ∧ Blk w' g 9 wordCells ∧ w.heap.size ≤ g ∧ Below w.heap.size w w' := by
  go_enter Tryd.func16, Tryd.ntmps16
  go_wp2
  go_ret
  exact ⟨_, rfl, Blk.fresh _ _ _, Nat.le_refl _, (Below.refl _ _).alloc (Nat.le_refl _) _⟩
theorem word_any (k : Int) (w : World) : Calls Tryd.prog 11 #[.int .i64 k] w fun e w' => e = .returned (.string (wordK k)) ∧ Below w.heap.size w w' := by
  obtain ⟨a, ha⟩ : ∃ a, mayK k = a := ⟨_, rfl⟩
  have HA := Lib.hid ha
  clear ha
  cases a
  · go_enter Tryd.func11, Tryd.ntmps11
    go_wp2_with fail
    refine (rmay_b HA w).mono ?_
    rintro e w1 ⟨rfl, rfl⟩
    go_wp2
    go_ret
    exact ⟨by unfold wordK; rw [if_neg (by rw [HA.out]; decide)]; rfl, Below.refl _ _⟩
  · have hk := may_yes HA.out
    obtain ⟨n, rfl⟩ := Int.eq_ofNat_of_zero_le hk.1
    have hn : n < 14 := by omega
    go_enter Tryd.func11, Tryd.ntmps11
    go_wp2_with fail
    refine (rmay_b HA w).mono ?_
    rintro e w1 ⟨rfl, rfl⟩
    go_wp2_with fail
    refine (words_any w1).mono ?_
    rintro e w2 ⟨g, rfl, hblk, _, hb⟩
    have c : w2.cell? ⟨g, n, none⟩ = some (.string (wd n)) := by
      rw [hblk.cell]
      simp [wordCells, wd, List.getElem?_eq_getElem (show n < wds.length from hn)]
    have HB := Lib.hid hb
    clear hb hblk
    go_wp2
    go_ret
    exact ⟨by unfold wordK; rw [if_pos HA.out]; rfl, HB.out⟩
theorem word_at {b : ByteArray} {k : Int} (h : Hid (wordK k = b)) (w : World) : Calls Tryd.prog 11 #[.int .i64 k] w fun e w' => e = .returned (.string b) ∧ Below w.heap.size w w' := by
  rw [← h.out]; exact word_any k w
theorem rem_word (k : Int) : (decide ((6 : Int) < ((wordK k).size : Int)) && (((wordK k).extract 0 6).toList == [114, 101, 109, 111, 116, 101])) = remK k := by
  cases hm : mayK k with
  | false =>
    have h := may_no hm
    have e : wordK k = noW := by unfold wordK; rw [if_neg (by rw [hm]; decide)]
    rw [e]
    have e1 : (k == 2) = false := by simp; omega
    have e2 : (k == 5) = false := by simp; omega
    have e3 : (k == 6) = false := by simp; omega
    have e4 : (k == 12) = false := by simp; omega
    have e5 : (k == 13) = false := by simp; omega
    unfold remK
    rw [e1, e2, e3, e4, e5]
    decide +kernel
  | true =>
    have h := may_yes hm
    obtain ⟨n, rfl⟩ := Int.eq_ofNat_of_zero_le h.1
    have e : wordK (n : Int) = wd n := by unfold wordK; rw [if_pos hm]; rfl
    rw [e]
    have all : ∀ n : Nat, n < 14 → (decide ((6 : Int) < ((wd n).size : Int)) && (((wd n).extract 0 6).toList == [114, 101, 109, 111, 116, 101])) = remK (n : Int) := by decide +kernel
    exact all n (by omega)
theorem rremote_any (k : Int) (w : World) : Calls Tryd.prog 9 #[.int .i64 k] w fun e w' => e = .returned (.bool (remK k)) ∧ Below w.heap.size w w' := by
  obtain ⟨b, hb⟩ : ∃ b, wordK k = b := ⟨_, rfl⟩
  have HW := Lib.hid hb
  clear hb
  by_cases h : 6 < b.size
  · have hl : decide ((6 : Int) < (b.size : Int)) = true := decide_eq_true (by omega)
    have h6 : (6 : Int) ≤ (b.size : Int) := by omega
    go_enter Tryd.func9, Tryd.ntmps9
    go_wp2_with fail
    refine (word_at HW w).mono ?_
    rintro e w1 ⟨rfl, hb⟩
    have HB := Lib.hid hb
    clear hb
    go_wp2
    go_ret
    exact ⟨by rw [← rem_word, HW.out, hl]; rfl, HB.out⟩
  · have hl : decide ((6 : Int) < (b.size : Int)) = false := decide_eq_false (by omega)
    go_enter Tryd.func9, Tryd.ntmps9
    go_wp2_with fail
    refine (word_at HW w).mono ?_
    rintro e w1 ⟨rfl, hb⟩
    have HB := Lib.hid hb
    clear hb
    go_wp2
    go_ret
    exact ⟨by rw [← rem_word, HW.out, hl]; rfl, HB.out⟩
theorem rremote_b {b : Bool} {k : Int} (h : Hid (remK k = b)) (w : World) : Calls Tryd.prog 9 #[.int .i64 k] w fun e w' => e = .returned (.bool b) ∧ Below w.heap.size w w' := by
  rw [← h.out]; exact rremote_any k w
theorem remote_b {b : Bool} {k : Int} (h : Hid (remK k = b)) (w : World) : Calls Tryd.prog 8 #[.int .i64 k] w fun e w' => e = .returned (.bool b) ∧ w' = w := by
  rw [← h.out]; exact remote_any k w

/-- the highest of requests -/
def pick (b k : Int) : Int := if aboveK k b = true then k else b
def bestK (l : List Int) : Int := l.foldl pick 14
def ks (l : List Int) : List Value := l.map (Value.int .i64)
set_option maxRecDepth 100000 in
theorem best_any (zs : List Int) (A : Option Addr) (c : Nat) (w : World) (hm : zs.length ≤ 1000000) (hA : Rd w w.heap.size A (ks zs)) :
    Calls Tryd.prog 14 #[.slice A zs.length c] w fun e w' => e = .returned (.int .i64 (bestK zs)) ∧ w' = w := by
  have HA := Lib.hid hA
  clear hA
  go_enter Tryd.func14, Tryd.ntmps14
  go_wp2_with fail
  go_loop [3, 8] (fun v i => ∃ k : Nat, k ≤ zs.length ∧ i = .int .i64 k ∧ v = .int .i64 (bestK (zs.take k))) (fun _ i => zs.length - (intOf i).toNat)
  case atStart => exact ⟨0, Nat.zero_le _, rfl, rfl⟩
  case round =>
    obtain ⟨k, hk, rfl, rfl⟩ := hrel
    by_cases hlt : k < zs.length
    · obtain ⟨ad, rfl, hbl, hcell⟩ := HA.out (by simp [ks]; omega)
      have c0 := hcell k (.int .i64 zs[k]) (by simp [ks, hlt])
      clear hcell
      have hs : bestK (zs.take (k + 1)) = pick (bestK (zs.take k)) zs[k] := by
        unfold bestK
        rw [List.take_succ_eq_append_getElem hlt, List.foldl_append]
        rfl
      generalize bestK (zs.take k) = b at hs ⊢
      generalize zs[k] = z at c0 hs
      obtain ⟨r, hr⟩ : ∃ r, aboveK z b = r := ⟨_, rfl⟩
      have HS := Lib.hid hs
      have HR := Lib.hid hr
      clear hs hr
      cases r
      · go_wp2_with fail
        refine (above_b HR w).mono ?_
        rintro e w1 ⟨rfl, rfl⟩
        go_wp2
        go_round
        case rel => exact ⟨k + 1, by omega, by go_num, by rw [HS.out, pick, if_neg (by rw [HR.out]; decide)]⟩
        case measure => simp [intOf]; omega
      · go_wp2_with fail
        refine (above_b HR w).mono ?_
        rintro e w1 ⟨rfl, rfl⟩
        go_wp2
        go_round
        case rel => exact ⟨k + 1, by omega, by go_num, by rw [HS.out, pick, if_pos HR.out]⟩
        case measure => simp [intOf]; omega
    · obtain rfl : k = zs.length := by omega
      rw [List.take_length]
      go_wp2
      go_ret
      exact ⟨rfl, rfl⟩
theorem best_at {r : Int} (zs : List Int) (A : Option Addr) (c : Nat) (w : World) (h : Hid (bestK zs = r)) (hm : zs.length ≤ 1000000) (hA : Rd w w.heap.size A (ks zs)) :
    Calls Tryd.prog 14 #[.slice A zs.length c] w fun e w' => e = .returned (.int .i64 r) ∧ w' = w := by
  rw [← h.out]; exact best_any zs A c w hm hA
theorem awake12 (w : World) (hw : Wd w) : Calls Tryd.prog 5 #[] w fun e w' => e = .returned (.bool true) ∧ Below w.heap.size w w' := by
  have HW := Lib.hid hw
  have HA := Lib.hid (show aboveK 1 2 = true by decide)
  have HB := Lib.hid (show bestK [3, 7] = 3 by decide)
  have HS := Lib.hid (show wordK 12 = ⟨#[114, 101, 109, 111, 116, 101, 45, 105, 100, 108, 101]⟩ by rfl)
  clear hw
  go_enter Tryd.func5, Tryd.ntmps5
  go_wp2_with fail
  refine (Rp.awake5 w).mono ?_
  rintro e w1 ⟨rfl, hb⟩
  have HB1 := Lib.hid hb
  have HW1 := Lib.hid (HW.out.below hb HW.out.lt)
  clear hb
  go_wp2_with fail
  refine (above_b HA w1).mono ?_
  rintro e w2 ⟨rfl, rfl⟩
  go_wp2_with fail
  have b2 := Blk.fresh w2 22 #[.int .i64 3, .int .i64 7]
  have hb2 : Below w2.heap.size w2 (w2.alloc (.cells #[.int .i64 3, .int .i64 7] 22)) := (Below.refl _ _).alloc (Nat.le_refl _) _
  have HB2 := Lib.hid (HB1.out.trans (hb2.mono HB1.out.size))
  have HW2 := Lib.hid (HW1.out.below hb2 HW1.out.lt)
  clear hb2
  have HD := Lib.hid (Rd.of_blk b2 2)
  generalize (w2.alloc (.cells #[.int .i64 3, .int .i64 7] 22)) = w3 at HB2 HW2 HD ⊢
  clear b2
  refine (best_at [3, 7] _ 2 w3 HB (by decide) HD.out).mono ?_
  rintro e w4 ⟨rfl, rfl⟩
  go_wp2_with fail
  refine (string_at HS w4 HW2.out).mono ?_
  rintro e w5 ⟨rfl, rfl⟩
  go_wp2
  go_ret
  exact ⟨rfl, HB2.out⟩
end Go.Proofs.YtfbocejpmmhleaaDoorR.Rq
