/-
  Event: the document's example, Few; the statement EventCloses: its walk.
-/
import Derived.Test.YtphndajaehofoaaDoorEvF
namespace Go.Proofs.YtphndajaehofoaaDoor.Ev
open Go.RowKit Go.Proofs.YtphndajaehofoaaDoor.Bt Go.Proofs.YtphndajaehofoaaDoor.Mm Go.Proofs.YtphndajaehofoaaDoor.Fl Go.Proofs.YtphndajaehofoaaDoor.Lw Go.Proofs.YtphndajaehofoaaDoor.Tg Go.Proofs.YtphndajaehofoaaDoor.Oa Go.Proofs.YtphndajaehofoaaDoor.Op
set_option linter.unusedVariables false
set_option linter.unusedSimpArgs false

set_option maxRecDepth 100000 in
set_option maxHeartbeats 1000000 in
theorem awake22 (w : World) (hw : Wd w) : Calls Tryd.prog 8 #[] w fun e w' => e = .returned (.bool true) ∧ Below w.heap.size w w' := by
  have HW := Lib.hid hw
  have HS := Lib.hid (show wordE 7 = ⟨#[102, 108, 111, 119]⟩ by rfl)
  have HC := Lib.hid (show closeE [zeroE] = ([0, 0, 0, 0, 0, 0], 0) by decide +kernel)
  clear hw
  go_enter Tryd.func8, Tryd.ntmps8
  go_wp2_with fail
  have b1 := Blk.fresh w 28 zeroC
  have HB1 := Lib.hid ((Below.refl w.heap.size w).alloc (Nat.le_refl _) (.cells zeroC 28))
  have HD := Lib.hid (Rd.of_blk b1 5)
  generalize w.alloc (.cells zeroC 28) = w1 at HB1 HD ⊢
  clear b1
  refine (close_at [zeroE] _ 1 w1 HC.out HD.out (by intro q hq; rw [List.mem_singleton] at hq; subst hq; exact ⟨by decide, by decide, by decide, by decide, by decide⟩) (by decide)).mono ?_
  rintro e w2 ⟨rfl, hb2⟩
  have HB2 := Lib.hid (HB1.out.trans (hb2.mono HB1.out.size))
  clear hb2 HD HB1
  go_wp2_with fail
  refine (awake1 w2).mono ?_
  rintro e w3 ⟨rfl, hb3⟩
  have HB3 := Lib.hid (HB2.out.trans (hb3.mono HB2.out.size))
  have HW3 := Lib.hid (HW.out.below HB3.out HW.out.lt)
  clear hb3 HB2
  go_wp2_with fail
  refine (string_at HS w3 HW3.out).mono ?_
  rintro e w4 ⟨rfl, rfl⟩
  go_wp2
  go_ret
  exact ⟨rfl, HB3.out⟩

/-- are all of them small? -/
def smalls : List Ev → Bool
  | [] => true
  | q :: l => if 2000 < q.2.2.2.2.size then false else smalls l
def fewE (l : List Ev) : Bool := smalls l && decide (l.length ≤ 60)
theorem smalls_drop (l : List Ev) (k : Nat) (h : k < l.length) : smalls (l.drop k) = if 2000 < l[k].2.2.2.2.size then false else smalls (l.drop (k + 1)) := by
  rw [List.drop_eq_getElem_cons h]
  rfl
set_option maxRecDepth 100000 in
theorem few_at {b : Bool} (l : List Ev) (A : Option Addr) (cp : Nat) (w : World) (h : fewE l = b) (hA : Rd w w.heap.size A (eventCells l)) (hm : l.length ≤ maxLen) :
    Calls Tryd.prog 7 #[.slice A l.length cp] w fun e w' => e = .returned (.bool b) ∧ Below w.heap.size w w' := by
  unfold maxLen at hm
  have HA := Lib.hid hA; clear hA
  have H := Lib.hid h; clear h
  go_enter Tryd.func7, Tryd.ntmps7
  go_wp2
  go_loopw [7] (fun i wr => ∃ k : Nat, k ≤ l.length ∧ i = .int .i64 k ∧ smalls l = smalls (l.drop k) ∧ Below w.heap.size w wr) (fun i _ => l.length - (intOf i).toNat)
  case atStart => exact ⟨0, Nat.zero_le _, rfl, rfl, Below.refl _ _⟩
  case round =>
    obtain ⟨k, hk, rfl, hf, hb⟩ := hrel
    have HB := Lib.hid hb; clear hb
    have HF := Lib.hid hf; clear hf
    by_cases hlt : k < l.length
    · have hi2 : 0 ≤ (k : Int) ∧ (k : Int) < (l.length : Int) := by omega
      obtain ⟨ad, hAd, hbl, e0, e1, e2, e3, e4⟩ := rd_event (HA.out.below HB.out) hlt
      subst hAd
      have hF2 := smalls_drop l k hlt
      obtain ⟨q, hq⟩ : ∃ q, q = l[k] := ⟨_, rfl⟩
      rw [← hq] at e0 e1 e2 e3 e4 hF2
      clear hq
      obtain ⟨kd, a, b', c, s⟩ := q
      dsimp only at e0 e1 e2 e3 e4 hF2
      by_cases h2 : 2000 < s.size
      · have d2 : decide ((2000 : Int) < (s.size : Int)) = true := by simp; omega
        rw [if_pos h2] at hF2
        have hb : b = false := by rw [← H.out]; unfold fewE; rw [HF.out, hF2]; rfl
        subst hb
        have HB2 := Lib.hid (HB.out.alloc HB.out.size (.cells (evC kd a b' c s) 28))
        clear h2 hF2
        go_upto_region 4 with (fail)
        have HX := Lib.hid (Blk.fresh wr 28 (evC kd a b' c s))
        generalize wr.alloc (.cells (evC kd a b' c s) 28) = w2 at HX HB2 ⊢
        clear e0 e1 e2 e3 e4
        cases Rw5.row HX.out
        go_wp2
        go_ret
        exact ⟨rfl, HB2.out⟩
      · have d2 : decide ((2000 : Int) < (s.size : Int)) = false := by simp; omega
        rw [if_neg h2] at hF2
        have HF2 := Lib.hid (HF.out.trans hF2)
        have HB2 := Lib.hid (HB.out.alloc HB.out.size (.cells (evC kd a b' c s) 28))
        clear h2 hF2
        go_upto_region 4 with (fail)
        have HX := Lib.hid (Blk.fresh wr 28 (evC kd a b' c s))
        generalize wr.alloc (.cells (evC kd a b' c s) 28) = w2 at HX HB2 ⊢
        clear e0 e1 e2 e3 e4
        cases Rw5.row HX.out
        go_wp2
        go_roundw
        case rel => exact ⟨k + 1, by omega, by go_num, HF2.out, HB2.out⟩
        case measure => simp [intOf]; omega
    · have hz : smalls l = true := by rw [HF.out, List.drop_eq_nil_of_le (by omega)]; rfl
      have hb : decide ((l.length : Int) ≤ 60) = b := by rw [← H.out]; unfold fewE; rw [hz, Bool.true_and]; exact decide_eq_decide.2 (by omega)
      go_wp2
      go_ret
      exact ⟨rfl, HB.out⟩

theorem info_rev3 : (Tryd.prog.info? 30).map (fun i => (i.zero, i.size, i.bytes)) = some (some (.agg zeroC), 5, 24) := by kernel_rfl
theorem take_cells (l : List Ev) (k : Nat) (h : k < l.length) : eventCells (l.take (k + 1)) = eventCells (l.take k) ++ evL l[k] := by
  unfold eventCells
  rw [List.take_succ_eq_append_getElem h, List.flatMap_append]
  simp
set_option maxRecDepth 100000 in
set_option maxHeartbeats 2000000 in
theorem closes_walk (l : List Ev) (A : Option Addr) (cp : Nat) (kk : Nat) (w : World) (hm : l.length ≤ maxLen) (hA : Rd w w.heap.size A (eventCells l)) (hok : ∀ q ∈ l, q.1 < 256 ∧ q.2.1 < 256 ∧ q.2.2.1 < 256 ∧ q.2.2.2.1 < 256 ∧ q.2.2.2.2.size ≤ maxLen) (hkk : kk < 256) (hw : Wd w) :
    Calls Tryd.prog 3 #[.slice A l.length cp, .int .u8 (kk : Int)] w (Law1 w) := by
  have HW := Lib.hid hw; clear hw
  have HA := Lib.hid hA; clear hA
  have HO := Lib.hid (show ∀ q ∈ l, okE q from hok); clear hok
  have HM := Lib.hid hm
  unfold maxLen at hm
  obtain ⟨b, hfew⟩ : ∃ b, fewE l = b := ⟨_, rfl⟩
  have HFW := Lib.hid hfew; clear hfew
  obtain ⟨i0, hi, hz0, hz1, hz2⟩ := info_parts info_rev3
  have HI := Lib.hid hi; clear hi
  go_enter Tryd.func3, Tryd.ntmps3
  go_wp2_with fail
  refine (few_at l A cp w HFW.out HA.out HM.out).mono ?_
  rintro e w1 ⟨rfl, hb1⟩
  have HB1 := Lib.hid hb1; clear hb1
  cases b with
  | false =>
    go_wp2_with fail
    refine (awake22 w1 (HW.out.below HB1.out HW.out.lt)).mono ?_
    rintro e w2 ⟨rfl, hb2⟩
    have HB2 := Lib.hid (HB1.out.trans (hb2.mono HB1.out.size))
    go_wp2
    go_ret
    exact ⟨rfl, HB2.out⟩
  | true =>
    have h60 : l.length ≤ 60 := by
      have := HFW.out
      unfold fewE at this
      rw [Bool.and_eq_true] at this
      simpa using this.2
    clear HFW
    go_wp2_with fail
    go_loopw [5, 18] (fun v i wr => ∃ k : Nat, k ≤ l.length ∧ i = .int .i64 k ∧ wr.ownsRow w.heap.size 30 5 v k (eventCells (l.take k)) ∧ Below w.heap.size w wr) (fun _ i _ => l.length - (intOf i).toNat)
    case atStart => exact ⟨0, Nat.zero_le _, rfl, World.ownsRow_nil w1 _ _ 5, HB1.out⟩
    case round =>
      obtain ⟨k, hk, rfl, how, hb⟩ := hrel
      clear HB1
      have HB := Lib.hid hb; clear hb
      have HR := Lib.hid how; clear how
      by_cases hlt : k < l.length
      · have hi2 : 0 ≤ (k : Int) ∧ (k : Int) < (l.length : Int) := by omega
        obtain ⟨ad, hAd, hbl, e0, e1, e2, e3, e4⟩ := rd_event (HA.out.below HB.out) hlt
        subst hAd
        have hT2 := take_cells l k hlt
        obtain ⟨q, hq⟩ : ∃ q, q = l[k] := ⟨_, rfl⟩
        rw [← hq] at e0 e1 e2 e3 e4 hT2
        clear hq
        obtain ⟨kd, a, b, c, s⟩ := q
        dsimp only at e0 e1 e2 e3 e4
        have HT2 := Lib.hid hT2; clear hT2
        have HB2 := Lib.hid (HB.out.alloc HB.out.size (.cells (evC kd a b c s) 28))
        have HR2 := Lib.hid (own_below HR.out ((Below.refl wr.heap.size wr).alloc (Nat.le_refl _) (.cells (evC kd a b c s) 28)))
        go_upto_region 7 with (fail)
        have HX := Lib.hid (Blk.fresh wr 28 (evC kd a b c s))
        generalize wr.alloc (.cells (evC kd a b c s) 28) = w2 at HX HB2 HR2 ⊢
        clear e0 e1 e2 e3 e4 HB HR
        cases Rw5.row HX.out
        go_wp2_with fail
        refine (of_any kd a b c s w2).mono ?_
        rintro e w3 ⟨rfl, hb3⟩
        have HB3 := Lib.hid (HB2.out.trans (hb3.mono HB2.out.size))
        have HR3 := Lib.hid (own_below HR2.out hb3)
        clear hb3 HB2 HR2
        have HN := Lib.hid (Blk.fresh w3 30 (evC kd a b c s))
        have HB4 := Lib.hid (HB3.out.alloc HB3.out.size (.cells (evC kd a b c s) 30))
        have HR4 := Lib.hid (own_below HR3.out ((Below.refl w3.heap.size w3).alloc (Nat.le_refl _) (.cells (evC kd a b c s) 30)))
        go_wp2_with (at_builtin; refine wpList_append_own _ rfl (.tmp 22) (.tmp 25) 25 rfl w.heap.size 30 i0 (.agg zeroC) 5 24 Tryd.underlying25 HI.out hz0 hz1 hz2 rfl (by decide) _ k _ rfl HR4.out ⟨w3.heap.size, 0, none⟩ 1 1 (evL (kd, a, b, c, s)) rfl rfl (World.news_of_block HN.out) (by intro u hu; simp at hu; rcases hu with rfl | rfl | rfl | rfl | rfl <;> rfl) (by unfold maxLen; omega) (by omega) HB4.out.size ?_; intro v' w5 hown5 hgrow5 _)
        have HB5 := Lib.hid (below_own HB4.out HR4.out HB4.out.size hgrow5)
        have HR5 := Lib.hid hown5
        clear hown5 hgrow5 HR4 HB4 HB3 HR3 HN
        obtain ⟨R5, c5, rfl⟩ := own_slice HR5.out
        go_wp2
        go_roundw
        case rel => exact ⟨k + 1, by omega, by go_num, by rw [HT2.out]; exact HR5.out, HB5.out⟩
        case measure => simp [intOf]; omega
      · have hkl : k = l.length := by omega
        subst hkl
        rw [List.take_length] at HR
        obtain ⟨⟨bs, n⟩, hcl⟩ : ∃ x, closeE l = x := ⟨_, rfl⟩
        have HCL := Lib.hid hcl; clear hcl
        obtain ⟨R, c, rfl⟩ := own_slice HR.out
        obtain ⟨wb, hwb⟩ : ∃ b, wordE kk = b := ⟨_, rfl⟩
        have HWB := Lib.hid hwb; clear hwb
        have q1 : IntKind.i64.wrap (kk : Int) = (kk : Int) := IntWalk.i64_in _ ⟨by omega, by omega⟩
        go_wp2_with fail
        refine (close_at l A cp wr HCL.out ((HA.out.below HB.out).more HB.out.size) HO.out HM.out).mono ?_
        rintro e w2 ⟨rfl, hb2⟩
        have HB2 := Lib.hid (HB.out.trans (hb2.mono HB.out.size))
        have HR2 := Lib.hid (own_below HR.out hb2)
        clear hb2 HB HR
        go_wp2_with fail
        refine (rclose_at l R c w2 HCL.out (Rd.of_own HR2.out) HO.out h60).mono ?_
        rintro e w3 ⟨rfl, hb3⟩
        have HB3 := Lib.hid (HB2.out.trans (hb3.mono HB2.out.size))
        clear hb3 HB2 HR2
        go_wp2_with fail
        refine (awake22 w3 (HW.out.below HB3.out HW.out.lt)).mono ?_
        rintro e w4 ⟨rfl, hb4⟩
        have HB4 := Lib.hid (HB3.out.trans (hb4.mono HB3.out.size))
        have HW4 := Lib.hid (HW.out.below HB4.out HW.out.lt)
        clear hb4 HB3
        go_wp2_with fail
        refine (string_at HWB w4 HW4.out).mono ?_
        rintro e w5 ⟨rfl, rfl⟩
        go_wp2_with fail
        refine (word_at HWB _).mono ?_
        rintro e w6 ⟨rfl, hb6⟩
        have HB6 := Lib.hid (HB4.out.trans (hb6.mono HB4.out.size))
        go_wp2
        go_ret
        exact ⟨rfl, HB6.out⟩
end Go.Proofs.YtphndajaehofoaaDoor.Ev
