/-
  The statement EventBack: its walk.
-/
import Derived.Test.YtphndajaehofoaaDoorEvL
namespace Go.Proofs.YtphndajaehofoaaDoor.Ev
open Go.RowKit Go.Proofs.YtphndajaehofoaaDoor.Bt Go.Proofs.YtphndajaehofoaaDoor.Mm Go.Proofs.YtphndajaehofoaaDoor.Fl Go.Proofs.YtphndajaehofoaaDoor.Lw Go.Proofs.YtphndajaehofoaaDoor.Tg Go.Proofs.YtphndajaehofoaaDoor.Oa Go.Proofs.YtphndajaehofoaaDoor.Op
set_option linter.unusedVariables false
set_option linter.unusedSimpArgs false

theorem open_ok {L : List Ev} (s : ByteArray) (n : Nat) (w : World) (h : openE s = (L, 0)) (hs : s.size ≤ maxLen) (hn : L.length = n) :
    Calls Tryd.prog 14 #[.string s] w fun e w' => ∃ A cp, e = .returned (.tuple #[.slice A n cp, .int .i64 0]) ∧ Rd w' w'.heap.size A (eventCells L) ∧ Below w.heap.size w w' := by
  subst hn
  exact open_at s w h hs
theorem close_ok {bs : List UInt8} (l : List Ev) (A : Option Addr) (cp : Nat) (w : World) (b : ByteArray) (h : closeE l = (bs, 0)) (hb : (⟨bs.toArray⟩ : ByteArray) = b) (hA : Rd w w.heap.size A (eventCells l)) (hok : ∀ q ∈ l, okE q) (hm : l.length ≤ maxLen) :
    Calls Tryd.prog 10 #[.slice A l.length cp] w fun e w' => e = .returned (.tuple #[.string b, .int .i64 0]) ∧ Below w.heap.size w w' := by
  subst hb
  exact close_at l A cp w h hA hok hm
theorem close_any {bs : List UInt8} {n : Nat} (l : List Ev) (A : Option Addr) (cp : Nat) (w : World) (b : ByteArray) (h : closeE l = (bs, n)) (hb : (⟨bs.toArray⟩ : ByteArray) = b) (hA : Rd w w.heap.size A (eventCells l)) (hok : ∀ q ∈ l, okE q) (hm : l.length ≤ maxLen) :
    Calls Tryd.prog 10 #[.slice A l.length cp] w fun e w' => e = .returned (.tuple #[.string b, .int .i64 (n : Int)]) ∧ Below w.heap.size w w' := by
  subst hb
  exact close_at l A cp w h hA hok hm
set_option maxRecDepth 100000 in
set_option maxHeartbeats 4000000 in
theorem back_walk (l : List Ev) (A : Option Addr) (cp : Nat) (s : ByteArray) (w : World) (hm : l.length ≤ maxLen) (hA : Rd w w.heap.size A (eventCells l)) (hok : ∀ q ∈ l, q.1 < 256 ∧ q.2.1 < 256 ∧ q.2.2.1 < 256 ∧ q.2.2.2.1 < 256 ∧ q.2.2.2.2.size ≤ maxLen) (hs : s.size ≤ maxLen) (hw : Wd w) :
    Calls Tryd.prog 5 #[.slice A l.length cp, .string s] w (Law1 w) := by
  have HW := Lib.hid hw; clear hw
  have HA := Lib.hid hA; clear hA
  have HO := Lib.hid (show ∀ q ∈ l, okE q from hok); clear hok
  have HM := Lib.hid hm
  have HSM := Lib.hid hs
  unfold maxLen at hm hs
  obtain ⟨b, hfew⟩ : ∃ b, fewE l = b := ⟨_, rfl⟩
  have HFW := Lib.hid hfew; clear hfew
  go_enter Tryd.func5, Tryd.ntmps5
  go_wp2_with fail
  refine (few_at l A cp w HFW.out HA.out HM.out).mono ?_
  rintro e w1 ⟨rfl, hb1⟩
  have HB1 := Lib.hid hb1; clear hb1
  cases b with
  | false =>
    go_wp2_with fail
    refine (awake22 w1 (HW.out.below HB1.out HW.out.lt)).mono ?_
    rintro e w2 ⟨rfl, hb2⟩
    have HB2 := Lib.hid (HB1.out.trans (hb2.mono HB1.out.size))
    go_wp2
    go_ret
    exact ⟨rfl, HB2.out⟩
  | true =>
    have h60 : l.length ≤ 60 := by
      have := HFW.out
      unfold fewE at this
      rw [Bool.and_eq_true] at this
      simpa using this.2
    clear HFW
    by_cases h8 : 8000 < s.size
    · have d8 : decide ((8000 : Int) < (s.size : Int)) = true := by simp; omega
      clear h8
      go_wp2_with fail
      refine (awake22 w1 (HW.out.below HB1.out HW.out.lt)).mono ?_
      rintro e w2 ⟨rfl, hb2⟩
      have HB2 := Lib.hid (HB1.out.trans (hb2.mono HB1.out.size))
      go_wp2
      go_ret
      exact ⟨rfl, HB2.out⟩
    have d8 : decide ((8000 : Int) < (s.size : Int)) = false := by simp; omega
    clear h8
    obtain ⟨⟨bs, n⟩, hcl⟩ : ∃ x, closeE l = x := ⟨_, rfl⟩
    have HCL := Lib.hid hcl; clear hcl
    obtain ⟨bb, hbb⟩ : ∃ b : ByteArray, (⟨bs.toArray⟩ : ByteArray) = b := ⟨_, rfl⟩
    have HBB := Lib.hid hbb; clear hbb
    obtain ⟨kb, hkb⟩ : ∃ kb, ((n : Int) == 0) = kb := ⟨_, rfl⟩
    go_wp2_with fail
    refine (close_any l A cp w1 bb HCL.out HBB.out ((HA.out.below HB1.out).more HB1.out.size) HO.out HM.out).mono ?_
    rintro e w2 ⟨rfl, hb2⟩
    have HB2 := Lib.hid (HB1.out.trans (hb2.mono HB1.out.size))
    clear hb2 HB1
    go_upto_if 29 with (fail)
    go_cut [] (fun wx => Below w.heap.size w wx)
    case first =>
      have HKB := Lib.hid hkb; clear hkb
      cases kb with
      | false =>
        go_wp2
        go_meet
        exact HB2.out
      | true =>
        have hn0 : n = 0 := by have := HKB.out; simp at this; omega
        have hcl0 : closeE l = (bs, 0) := by rw [HCL.out, hn0]
        have HOP := Lib.hid (show openE bb = (l, 0) by rw [← HBB.out]; exact open_closed HO.out hcl0)
        have HL := Lib.hid (show bb.size ≤ maxLen by
          obtain ⟨z1, z2, z3⟩ := closeE_zero hcl0
          have z4 := bytes_le (faults_zero z1)
          rw [← HBB.out]
          show bs.toArray.size ≤ _
          rw [List.size_toArray, z3]
          unfold maxLen
          omega)
        clear hn0 hcl0
        go_wp2_with fail
        refine (open_ok bb l.length w2 HOP.out HL.out rfl).mono ?_
        rintro e w3 ⟨A2, cp2, rfl, hA2, hb3⟩
        have HB3 := Lib.hid (HB2.out.trans (hb3.mono HB2.out.size))
        have HA2 := Lib.hid hA2
        have HA3 := Lib.hid ((HA.out.below HB3.out).more HB3.out.size)
        clear hb3 hA2 HB2
        go_wp2_with fail
        go_loopw [46] (fun i wr => ∃ k : Nat, k ≤ l.length ∧ i = .int .i64 k ∧ Below w3.heap.size w3 wr) (fun i _ => l.length - (intOf i).toNat)
        case atStart => exact ⟨0, Nat.zero_le _, rfl, Below.refl _ _⟩
        case round =>
          obtain ⟨k, hk, rfl, hb⟩ := hrel
          have HB := Lib.hid hb; clear hb
          by_cases hlt : k < l.length
          · have hi2 : 0 ≤ (k : Int) ∧ (k : Int) < (l.length : Int) := by omega
            obtain ⟨ad, hAd, hbl, ha⟩ := at_event (HA3.out.below HB.out) HB.out.size hlt
            obtain ⟨ad2, hAd2, hbl2, ha2⟩ := at_event (HA2.out.below HB.out) HB.out.size hlt
            subst hAd hAd2
            obtain ⟨q, hq⟩ : ∃ q, q = l[k] := ⟨_, rfl⟩
            rw [← hq] at ha ha2
            clear hq
            obtain ⟨kd, a, b, c', u⟩ := q
            dsimp only at ha ha2
            have HAT := Lib.hid (And.intro ha ha2)
            clear ha ha2
            have e1 : ((kd : Int) == (kd : Int)) = true := by simp
            have e2 : ((a : Int) == (a : Int)) = true := by simp
            have e3 : ((b : Int) == (b : Int)) = true := by simp
            have e4 : ((c' : Int) == (c' : Int)) = true := by simp
            go_upto_region 11 with (fail)
            refine wp_region_held_drew (S := fun wx => AtE wx (ad.add (k * 5)) kd a b c' u ∧ AtE wx (ad2.add (k * 5)) kd a b c' u) (by kernel_rfl) ⟨HAT.out.1.drew, HAT.out.2.drew⟩ (fun hHeld => ?_)
            have HBR := Lib.hid ((Below.refl wr.heap.size wr).drew)
            generalize wr.drew = wd at hHeld HBR ⊢
            refine Rg.tk 0 (v := ?_) ?_ ?_
            rotate_left
            · (intro wx hSx; go_simp; all_goals with_reducible rfl)
            simp only [Act.put, Rg.e1, Rg.e2, Rg.e3, Rg.e4, Rg.e5, Rg.e6]
            refine Rg.tk 1 (v := ?_) ?_ ?_
            rotate_left
            · (intro wx hSx; go_simp; all_goals with_reducible rfl)
            simp only [Act.put, Rg.e1, Rg.e2, Rg.e3, Rg.e4, Rg.e5, Rg.e6]
            refine Rg.tk 2 (v := ?_) ?_ ?_
            rotate_left
            · (intro wx hSx; go_simp; all_goals with_reducible rfl)
            simp only [Act.put, Rg.e1, Rg.e2, Rg.e3, Rg.e4, Rg.e5, Rg.e6]
            refine Rg.tk 3 (v := ?_) ?_ ?_
            rotate_left
            · intro wx hSx
              obtain ⟨⟨_, c0, c1, c2, c3, c4⟩, _⟩ := hSx; go_simp
              all_goals with_reducible rfl
            simp only [Act.put, Rg.e1, Rg.e2, Rg.e3, Rg.e4, Rg.e5, Rg.e6]
            refine Rg.tk 4 (v := ?_) ?_ ?_
            rotate_left
            · (intro wx hSx; go_simp; all_goals with_reducible rfl)
            simp only [Act.put, Rg.e1, Rg.e2, Rg.e3, Rg.e4, Rg.e5, Rg.e6]
            refine Rg.tk 5 (v := ?_) ?_ ?_
            rotate_left
            · (intro wx hSx; go_simp; all_goals with_reducible rfl)
            simp only [Act.put, Rg.e1, Rg.e2, Rg.e3, Rg.e4, Rg.e5, Rg.e6]
            refine Rg.tk 6 (v := ?_) ?_ ?_
            rotate_left
            · (intro wx hSx; go_simp; all_goals with_reducible rfl)
            simp only [Act.put, Rg.e1, Rg.e2, Rg.e3, Rg.e4, Rg.e5, Rg.e6]
            refine Rg.tk 7 (v := ?_) ?_ ?_
            rotate_left
            · intro wx hSx
              obtain ⟨_, ⟨_, c0, c1, c2, c3, c4⟩⟩ := hSx; go_simp
              all_goals with_reducible rfl
            simp only [Act.put, Rg.e1, Rg.e2, Rg.e3, Rg.e4, Rg.e5, Rg.e6]
            refine Rg.tk 8 (v := ?_) ?_ ?_
            rotate_left
            · (intro wx hSx; go_simp; all_goals with_reducible rfl)
            simp only [Act.put, Rg.e1, Rg.e2, Rg.e3, Rg.e4, Rg.e5, Rg.e6]
            refine wpAnyH_done (by kernel_rfl) ?_ _
            have HBE := Lib.hid (HB.out.trans (HBR.out.mono HB.out.size))
            go_wp2
            go_roundw
            case rel => exact ⟨k + 1, by omega, by go_num, HBE.out⟩
            case measure => simp [intOf]; omega
          · have HBE := Lib.hid (HB3.out.trans (HB.out.mono HB3.out.size))
            go_wp2
            go_meet
            exact HBE.out
    case rest =>
      have HC := Lib.hid hcut
      clear hcut HB2 HCL HBB hkb HO
      obtain ⟨⟨ls, c⟩, hop⟩ : ∃ x, openE s = x := ⟨_, rfl⟩
      have hll := openE_len hop
      have HOP := Lib.hid hop; clear hop
      by_cases hc0 : c = 0
      · have hop0 : openE s = (ls, 0) := by rw [HOP.out, hc0]
        obtain ⟨hco, hok2⟩ := close_opened HSM.out hop0
        have HCO := Lib.hid hco; have HO2 := Lib.hid hok2; have HOP0 := Lib.hid hop0
        clear hco hok2 hop0 hc0 HOP
        go_wp2_with fail
        refine (open_ok s ls.length wc HOP0.out HSM.out rfl).mono ?_
        rintro e w4 ⟨A4, cp4, rfl, hA4, hb4⟩
        have HB4 := Lib.hid (HC.out.trans (hb4.mono HC.out.size))
        have HA4 := Lib.hid hA4
        clear hb4 hA4
        go_wp2_with fail
        refine (close_ok ls A4 cp4 w4 s HCO.out (by apply ba_ext; simp) HA4.out HO2.out (by unfold maxLen; omega)).mono ?_
        rintro e w5 ⟨rfl, hb5⟩
        have HB5 := Lib.hid (HB4.out.trans (hb5.mono HB4.out.size))
        clear hb5
        go_wp2_with fail
        refine (awake22 w5 (HW.out.below HB5.out HW.out.lt)).mono ?_
        rintro e w6 ⟨rfl, hb6⟩
        have HB6 := Lib.hid (HB5.out.trans (hb6.mono HB5.out.size))
        go_wp2
        go_ret
        exact ⟨rfl, HB6.out⟩
      · have d0 : ((c : Int) != 0) = true := by simp; omega
        have hnil : ls = [] := openL_none _ _ _ _ HOP.out hc0
        subst hnil
        clear hc0
        go_wp2_with fail
        refine (open_at s wc HOP.out HSM.out).mono ?_
        rintro e w4 ⟨A4, cp4, rfl, hA4, hb4⟩
        have HB4 := Lib.hid (HC.out.trans (hb4.mono HC.out.size))
        clear hb4 hA4
        go_wp2_with fail
        refine (awake22 w4 (HW.out.below HB4.out HW.out.lt)).mono ?_
        rintro e w5 ⟨rfl, hb5⟩
        have HB5 := Lib.hid (HB4.out.trans (hb5.mono HB4.out.size))
        go_wp2
        go_ret
        exact ⟨rfl, HB5.out⟩
end Go.Proofs.YtphndajaehofoaaDoor.Ev