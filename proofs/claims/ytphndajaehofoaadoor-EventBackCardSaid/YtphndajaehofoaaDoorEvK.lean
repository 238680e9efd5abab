/-
  The statement EventOpens: its walk.
-/
import Derived.Test.YtphndajaehofoaaDoorEvJ
namespace Go.Proofs.YtphndajaehofoaaDoor.Ev
open Go.RowKit Go.Proofs.YtphndajaehofoaaDoor.Bt Go.Proofs.YtphndajaehofoaaDoor.Mm Go.Proofs.YtphndajaehofoaaDoor.Fl Go.Proofs.YtphndajaehofoaaDoor.Lw Go.Proofs.YtphndajaehofoaaDoor.Tg Go.Proofs.YtphndajaehofoaaDoor.Oa Go.Proofs.YtphndajaehofoaaDoor.Op
set_option linter.unusedVariables false
set_option linter.unusedSimpArgs false

theorem AtE.two (p q : Addr) (k a b c k' a' b' c' : Nat) (s s' : ByteArray) : Rg.Keeps (fun w => AtE w p k a b c s ∧ AtE w q k' a' b' c' s') := (AtE.keeps p k a b c s).and (AtE.keeps q k' a' b' c' s')
theorem openL_len : ∀ (l : List (Ev × Nat)) (t : List Ev), t.length ≤ 10000 → (openL l t).1.length ≤ 10000
  | [], t, h => h
  | x :: r, t, h => by
    show (if t.length = 10000 then (([], 9) : List Ev × Nat) else if x.2 = 0 then openL r (t ++ [x.1]) else ([], x.2)).1.length ≤ 10000
    by_cases h1 : t.length = 10000
    · rw [if_pos h1]; exact Nat.zero_le _
    · rw [if_neg h1]
      by_cases h2 : x.2 = 0
      · rw [if_pos h2]
        exact openL_len r _ (by rw [List.length_append, List.length_singleton]; omega)
      · rw [if_neg h2]; exact Nat.zero_le _
theorem openE_len {s : ByteArray} {L : List Ev} {c : Nat} (h : openE s = (L, c)) : L.length ≤ 10000 := by
  have := openL_len (eachE s 0) [] (Nat.zero_le _)
  unfold openE at h
  rw [h] at this
  exact this
set_option maxRecDepth 100000 in
set_option maxHeartbeats 2000000 in
theorem opens_walk (s : ByteArray) (w : World) (hs : s.size ≤ maxLen) (hw : Wd w) : Calls Tryd.prog 4 #[.string s] w (Law1 w) := by
  have HW := Lib.hid hw; clear hw
  have HM := Lib.hid hs
  unfold maxLen at hs
  by_cases hl : 8000 < s.size
  · have d : decide ((8000 : Int) < (s.size : Int)) = true := by simp; omega
    clear hl
    go_enter Tryd.func4, Tryd.ntmps4
    go_wp2_with fail
    refine (awake22 w HW.out).mono ?_
    rintro e w1 ⟨rfl, hb1⟩
    have HB1 := Lib.hid hb1
    go_wp2
    go_ret
    exact ⟨rfl, HB1.out⟩
  have d : decide ((8000 : Int) < (s.size : Int)) = false := by simp; omega
  obtain ⟨⟨ls, c⟩, hop⟩ : ∃ x, openE s = x := ⟨_, rfl⟩
  have hll := openE_len hop
  have HOP := Lib.hid hop; clear hop
  have h100 : s.size ≤ 100000 := by omega
  clear hl
  go_enter Tryd.func4, Tryd.ntmps4
  go_wp2_with fail
  refine (open_at s w HOP.out HM.out).mono ?_
  rintro e w1 ⟨A, cp, rfl, hA, hb1⟩
  have HB1 := Lib.hid hb1
  have HA1 := Lib.hid hA
  clear hb1 hA
  go_wp2_with fail
  refine (ropen_at s w1 HOP.out h100).mono ?_
  rintro e w2 ⟨A2, cp2, rfl, hA2, hb2⟩
  have HB2 := Lib.hid (HB1.out.trans (hb2.mono HB1.out.size))
  have HA2 := Lib.hid (HA1.out.below hb2)
  have HA3 := Lib.hid hA2
  have h12 : w1.heap.size ≤ w2.heap.size := hb2.size
  clear hb2 hA2 HB1 HA1
  go_wp2_with fail
  go_loopw [34] (fun i wr => ∃ k : Nat, k ≤ ls.length ∧ i = .int .i64 k ∧ Below w2.heap.size w2 wr) (fun i _ => ls.length - (intOf i).toNat)
  case atStart => exact ⟨0, Nat.zero_le _, rfl, Below.refl _ _⟩
  case round =>
    obtain ⟨k, hk, rfl, hb⟩ := hrel
    have HB := Lib.hid hb; clear hb
    by_cases hlt : k < ls.length
    · have hi2 : 0 ≤ (k : Int) ∧ (k : Int) < (ls.length : Int) := by omega
      obtain ⟨ad, hAd, hbl, ha⟩ := at_event ((HA2.out.more h12).below HB.out) HB.out.size hlt
      obtain ⟨ad2, hAd2, hbl2, ha2⟩ := at_event (HA3.out.below HB.out) HB.out.size hlt
      subst hAd hAd2
      obtain ⟨q, hq⟩ : ∃ q, q = ls[k] := ⟨_, rfl⟩
      rw [← hq] at ha ha2
      clear hq
      obtain ⟨kd, a, b, c', u⟩ := q
      dsimp only at ha ha2
      have HAT := Lib.hid (And.intro ha ha2)
      clear ha ha2
      have e1 : ((kd : Int) == (kd : Int)) = true := by simp
      have e2 : ((a : Int) == (a : Int)) = true := by simp
      have e3 : ((b : Int) == (b : Int)) = true := by simp
      have e4 : ((c' : Int) == (c' : Int)) = true := by simp
      go_upto_region 10 with (fail)
      refine wp_region_held_drew (S := fun wx => AtE wx (ad.add (k * 5)) kd a b c' u ∧ AtE wx (ad2.add (k * 5)) kd a b c' u) (by kernel_rfl) ⟨HAT.out.1.drew, HAT.out.2.drew⟩ (fun hHeld => ?_)
      have HBR := Lib.hid ((Below.refl wr.heap.size wr).drew)
      have KS := Lib.hid (AtE.two (ad.add (k * 5)) (ad2.add (k * 5)) kd a b c' kd a b c' u u)
      generalize wr.drew = wd at hHeld HBR ⊢
      refine Rg.tk 0 (v := ?_) ?_ ?_
      rotate_left
      · (intro wx hSx; go_simp; all_goals with_reducible rfl)
      simp only [Act.put, Rg.e1, Rg.e2, Rg.e3, Rg.e4, Rg.e5, Rg.e6]
      refine Rg.tk 1 (v := ?_) ?_ ?_
      rotate_left
      · (intro wx hSx; go_simp; all_goals with_reducible rfl)
      simp only [Act.put, Rg.e1, Rg.e2, Rg.e3, Rg.e4, Rg.e5, Rg.e6]
      refine Rg.tk 2 (v := ?_) ?_ ?_
      rotate_left
      · (intro wx hSx; go_simp; all_goals with_reducible rfl)
      simp only [Act.put, Rg.e1, Rg.e2, Rg.e3, Rg.e4, Rg.e5, Rg.e6]
      refine Rg.tk 3 (v := ?_) ?_ ?_
      rotate_left
      · intro wx hSx
        obtain ⟨⟨_, c0, c1, c2, c3, c4⟩, _⟩ := hSx; go_simp
        all_goals with_reducible rfl
      simp only [Act.put, Rg.e1, Rg.e2, Rg.e3, Rg.e4, Rg.e5, Rg.e6]
      refine Rg.tk 5 (v := ?_) ?_ ?_
      rotate_left
      · (intro wx hSx; go_simp; all_goals with_reducible rfl)
      simp only [Act.put, Rg.e1, Rg.e2, Rg.e3, Rg.e4, Rg.e5, Rg.e6]
      refine Rg.tk 6 (v := ?_) ?_ ?_
      rotate_left
      · (intro wx hSx; go_simp; all_goals with_reducible rfl)
      simp only [Act.put, Rg.e1, Rg.e2, Rg.e3, Rg.e4, Rg.e5, Rg.e6]
      refine Rg.tk 7 (v := ?_) ?_ ?_
      rotate_left
      · (intro wx hSx; go_simp; all_goals with_reducible rfl)
      simp only [Act.put, Rg.e1, Rg.e2, Rg.e3, Rg.e4, Rg.e5, Rg.e6]
      refine Rg.tk 8 (v := ?_) ?_ ?_
      rotate_left
      · intro wx hSx
        obtain ⟨_, ⟨_, c0, c1, c2, c3, c4⟩⟩ := hSx; go_simp
        all_goals with_reducible rfl
      simp only [Act.put, Rg.e1, Rg.e2, Rg.e3, Rg.e4, Rg.e5, Rg.e6]
      refine wpAnyH_ready (rs := [4]) (by kernel_rfl) (by simp) ?_
      refine .cons (o := _) rfl (fun K hK => ?_) ?_
      · go_simp
        refine (of_any kd a b c' u wd).mono ?_
        rintro e wr1 ⟨rfl, hbc⟩
        go_wp2_with fail
        refine Rg.st_call hK hHeld KS.out HBR.out hbc ?_
        clear hK K
        intro hHeld hbr
        have HBR := Lib.hid hbr
        clear hbr hbc
        try simp only [Rg.e1, Rg.e2, Rg.e3]
        refine Rg.tk 9 (v := ?_) ?_ ?_
        rotate_left
        · (intro wx hSx; go_simp; all_goals with_reducible rfl)
        simp only [Act.put, Rg.e1, Rg.e2, Rg.e3, Rg.e4, Rg.e5, Rg.e6]
        refine wpAnyH_done (by kernel_rfl) ?_ _
        have HBE := Lib.hid (HB.out.trans (HBR.out.mono HB.out.size))
        go_wp2
        go_roundw
        case rel => exact ⟨k + 1, by omega, by go_num, HBE.out⟩
        case measure => simp [intOf]; omega
      exact AllReadyH.nil
    · have HBE := Lib.hid (HB2.out.trans (HB.out.mono HB2.out.size))
      go_wp2_with fail
      refine (awake22 wr (HW.out.below HBE.out HW.out.lt)).mono ?_
      rintro e w4 ⟨rfl, hb4⟩
      have HB4 := Lib.hid (HBE.out.trans (hb4.mono HBE.out.size))
      go_wp2
      go_ret
      exact ⟨rfl, HB4.out⟩
end Go.Proofs.YtphndajaehofoaaDoor.Ev