/-
  Event: the document's Open.
-/
import Derived.Test.YtphndajaehofoaaDoorEvI
import Derived.Test.YtphndajaehofoaaDoorEvG
namespace Go.Proofs.YtphndajaehofoaaDoor.Ev
open Go.RowKit Go.Proofs.YtphndajaehofoaaDoor.Bt Go.Proofs.YtphndajaehofoaaDoor.Mm Go.Proofs.YtphndajaehofoaaDoor.Fl Go.Proofs.YtphndajaehofoaaDoor.Lw Go.Proofs.YtphndajaehofoaaDoor.Tg Go.Proofs.YtphndajaehofoaaDoor.Oa Go.Proofs.YtphndajaehofoaaDoor.Op
set_option linter.unusedVariables false
set_option linter.unusedSimpArgs false

theorem openL_stop (s : ByteArray) (i : Nat) (ts : List Ev) (h : i < s.size) (ht : ts.length = 10000) : openL (eachE s i) ts = ([], 9) := by
  by_cases h0 : stepE s i = 0
  · rw [eachE_good s i h h0]
    show (if ts.length = 10000 then _ else _) = _
    rw [if_pos ht]
  · rw [eachE_bad s i h h0]
    show (if ts.length = 10000 then _ else _) = _
    rw [if_pos ht]
theorem openL_wrong (s : ByteArray) (i f : Nat) (ts : List Ev) (h : i < s.size) (ht : ts.length ≠ 10000) (hf : stepE s i = f) (h0 : f ≠ 0) : openL (eachE s i) ts = ([], f) := by
  rw [eachE_bad s i h (by rw [hf]; exact h0), hf]
  show (if ts.length = 10000 then _ else if f = 0 then _ else _) = _
  rw [if_neg ht, if_neg h0]
theorem openL_go (s : ByteArray) (i : Nat) (ts : List Ev) (h : i < s.size) (ht : ts.length ≠ 10000) (h0 : stepE s i = 0) : openL (eachE s i) ts = openL (eachE s (i + 6 + numE s i)) (ts ++ [evAt s i]) := by
  rw [eachE_good s i h h0]
  show (if ts.length = 10000 then _ else if (0 : Nat) = 0 then _ else _) = _
  rw [if_neg ht, if_pos rfl]
theorem cells_snoc (ts : List Ev) (q : Ev) : eventCells (ts ++ [q]) = eventCells ts ++ evL q := by simp [eventCells]
set_option maxRecDepth 100000 in
set_option maxHeartbeats 2000000 in
theorem ropen_at {L : List Ev} {c : Nat} (s : ByteArray) (w : World) (h : openE s = (L, c)) (hs : s.size ≤ 100000) :
    Calls Tryd.prog 15 #[.string s] w fun e w' => ∃ A cp, e = .returned (.tuple #[.slice A L.length cp, .int .i64 (c : Int)]) ∧ Rd w' w'.heap.size A (eventCells L) ∧ Below w.heap.size w w' := by
  obtain ⟨i0, hi, hz0, hz1, hz2⟩ := info_parts info_rev3
  have HI := Lib.hid hi; clear hi
  have H := Lib.hid h; clear h
  go_enter Tryd.func15, Tryd.ntmps15
  go_wp2
  go_loopw [4, 5] (fun v p wr => ∃ (i m : Nat) (ts : List Ev), i ≤ s.size ∧ p = .int .i64 i ∧ ts.length = m ∧ m ≤ 10000 ∧ openL (eachE s i) ts = (L, c) ∧ wr.ownsRow w.heap.size 30 5 v m (eventCells ts) ∧ Below w.heap.size w wr) (fun _ p _ => s.size - (intOf p).toNat)
  case atStart => exact ⟨0, 0, [], Nat.zero_le _, rfl, rfl, Nat.zero_le _, H.out, World.ownsRow_nil w _ _ 5, Below.refl _ _⟩
  case round =>
    obtain ⟨i, m, ts, hil, rfl, htm, hm, hop, how, hb⟩ := hrel
    have HB := Lib.hid hb; clear hb
    have HW := Lib.hid how; clear how
    have HT := Lib.hid htm; clear htm
    have HO := Lib.hid hop; clear hop
    obtain ⟨R, cp, rfl⟩ := own_slice HW.out
    by_cases hlt : i < s.size
    · by_cases hfull : m = 10000
      · have d1 : ((m : Int) == 10000) = true := by simp; omega
        have hLc := (openL_stop s i ts hlt (HT.out.trans hfull)).symm.trans HO.out
        simp only [Prod.mk.injEq] at hLc
        obtain ⟨rfl, rfl⟩ := hLc
        clear hfull
        go_wp2
        go_ret2
        exact ⟨none, 0, rfl, Rd.none _ _ _, HB.out⟩
      have d1 : ((m : Int) == 10000) = false := by simp; omega
      have hne : ts.length ≠ 10000 := by rw [HT.out]; exact hfull
      have HNE := Lib.hid hne
      have hm2 : m + 1 ≤ 10000 := by omega
      clear hfull hne
      obtain ⟨rr, hrr⟩ : ∃ r, r = s.size - i := ⟨_, rfl⟩
      have s1 : IntKind.i64.wrap ((s.size : Int) - (i : Int)) = (rr : Int) := by rw [IntKind.wrap_i64]; omega
      by_cases h6 : rr < 6
      · have d6 : decide ((rr : Int) < 6) = true := by simp; omega
        have hst : stepE s i = 1 := by unfold stepE; rw [if_pos (by omega)]
        have hLc := (openL_wrong s i 1 ts hlt HNE.out hst (by decide)).symm.trans HO.out
        simp only [Prod.mk.injEq] at hLc
        obtain ⟨rfl, rfl⟩ := hLc
        clear hst h6 hrr
        go_wp2
        go_ret2
        exact ⟨none, 0, rfl, Rd.none _ _ _, HB.out⟩
      have d6 : decide ((rr : Int) < 6) = false := by simp; omega
      obtain ⟨p1, hp1⟩ : ∃ p, p = i + 1 := ⟨_, rfl⟩
      obtain ⟨p2, hp2⟩ : ∃ p, p = i + 2 := ⟨_, rfl⟩
      obtain ⟨p3, hp3⟩ : ∃ p, p = i + 3 := ⟨_, rfl⟩
      obtain ⟨p4, hp4⟩ : ∃ p, p = i + 4 := ⟨_, rfl⟩
      obtain ⟨p5, hp5⟩ : ∃ p, p = i + 5 := ⟨_, rfl⟩
      obtain ⟨p6, hp6⟩ : ∃ p, p = i + 6 := ⟨_, rfl⟩
      have a1 : IntKind.i64.wrap ((i : Int) + 1) = (p1 : Int) := by rw [IntKind.wrap_i64]; omega
      have a2 : IntKind.i64.wrap ((i : Int) + 2) = (p2 : Int) := by rw [IntKind.wrap_i64]; omega
      have a3 : IntKind.i64.wrap ((i : Int) + 3) = (p3 : Int) := by rw [IntKind.wrap_i64]; omega
      have a4 : IntKind.i64.wrap ((i : Int) + 4) = (p4 : Int) := by rw [IntKind.wrap_i64]; omega
      have a5 : IntKind.i64.wrap ((i : Int) + 5) = (p5 : Int) := by rw [IntKind.wrap_i64]; omega
      have a6 : IntKind.i64.wrap ((i : Int) + 6) = (p6 : Int) := by rw [IntKind.wrap_i64]; omega
      have l0 : i < s.size := hlt
      have l1 : p1 < s.size := by omega
      have l2 : p2 < s.size := by omega
      have l3 : p3 < s.size := by omega
      have l4 : p4 < s.size := by omega
      have l5 : p5 < s.size := by omega
      obtain ⟨k, hk⟩ : ∃ k, byE s i = k := ⟨_, rfl⟩
      obtain ⟨a, ha⟩ : ∃ k, byE s p1 = k := ⟨_, rfl⟩
      obtain ⟨b, hb⟩ : ∃ k, byE s p2 = k := ⟨_, rfl⟩
      obtain ⟨c', hc'⟩ : ∃ k, byE s p3 = k := ⟨_, rfl⟩
      obtain ⟨x, hx⟩ : ∃ k, byE s p4 = k := ⟨_, rfl⟩
      obtain ⟨y, hy⟩ : ∃ k, byE s p5 = k := ⟨_, rfl⟩
      have v0 : (s[i]'l0).toNat = k := (byE_get s i l0).symm.trans hk
      have v1 : (s[p1]'l1).toNat = a := (byE_get s p1 l1).symm.trans ha
      have v2 : (s[p2]'l2).toNat = b := (byE_get s p2 l2).symm.trans hb
      have v3 : (s[p3]'l3).toNat = c' := (byE_get s p3 l3).symm.trans hc'
      have v4 : (s[p4]'l4).toNat = x := (byE_get s p4 l4).symm.trans hx
      have v5 : (s[p5]'l5).toNat = y := (byE_get s p5 l5).symm.trans hy
      have hx8 : x < 256 := by rw [← hx]; exact byE_lt _ _
      have hy8 : y < 256 := by rw [← hy]; exact byE_lt _ _
      obtain ⟨n, hn⟩ : ∃ n, n = x * 256 + y := ⟨_, rfl⟩
      obtain ⟨x2, hx2⟩ : ∃ n, n = x * 256 := ⟨_, rfl⟩
      have hnum : numE s i = n := by unfold numE; rw [← hp4, ← hp5, hx, hy, hn]
      have t1 : IntKind.i64.wrap (x : Int) = (x : Int) := IntWalk.i64_in _ ⟨by omega, by omega⟩
      have t2 : IntKind.i64.wrap (y : Int) = (y : Int) := IntWalk.i64_in _ ⟨by omega, by omega⟩
      have t3 : IntKind.i64.wrap ((x : Int) * 256) = (x2 : Int) := by rw [IntKind.wrap_i64]; omega
      have t4 : IntKind.i64.wrap ((x2 : Int) + (y : Int)) = (n : Int) := by rw [IntKind.wrap_i64]; omega
      obtain ⟨r6, hr6⟩ : ∃ r, r = rr - 6 := ⟨_, rfl⟩
      have s2 : IntKind.i64.wrap ((rr : Int) - 6) = (r6 : Int) := by rw [IntKind.wrap_i64]; omega
      have HR6 := Lib.hid (show p6 + r6 = s.size by omega)
      have hn16 : n < 65536 := by omega
      have e0 : ¬ s.size - i < 6 := by omega
      have e1 : (s.size - i - 6 < n) = (r6 < n) := by rw [hr6, hrr]
      have HQA : Hid (evAt s i = (k, a, b, c', s.extract p6 (p6 + n))) := Lib.hid (by
        unfold evAt
        rw [hnum, ← hp1, ← hp2, ← hp3, ← hp6, hk, ha, hb, hc'])
      have HST : Hid (stepE s i = if r6 < n then 1 else faultE (k, a, b, c', s.extract p6 (p6 + n))) := Lib.hid (by
        unfold stepE
        rw [if_neg e0, HQA.out, hnum]
        simp only [e1])
      have HNU := Lib.hid hnum
      have HP6 := Lib.hid hp6
      have hk8 : k < 256 := by rw [← hk]; exact byE_lt _ _
      clear hnum hp1 hp2 hp3 hp4 hp5 hp6 hk ha hb hc' hx hy hn hx2 hr6 hrr e0 e1
      go_upto_region 8 with (fail)
      refine wp_region_held_drew (S := fun _ => True) (by kernel_rfl) trivial (fun hHeld => ?_)
      have HB1 := Lib.hid HB.out.drew
      have HW1 := Lib.hid (own_drew HW.out)
      clear HB HW
      generalize wr.drew = wd at hHeld HB1 HW1 ⊢

      refine Rg.tk 0 (v := ?_) ?_ ?_
      rotate_left
      · (intro wx hSx; go_simp; all_goals with_reducible rfl)
      simp only [Act.put, Rg.e1, Rg.e2, Rg.e3, Rg.e4, Rg.e5, Rg.e6]
      refine Rg.tk 1 (v := ?_) ?_ ?_
      rotate_left
      · (intro wx hSx; go_simp; all_goals with_reducible rfl)
      simp only [Act.put, Rg.e1, Rg.e2, Rg.e3, Rg.e4, Rg.e5, Rg.e6]
      refine Rg.tk 2 (v := ?_) ?_ ?_
      rotate_left
      · (intro wx hSx; go_simp; all_goals with_reducible rfl)
      simp only [Act.put, Rg.e1, Rg.e2, Rg.e3, Rg.e4, Rg.e5, Rg.e6]
      refine Rg.tk 3 (v := ?_) ?_ ?_
      rotate_left
      · (intro wx hSx; go_simp; all_goals with_reducible rfl)
      simp only [Act.put, Rg.e1, Rg.e2, Rg.e3, Rg.e4, Rg.e5, Rg.e6]
      refine Rg.tk 4 (v := ?_) ?_ ?_
      rotate_left
      · (intro wx hSx; go_simp; all_goals with_reducible rfl)
      simp only [Act.put, Rg.e1, Rg.e2, Rg.e3, Rg.e4, Rg.e5, Rg.e6]
      refine Rg.tk 5 (v := ?_) ?_ ?_
      rotate_left
      · (intro wx hSx; go_simp; all_goals with_reducible rfl)
      simp only [Act.put, Rg.e1, Rg.e2, Rg.e3, Rg.e4, Rg.e5, Rg.e6]
      refine Rg.tk 6 (v := ?_) ?_ ?_
      rotate_left
      · (intro wx hSx; go_simp; all_goals with_reducible rfl)
      simp only [Act.put, Rg.e1, Rg.e2, Rg.e3, Rg.e4, Rg.e5, Rg.e6]
      refine Rg.tk 7 (v := ?_) ?_ ?_
      rotate_left
      · (intro wx hSx; go_simp; all_goals with_reducible rfl)
      simp only [Act.put, Rg.e1, Rg.e2, Rg.e3, Rg.e4, Rg.e5, Rg.e6]
      refine Rg.tk 8 (v := ?_) ?_ ?_
      rotate_left
      · (intro wx hSx; go_simp; all_goals with_reducible rfl)
      simp only [Act.put, Rg.e1, Rg.e2, Rg.e3, Rg.e4, Rg.e5, Rg.e6]
      refine Rg.tk 9 (v := ?_) ?_ ?_
      rotate_left
      · (intro wx hSx; go_simp; all_goals with_reducible rfl)
      simp only [Act.put, Rg.e1, Rg.e2, Rg.e3, Rg.e4, Rg.e5, Rg.e6]
      refine Rg.tk 10 (v := ?_) ?_ ?_
      rotate_left
      · (intro wx hSx; go_simp; all_goals with_reducible rfl)
      simp only [Act.put, Rg.e1, Rg.e2, Rg.e3, Rg.e4, Rg.e5, Rg.e6]
      refine Rg.tk 11 (v := ?_) ?_ ?_
      rotate_left
      · (intro wx hSx; go_simp; all_goals with_reducible rfl)
      simp only [Act.put, Rg.e1, Rg.e2, Rg.e3, Rg.e4, Rg.e5, Rg.e6]
      refine Rg.tk 12 (v := ?_) ?_ ?_
      rotate_left
      · (intro wx hSx; go_simp; all_goals with_reducible rfl)
      simp only [Act.put, Rg.e1, Rg.e2, Rg.e3, Rg.e4, Rg.e5, Rg.e6]
      refine wpAnyH_done (by kernel_rfl) ?_ _
      by_cases hr : r6 < n
      · have hst : stepE s i = 1 := by rw [HST.out, if_pos hr]
        have d9 : decide ((r6 : Int) < (n : Int)) = true := by simp; exact hr
        have d9n : decide (r6 < n) = true := by simp; exact hr
        clear hr HST HQA
        have hLc := (openL_wrong s i 1 ts hlt HNE.out hst (by decide)).symm.trans HO.out
        simp only [Prod.mk.injEq] at hLc
        obtain ⟨rfl, rfl⟩ := hLc
        clear hst
        go_wp2
        go_ret2
        exact ⟨none, 0, rfl, Rd.none _ _ _, HB1.out⟩
      have d9 : decide ((r6 : Int) < (n : Int)) = false := by simp; omega
      have d9n : decide (r6 < n) = false := by simp; omega
      obtain ⟨pe, hpe⟩ : ∃ p, p = p6 + n := ⟨_, rfl⟩
      have hpes : pe ≤ s.size := by have := HR6.out; omega
      have a7 : IntKind.i64.wrap ((p6 : Int) + (n : Int)) = (pe : Int) := by rw [IntKind.wrap_i64]; omega
      have hp6e : p6 ≤ pe := by omega
      have hsum : pe = i + 6 + n := by have := HP6.out; omega
      have hlp : i < pe := by omega
      have HSUM := Lib.hid hsum; clear hsum
      obtain ⟨u, hu⟩ : ∃ u, s.extract p6 pe = u := ⟨_, rfl⟩
      have hus : u.size = n := by rw [← hu, ByteArray.size_extract]; omega
      have HUS := Lib.hid hus; clear hus
      have HQ2 : Hid (evAt s i = (k, a, b, c', u)) := Lib.hid (by rw [HQA.out, ← hpe, hu])
      have HS2 : Hid (stepE s i = faultE (k, a, b, c', u)) := Lib.hid (by rw [HST.out, if_neg hr, ← hpe, hu])
      clear HQA HST hpe hr
      by_cases h7 : 7 < k
      · have hst : stepE s i = 10 := by rw [HS2.out]; unfold faultE; rw [if_pos h7]
        have d7 : decide ((7 : Int) < (k : Int)) = true := by simp; omega
        clear h7
        have hLc := (openL_wrong s i 10 ts hlt HNE.out hst (by decide)).symm.trans HO.out
        simp only [Prod.mk.injEq] at hLc
        obtain ⟨rfl, rfl⟩ := hLc
        clear hst
        go_wp2
        go_ret2
        exact ⟨none, 0, rfl, Rd.none _ _ _, HB1.out⟩
      have d7 : decide ((7 : Int) < (k : Int)) = false := by simp; omega
      by_cases h16 : 1600 < n
      · have hst : stepE s i = 2 := by rw [HS2.out]; unfold faultE; rw [if_neg h7]; dsimp only; rw [HUS.out, if_pos h16]
        have d16 : decide ((1600 : Int) < (n : Int)) = true := by simp; omega
        clear h7 h16
        have hLc := (openL_wrong s i 2 ts hlt HNE.out hst (by decide)).symm.trans HO.out
        simp only [Prod.mk.injEq] at hLc
        obtain ⟨rfl, rfl⟩ := hLc
        clear hst
        go_wp2
        go_ret2
        exact ⟨none, 0, rfl, Rd.none _ _ _, HB1.out⟩
      have d16 : decide ((1600 : Int) < (n : Int)) = false := by simp; omega
      have hst : stepE s i = 0 := by rw [HS2.out]; unfold faultE; rw [if_neg h7]; dsimp only; rw [HUS.out, if_neg h16]
      have hgo := (openL_go s i ts hlt HNE.out hst).symm.trans HO.out
      rw [HNU.out, HQ2.out, ← HSUM.out] at hgo
      have HGO := Lib.hid hgo
      clear hgo hst h7 h16 HS2 HQ2 HO
      go_upto_region 15 with (fail)
      refine wp_region_held_drew (S := fun _ => True) (by kernel_rfl) trivial (fun hHeld => ?_)
      have HB2 := Lib.hid HB1.out.drew
      have HW2 := Lib.hid (own_drew HW1.out)
      have HBR := Lib.hid ((Below.refl wd.heap.size wd).drew)
      have KS := Lib.hid Rg.Keeps.all
      clear HB1
      have hwd : wd.heap.size ≤ wd.drew.heap.size := Nat.le_refl _
      generalize wd.drew = we at hHeld HB2 HW2 HBR hwd ⊢
      have HBR := Lib.hid (Below.refl we.heap.size we)
      refine Rg.tk 0 (v := ?_) ?_ ?_
      rotate_left
      · (intro wx hSx; go_simp; all_goals with_reducible rfl)
      simp only [Act.put, Rg.e1, Rg.e2, Rg.e3, Rg.e4, Rg.e5, Rg.e6]
      refine Rg.tk 1 (v := ?_) ?_ ?_
      rotate_left
      · (intro wx hSx; go_simp; all_goals with_reducible rfl)
      simp only [Act.put, Rg.e1, Rg.e2, Rg.e3, Rg.e4, Rg.e5, Rg.e6]
      refine Rg.tk 2 (v := ?_) ?_ ?_
      rotate_left
      · (intro wx hSx; go_simp; all_goals with_reducible rfl)
      simp only [Act.put, Rg.e1, Rg.e2, Rg.e3, Rg.e4, Rg.e5, Rg.e6]
      refine Rg.tk 3 (v := ?_) ?_ ?_
      rotate_left
      · (intro wx hSx; go_simp; all_goals with_reducible rfl)
      simp only [Act.put, Rg.e1, Rg.e2, Rg.e3, Rg.e4, Rg.e5, Rg.e6]
      refine Rg.tk 4 (v := ?_) ?_ ?_
      rotate_left
      · (intro wx hSx; go_simp; all_goals with_reducible rfl)
      simp only [Act.put, Rg.e1, Rg.e2, Rg.e3, Rg.e4, Rg.e5, Rg.e6]
      refine Rg.tk 5 (v := ?_) ?_ ?_
      rotate_left
      · (intro wx hSx; go_simp; all_goals with_reducible rfl)
      simp only [Act.put, Rg.e1, Rg.e2, Rg.e3, Rg.e4, Rg.e5, Rg.e6]
      refine Rg.tk 6 (v := ?_) ?_ ?_
      rotate_left
      · (intro wx hSx; go_simp; all_goals with_reducible rfl)
      simp only [Act.put, Rg.e1, Rg.e2, Rg.e3, Rg.e4, Rg.e5, Rg.e6]
      refine Rg.tk 7 (v := ?_) ?_ ?_
      rotate_left
      · (intro wx hSx; go_simp; all_goals with_reducible rfl)
      simp only [Act.put, Rg.e1, Rg.e2, Rg.e3, Rg.e4, Rg.e5, Rg.e6]
      refine Rg.tk 8 (v := ?_) ?_ ?_
      rotate_left
      · (intro wx hSx; go_simp; all_goals with_reducible rfl)
      simp only [Act.put, Rg.e1, Rg.e2, Rg.e3, Rg.e4, Rg.e5, Rg.e6]
      refine Rg.tk 9 (v := ?_) ?_ ?_
      rotate_left
      · (intro wx hSx; go_simp; all_goals with_reducible rfl)
      simp only [Act.put, Rg.e1, Rg.e2, Rg.e3, Rg.e4, Rg.e5, Rg.e6]
      refine Rg.tk 10 (v := ?_) ?_ ?_
      rotate_left
      · (intro wx hSx; go_simp; all_goals with_reducible rfl)
      simp only [Act.put, Rg.e1, Rg.e2, Rg.e3, Rg.e4, Rg.e5, Rg.e6]
      refine Rg.tk 11 (v := ?_) ?_ ?_
      rotate_left
      · (intro wx hSx; go_simp; all_goals with_reducible rfl)
      simp only [Act.put, Rg.e1, Rg.e2, Rg.e3, Rg.e4, Rg.e5, Rg.e6]
      refine Rg.tk 12 (v := ?_) ?_ ?_
      rotate_left
      · (intro wx hSx; go_simp; all_goals with_reducible rfl)
      simp only [Act.put, Rg.e1, Rg.e2, Rg.e3, Rg.e4, Rg.e5, Rg.e6]
      refine Rg.tk 13 (v := ?_) ?_ ?_
      rotate_left
      · (intro wx hSx; go_simp; all_goals with_reducible rfl)
      simp only [Act.put, Rg.e1, Rg.e2, Rg.e3, Rg.e4, Rg.e5, Rg.e6]
      refine Rg.tk 14 (v := ?_) ?_ ?_
      rotate_left
      · (intro wx hSx; go_simp; all_goals with_reducible rfl)
      simp only [Act.put, Rg.e1, Rg.e2, Rg.e3, Rg.e4, Rg.e5, Rg.e6]
      refine Rg.tk 15 (v := ?_) ?_ ?_
      rotate_left
      · (intro wx hSx; go_simp; all_goals with_reducible rfl)
      simp only [Act.put, Rg.e1, Rg.e2, Rg.e3, Rg.e4, Rg.e5, Rg.e6]
      refine Rg.tk 16 (v := ?_) ?_ ?_
      rotate_left
      · (intro wx hSx; go_simp; all_goals with_reducible rfl)
      simp only [Act.put, Rg.e1, Rg.e2, Rg.e3, Rg.e4, Rg.e5, Rg.e6]
      refine Rg.tk 17 (v := ?_) ?_ ?_
      rotate_left
      · (intro wx hSx; go_simp; all_goals with_reducible rfl)
      simp only [Act.put, Rg.e1, Rg.e2, Rg.e3, Rg.e4, Rg.e5, Rg.e6]
      refine Rg.tk 18 (v := ?_) ?_ ?_
      rotate_left
      · (intro wx hSx; go_simp; all_goals with_reducible rfl)
      simp only [Act.put, Rg.e1, Rg.e2, Rg.e3, Rg.e4, Rg.e5, Rg.e6]
      refine Rg.tk 19 (v := ?_) ?_ ?_
      rotate_left
      · (intro wx hSx; go_simp; all_goals with_reducible rfl)
      simp only [Act.put, Rg.e1, Rg.e2, Rg.e3, Rg.e4, Rg.e5, Rg.e6]
      refine Rg.tk 20 (v := ?_) ?_ ?_
      rotate_left
      · (intro wx hSx; go_simp; all_goals with_reducible rfl)
      simp only [Act.put, Rg.e1, Rg.e2, Rg.e3, Rg.e4, Rg.e5, Rg.e6]
      refine Rg.tk 21 (v := ?_) ?_ ?_
      rotate_left
      · (intro wx hSx; go_simp; all_goals with_reducible rfl)
      simp only [Act.put, Rg.e1, Rg.e2, Rg.e3, Rg.e4, Rg.e5, Rg.e6]
      refine Rg.tk 22 (v := ?_) ?_ ?_
      rotate_left
      · (intro wx hSx; go_simp; all_goals with_reducible rfl)
      simp only [Act.put, Rg.e1, Rg.e2, Rg.e3, Rg.e4, Rg.e5, Rg.e6]
      refine Rg.tk 23 (v := ?_) ?_ ?_
      rotate_left
      · (intro wx hSx; go_simp; all_goals with_reducible rfl)
      simp only [Act.put, Rg.e1, Rg.e2, Rg.e3, Rg.e4, Rg.e5, Rg.e6]
      refine Rg.tk 24 (v := ?_) ?_ ?_
      rotate_left
      · (intro wx hSx; go_simp; all_goals with_reducible rfl)
      simp only [Act.put, Rg.e1, Rg.e2, Rg.e3, Rg.e4, Rg.e5, Rg.e6]
      refine wpAnyH_ready (rs := [25]) (by kernel_rfl) (by simp) ?_
      refine .cons (o := _) rfl (fun K hK => ?_) ?_
      · go_simp
        refine Rg.st_alloc hK hHeld KS.out HBR.out ?_
        clear hK K
        intro wr1 hlt hHeld ks hbr
        have HBR := Lib.hid hbr
        have KS := Lib.hid ks
        clear hbr ks hlt
        try simp only [Rg.e1, Rg.e2, Rg.e3]
        refine wpAnyH_ready (rs := [26]) (by kernel_rfl) (by simp) ?_
        refine .cons (o := _) rfl (fun K hK => ?_) ?_
        · refine step_append_lies _ rfl (.tmp 44) (.tmp 69) 25 rfl w.heap.size 30 i0 (.agg zeroC) 5 24 Tryd.underlying25 HI.out hz0 hz1 hz2 rfl (by decide) _ m _ rfl (own_below HW2.out HBR.out) ⟨we.heap.size, 0, none⟩ 1 1 (evL (k, a, b, c', u)) rfl rfl (World.news_of_block hHeld.2) (by intro z hz; simp at hz; rcases hz with rfl | rfl | rfl | rfl | rfl <;> rfl) (by decide) (by unfold maxLen; omega) (by omega) (Nat.le_trans HB2.out.size HBR.out.size) _ rfl ?_
          intro gg cap wr2 hown hgrow hat2 hlt2
          simp only [Act.put, Rg.e1, Rg.e2, Rg.e3, Rg.e4, Rg.e5, Rg.e6]
          have hB3 := below_own (HB2.out.trans (HBR.out.mono HB2.out.size)) (own_below HW2.out HBR.out) (Nat.le_trans HB2.out.size HBR.out.size) hgrow
          refine Rg.st_same hK ⟨trivial, hHeld.2.grown hgrow (by intro e; have := (HW2.out.lt _ e.symm).2; omega)⟩ (fun hHeld => ?_)
          clear hK K HBR KS
          have HW3 := Lib.hid hown
          have HB3 := Lib.hid hB3
          clear hown hgrow hat2 hB3 hwd HW2
          try simp only [Rg.e1, Rg.e2, Rg.e3]
          refine Rg.tk 27 (v := ?_) ?_ ?_
          rotate_left
          · (intro wx hSx; go_simp; all_goals with_reducible rfl)
          simp only [Act.put, Rg.e1, Rg.e2, Rg.e3, Rg.e4, Rg.e5, Rg.e6]
          refine wpAnyH_done (by kernel_rfl) ?_ _
          go_wp2
          go_roundw
          case rel => exact ⟨pe, m + 1, ts ++ [(k, a, b, c', u)], hpes, by go_num, by rw [List.length_append, HT.out]; rfl, hm2, HGO.out, by rw [cells_snoc]; exact HW3.out, HB3.out⟩
          case measure => simp [intOf]; omega
        exact AllReadyH.nil
      exact AllReadyH.nil
    · have hii : i = s.size := by omega
      have hnil := eachE_nil s i hlt
      have hLc := HO.out
      rw [hnil] at hLc
      simp only [openL, Prod.mk.injEq] at hLc
      obtain ⟨rfl, rfl⟩ := hLc
      have HTT := HT.out
      subst HTT
      clear hnil
      go_wp2
      go_ret2
      exact ⟨R, ⟨cp, rfl⟩, Rd.of_own HW.out, HB.out⟩
end Go.Proofs.YtphndajaehofoaaDoor.Ev