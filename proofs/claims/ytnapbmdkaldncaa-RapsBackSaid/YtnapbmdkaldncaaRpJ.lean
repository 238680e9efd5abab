/-
  The statements RapsCloses, RapsOpens, RapsBack: their walks.
-/
import Derived.Test.YtnapbmdkaldncaaRpI
namespace Go.Proofs.Ytnapbmdkaldncaa.Rp
open Go.RowKit Go.Proofs.Ytnapbmdkaldncaa.Bt Go.Proofs.Ytnapbmdkaldncaa.Mm Go.Proofs.Ytnapbmdkaldncaa.Fl Go.Proofs.Ytnapbmdkaldncaa.Lw Go.Proofs.Ytnapbmdkaldncaa.Hx Go.Proofs.Ytnapbmdkaldncaa.Mc Go.Proofs.Ytnapbmdkaldncaa.Tg Go.Proofs.Ytnapbmdkaldncaa.Oa

theorem same_bytesR (b : ByteArray) : (⟨b.data.toList.toArray⟩ : ByteArray) = b := rfl
theorem awake_closeM : closeM ⟨0, true, false, false, 2⟩ 7 = ([225, 40, 0, 32, 0, 128, 0, 0, 0, 0, 0, 2, 0, 0, 0, 0, 0, 0, 0, 0, 0, 0, 0, 0, 0, 0, 0, 0, 0, 0, 0, 0, 0, 0, 0, 0, 0], 0) := by decide +kernel
set_option maxRecDepth 100000 in
set_option maxHeartbeats 400000 in
theorem awake5 (w : World) : Calls Try.prog 12 #[] w fun e w' => e = .returned (.bool true) ∧ Below w.heap.size w w' := by
  have hx : ((⟨#[225, 40, 0, 32, 0, 128, 0, 0, 0, 0, 0, 2, 0, 0, 0, 0, 0, 0, 0, 0, 0, 0, 0, 0, 0, 0, 0, 0, 0, 0, 0, 0, 0, 0, 0, 0, 0]⟩ : ByteArray).extract 0 12).toList = [225, 40, 0, 32, 0, 128, 0, 0, 0, 0, 0, 2] := by decide +kernel
  go_enter Try.func12, Try.ntmps12
  go_wp2_with fail
  refine (close_at 0 true false false 2 7 w awake_closeM (by omega) (by omega)).mono ?_
  rintro e w1 ⟨rfl, hb1⟩
  have HB1 := Lib.hid hb1; clear hb1
  go_wp2_with fail
  refine (awake2 w1).mono ?_
  rintro e w2 ⟨rfl, hb2⟩
  have HB2 := Lib.hid (HB1.out.trans (hb2.mono HB1.out.size)); clear hb2
  go_wp2_with fail
  refine (awake4 w2).mono ?_
  rintro e w3 ⟨rfl, hb3⟩
  have HB3 := Lib.hid (HB2.out.trans (hb3.mono HB2.out.size)); clear hb3
  go_wp2
  go_ret
  exact ⟨rfl, HB3.out⟩
theorem of5_any (q : Nat) (b k e : Bool) (n : Nat) (w : World) :
    Calls Try.prog 11 #[msV q b k e n] w fun x w' => x = .returned (msV q b k e n) ∧ Below w.heap.size w w' := by
  go_enter Try.func11, Try.ntmps11
  go_wp2
  (try simp only [Exit.inBlock, Exit.then]); refine bodyPost_ret (results_cell_row rfl _ _ (w.heap.size + 1) 33 (msC q b k e n) (0, 0) _ rfl (heap_alloc2_new w _ _) Try.underlying33 rfl info_rmsg) rfl ?_
  exact ⟨rfl, ((Below.refl w.heap.size w).alloc (Nat.le_refl _) _).alloc (by simp) _⟩

set_option maxRecDepth 100000 in
set_option maxHeartbeats 1000000 in
theorem closes_walk (q : Nat) (b k e : Bool) (n l : Nat) (w : World) (hq : q < 256) (hn : n < 18446744073709551616) (_hl : l < 256) :
    Calls Try.prog 3 #[msV q b k e n, .int .u8 (l : Int)] w (Law1 w) := by
  have HB0 := Lib.hid ((Below.refl w.heap.size w).alloc (Nat.le_refl _) (.cells (msC q b k e n) 26))
  have K0 := Lib.hid (Rw5.fresh w 26 (.int .u8 (q : Int)) (.bool b) (.bool k) (.bool e) (.int .u64 (n : Int)))
  obtain ⟨bs, r, hc⟩ : ∃ bs r, closeM ⟨q, b, k, e, n⟩ l = (bs, r) := ⟨_, _, rfl⟩
  have HC := Lib.hid hc; clear hc
  have hkk : ((r : Int) == (r : Int)) = true := by simp
  go_enter Try.func3, Try.ntmps3
  go_wp2_with fail
  generalize (w.alloc (.cells (msC q b k e n) 26)) = wA at HB0 K0 ⊢
  refine (close_at q b k e n l wA HC.out hq hn).mono ?_
  rintro x w1 ⟨rfl, hb1⟩
  have HB1 := Lib.hid (HB0.out.trans (hb1.mono HB0.out.size))
  obtain ⟨_, c0, c1, c2, c3, c4⟩ := Rw5.keep hb1 K0.out
  clear hb1
  go_wp2_with fail
  refine (of5_any q b k e n w1).mono ?_
  rintro x w2 ⟨rfl, hb2⟩
  have HB2 := Lib.hid (HB1.out.trans (hb2.mono HB1.out.size)); clear hb2
  go_wp2_with fail
  refine (rclose_at q b k e n l w2 HC.out hn).mono ?_
  rintro x w3 ⟨rfl, hb3⟩
  have HB3 := Lib.hid (HB2.out.trans (hb3.mono HB2.out.size)); clear hb3
  go_wp2_with fail
  refine (awake5 w3).mono ?_
  rintro x w4 ⟨rfl, hb4⟩
  have HB4 := Lib.hid (HB3.out.trans (hb4.mono HB3.out.size)); clear hb4
  go_wp2
  go_ret
  exact ⟨rfl, HB4.out⟩

set_option maxRecDepth 100000 in
set_option maxHeartbeats 2000000 in
theorem opens_walk (s : ByteArray) (l : Nat) (w : World) (hs : s.size ≤ maxLen) (_hl : l < 256) : Calls Try.prog 4 #[.string s, .int .u8 (l : Int)] w (Law1 w) := by
  unfold maxLen at hs
  by_cases hl : 600 < s.size
  · go_enter Try.func4, Try.ntmps4
    go_wp2_with fail
    refine (awake5 _).mono ?_
    rintro x w1 ⟨rfl, hb1⟩
    have HB1 := Lib.hid hb1; clear hb1
    go_wp2
    go_ret
    exact ⟨rfl, HB1.out⟩
  have hl' : decide ((600 : Int) < (s.size : Int)) = false := by simp; omega
  obtain ⟨⟨q, b, k, e, n⟩, r, ho⟩ : ∃ m r, openM s.data.toList l = (m, r) := ⟨_, _, rfl⟩
  have HO := Lib.hid ho; clear ho
  have hkk : ((r : Int) == (r : Int)) = true := by simp
  have r0 : ((q : Int) == (q : Int)) = true := by simp
  have r1 : (b == b) = true := by simp
  have r2 : (k == k) = true := by simp
  have r3 : (e == e) = true := by simp
  have r4 : ((n : Int) == (n : Int)) = true := by simp
  have HSM := Lib.hid (show s.size ≤ maxLen by unfold maxLen; omega)
  go_enter Try.func4, Try.ntmps4
  go_wp2_with fail
  refine (open_at s l w HO.out HSM.out).mono ?_
  rintro x w1 ⟨rfl, hb1⟩
  have HB1 := Lib.hid hb1; clear hb1
  simp only [valM]
  go_wp2_with fail
  have K1 := Lib.hid (Rw5.fresh w1 26 (.int .u8 (q : Int)) (.bool b) (.bool k) (.bool e) (.int .u64 (n : Int)))
  have HB2 := Lib.hid (HB1.out.alloc HB1.out.size (.cells (msC q b k e n) 26))
  generalize w1.alloc (.cells (msC q b k e n) 26) = w2 at K1 HB2 ⊢
  refine (ropen_at s l w2 HO.out).mono ?_
  rintro x w3 ⟨rfl, hb3⟩
  have K3 := Lib.hid (Rw5.keep hb3 K1.out)
  have HB3 := Lib.hid (HB2.out.trans (hb3.mono HB2.out.size))
  clear hb3 K1
  simp only [valM]
  go_upto_region 5 with (fail)
  have K5 := Rw5.keep ((Below.refl w3.heap.size w3).alloc (Nat.le_refl _) (.cells (msC q b k e n) 33)) K3.out
  have K6 := Rw5.fresh w3 33 (.int .u8 (q : Int)) (.bool b) (.bool k) (.bool e) (.int .u64 (n : Int))
  have HB4 := Lib.hid (HB3.out.alloc HB3.out.size (.cells (msC q b k e n) 33))
  clear K3
  generalize w3.alloc (.cells (msC q b k e n) 33) = w4 at K5 K6 HB4 ⊢
  have KK := And.intro K5 K6
  clear K5 K6
  go_region_held3 (fun w' => (w1.heap.size < w'.heap.size ∧ w'.cell? ⟨w1.heap.size, 0, none⟩ = some (.int .u8 (q : Int)) ∧ w'.cell? ⟨w1.heap.size, 1, none⟩ = some (.bool b) ∧ w'.cell? ⟨w1.heap.size, 2, none⟩ = some (.bool k) ∧ w'.cell? ⟨w1.heap.size, 3, none⟩ = some (.bool e) ∧ w'.cell? ⟨w1.heap.size, 4, none⟩ = some (.int .u64 (n : Int))) ∧ (w3.heap.size < w'.heap.size ∧ w'.cell? ⟨w3.heap.size, 0, none⟩ = some (.int .u8 (q : Int)) ∧ w'.cell? ⟨w3.heap.size, 1, none⟩ = some (.bool b) ∧ w'.cell? ⟨w3.heap.size, 2, none⟩ = some (.bool k) ∧ w'.cell? ⟨w3.heap.size, 3, none⟩ = some (.bool e) ∧ w'.cell? ⟨w3.heap.size, 4, none⟩ = some (.int .u64 (n : Int)))) (first | exact KK | exact ⟨Rw5.keep hb5 KK.1, Rw5.keep hb5 KK.2⟩ | exact ⟨Rw5.keep hb6 (Rw5.keep hb5 KK.1), Rw5.keep hb6 (Rw5.keep hb5 KK.2)⟩)
    (first | (go_at_call 12; refine (awake5 _).mono ?_; rintro x w5 ⟨rfl, hb5⟩) | (go_at_call 11; refine (of5_any q b k e n _).mono ?_; rintro x w6 ⟨rfl, hb6⟩))
  have HB6 := Lib.hid ((HB4.out.drew.trans (hb5.mono HB4.out.size)).trans (hb6.mono (Nat.le_trans HB4.out.size hb5.size)))
  clear hb5 hb6 KK
  go_wp2
  go_ret
  exact ⟨rfl, HB6.out⟩

set_option maxRecDepth 100000 in
set_option maxHeartbeats 4000000 in
theorem back_walk (q : Nat) (b k e : Bool) (n l o : Nat) (s : ByteArray) (w : World) (hq : q < 256) (hn : n < 18446744073709551616) (_hl : l < 256) (_ho : o < 256) (hs : s.size ≤ maxLen) :
    Calls Try.prog 5 #[msV q b k e n, .int .u8 (l : Int), .int .u8 (o : Int), .string s] w (Law1 w) := by
  unfold maxLen at hs
  have HB0 := Lib.hid ((Below.refl w.heap.size w).alloc (Nat.le_refl _) (.cells (msC q b k e n) 26))
  by_cases hm : 600 < s.size
  · have hm' : decide ((600 : Int) < (s.size : Int)) = true := by simp; omega
    go_enter Try.func5, Try.ntmps5
    go_wp2_with fail
    refine (awake5 _).mono ?_
    rintro x w1 ⟨rfl, hb1⟩
    have HB1 := Lib.hid (HB0.out.trans (hb1.mono HB0.out.size)); clear hb1
    go_wp2
    go_ret
    exact ⟨rfl, HB1.out⟩
  have hm' : decide ((600 : Int) < (s.size : Int)) = false := by simp; omega
  obtain ⟨bs, r, hc⟩ : ∃ bs r, closeM ⟨q, b, k, e, n⟩ l = (bs, r) := ⟨_, _, rfl⟩
  have HC := Lib.hid hc; clear hc
  obtain ⟨kb, hkb⟩ : ∃ kb, ((r : Int) == 0) = kb := ⟨_, rfl⟩
  go_enter Try.func5, Try.ntmps5
  go_wp2_with fail
  have K0 := Lib.hid (Rw5.fresh w 26 (.int .u8 (q : Int)) (.bool b) (.bool k) (.bool e) (.int .u64 (n : Int)))
  generalize (w.alloc (.cells (msC q b k e n) 26)) = wA at HB0 K0 ⊢
  refine (close_at q b k e n l wA HC.out hq hn).mono ?_
  rintro x w1 ⟨rfl, hb1⟩
  have K1 := Lib.hid (Rw5.keep hb1 K0.out)
  have HB1 := Lib.hid (HB0.out.trans (hb1.mono HB0.out.size)); clear hb1
  generalize hbb : (⟨bs.toArray⟩ : ByteArray) = bb
  have HBB0 := Lib.hid hbb; clear hbb
  go_upto_if 29 with (fail)
  go_cut [] (fun wx => Below w.heap.size w wx)
  case first =>
    have HKB := Lib.hid hkb; clear hkb
    cases kb with
    | true =>
      have HK0 := Lib.hid (show closeM ⟨q, b, k, e, n⟩ l = (bs, 0) by rw [HC.out]; have := HKB.out; simp at this; rw [this])
      have HO := Lib.hid (show openM bb.data.toList l = (⟨q, b, k, e, n⟩, 0) by rw [← HBB0.out]; exact open_closed HK0.out)
      have HL := Lib.hid (show bb.size ≤ maxLen by
        rw [← HBB0.out, size_mk, length_closed HK0.out]
        unfold maxLen; omega)
      have r0 : ((q : Int) == (q : Int)) = true := by simp
      have r1 : (b == b) = true := by simp
      have r2 : (k == k) = true := by simp
      have r3 : (e == e) = true := by simp
      have r4 : ((n : Int) == (n : Int)) = true := by simp
      go_wp2_with fail
      refine (open_at bb l w1 HO.out HL.out).mono ?_
      rintro x w2 ⟨rfl, hb2⟩
      have K2 := Lib.hid (Rw5.keep hb2 K1.out)
      have HB2 := Lib.hid (HB1.out.trans (hb2.mono HB1.out.size)); clear hb2
      simp only [valM]
      go_wp2_with fail
      have KX := Lib.hid (Rw5.fresh w2 26 (.int .u8 (q : Int)) (.bool b) (.bool k) (.bool e) (.int .u64 (n : Int)))
      have K3 := Lib.hid (Rw5.keep ((Below.refl w2.heap.size w2).alloc (Nat.le_refl _) (.cells (msC q b k e n) 26)) K2.out)
      have HB3 := Lib.hid (HB2.out.alloc HB2.out.size (.cells (msC q b k e n) 26))
      generalize (w2.alloc (.cells (msC q b k e n) 26)) = w3 at HB3 K3 KX ⊢
      by_cases hlo : o = l
      · subst hlo
        have r5 : ((o : Int) == (o : Int)) = true := by simp
        refine (open_at bb o w3 HO.out HL.out).mono ?_
        rintro x w4 ⟨rfl, hb4⟩
        obtain ⟨_, c0, c1, c2, c3, c4⟩ := Rw5.keep hb4 K3.out
        obtain ⟨_, d0, d1, d2, d3, d4⟩ := Rw5.keep hb4 KX.out
        have HB4 := Lib.hid (HB3.out.trans (hb4.mono HB3.out.size)); clear hb4
        simp only [valM]
        go_wp2
        go_meet
        exact HB4.out.alloc HB4.out.size _
      · have r5 : ((o : Int) == (l : Int)) = false := by simp; omega
        have HO2 := Lib.hid (show openM bb.data.toList o = (zeroM, 7) by rw [← HBB0.out]; exact open_other HK0.out hlo)
        clear hlo
        refine (open_at bb o w3 HO2.out HL.out).mono ?_
        rintro x w4 ⟨rfl, hb4⟩
        obtain ⟨_, c0, c1, c2, c3, c4⟩ := Rw5.keep hb4 K3.out
        obtain ⟨_, d0, d1, d2, d3, d4⟩ := Rw5.keep hb4 KX.out
        have HB4 := Lib.hid (HB3.out.trans (hb4.mono HB3.out.size)); clear hb4
        simp only [valM, zeroM]
        go_wp2
        go_meet
        exact HB4.out.alloc HB4.out.size _
    | false =>
      go_wp2
      go_meet
      exact HB1.out
  case rest =>
    have HW := Lib.hid hcut; clear hcut HB0 HB1 K0 K1 HC hkb
    obtain ⟨f2, k2, ho⟩ : ∃ f k, openM s.data.toList l = (f, k) := ⟨_, _, rfl⟩
    have HSM := Lib.hid (show s.size ≤ maxLen by unfold maxLen; omega)
    by_cases hk : k2 = 0
    · subst hk
      have hz := (openM_zero ho).2.2.2.2
      obtain ⟨g1, _, g3, _⟩ := wrongM_zero hz
      have g2 := kind_lt g1
      by_cases h37 : s.size = 37
      · have HCL := Lib.hid (close_opened ho (by rw [size_list]; exact h37))
        have h37' : ((s.size : Int) != 37) = false := by rw [h37]; rfl
        clear h37
        have HO := Lib.hid ho; clear ho hz g1
        obtain ⟨q2, b2, k2, e2, n2⟩ := f2
        simp only at g2 g3
        go_wp2_with fail
        refine (open_at s l wc HO.out HSM.out).mono ?_
        rintro x w2 ⟨rfl, hb2⟩
        have HB2 := Lib.hid (HW.out.trans (hb2.mono HW.out.size)); clear hb2
        simp only [valM]
        go_wp2_with fail
        have HB3 := Lib.hid (HB2.out.alloc HB2.out.size (.cells (msC q2 b2 k2 e2 n2) 26))
        generalize (w2.alloc (.cells (msC q2 b2 k2 e2 n2) 26)) = w3 at HB3 ⊢
        refine (close_at q2 b2 k2 e2 n2 l w3 HCL.out (by omega) (by omega)).mono ?_
        rintro x w4 ⟨rfl, hb4⟩
        have HB4 := Lib.hid (HB3.out.trans (hb4.mono HB3.out.size)); clear hb4
        simp only [same_bytesR]
        go_wp2_with fail
        refine (awake5 w4).mono ?_
        rintro x w5 ⟨rfl, hb5⟩
        have HB5 := Lib.hid (HB4.out.trans (hb5.mono HB4.out.size)); clear hb5
        go_wp2
        go_ret
        exact ⟨rfl, HB5.out⟩
      · have h37' : ((s.size : Int) != 37) = true := by simp; omega
        clear h37 hz g1 g2 g3
        have HO := Lib.hid ho; clear ho
        obtain ⟨q2, b2, k2, e2, n2⟩ := f2
        go_wp2_with fail
        refine (open_at s l wc HO.out HSM.out).mono ?_
        rintro x w2 ⟨rfl, hb2⟩
        have HB2 := Lib.hid (HW.out.trans (hb2.mono HW.out.size)); clear hb2
        simp only [valM]
        go_wp2_with fail
        have HB3 := Lib.hid (HB2.out.alloc HB2.out.size (.cells (msC q2 b2 k2 e2 n2) 26))
        generalize (w2.alloc (.cells (msC q2 b2 k2 e2 n2) 26)) = w3 at HB3 ⊢
        refine (awake5 w3).mono ?_
        rintro x w4 ⟨rfl, hb4⟩
        have HB4 := Lib.hid (HB3.out.trans (hb4.mono HB3.out.size)); clear hb4
        go_wp2
        go_ret
        exact ⟨rfl, HB4.out⟩
    · obtain rfl := openM_err ho hk
      have HO := Lib.hid ho; clear ho
      have hk2 : ((k2 : Int) != 0) = true := by simp [hk]
      have hk3 : ((k2 : Int) == 0) = false := by simp [hk]
      clear hk
      go_wp2_with fail
      refine (open_at s l wc HO.out HSM.out).mono ?_
      rintro x w2 ⟨rfl, hb2⟩
      have HB2 := Lib.hid (HW.out.trans (hb2.mono HW.out.size)); clear hb2
      simp only [valM, zeroM]
      go_wp2_with fail
      have K3 := Lib.hid (Rw5.fresh w2 26 (.int .u8 0) (.bool false) (.bool false) (.bool false) (.int .u64 0))
      have HB3 := Lib.hid (HB2.out.alloc HB2.out.size (.cells zeroMC 26))
      generalize (w2.alloc (.cells zeroMC 26)) = w3 at HB3 K3 ⊢
      refine (awake5 w3).mono ?_
      rintro x w4 ⟨rfl, hb4⟩
      obtain ⟨_, c0, c1, c2, c3, c4⟩ := Rw5.keep hb4 K3.out
      have HB4 := Lib.hid (HB3.out.trans (hb4.mono HB3.out.size)); clear hb4
      go_wp2
      go_ret
      exact ⟨rfl, HB4.out⟩
end Go.Proofs.Ytnapbmdkaldncaa.Rp
