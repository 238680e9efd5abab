/-
  The statements CcmCloses, CcmOpens, CcmBack: their walks.
-/
import Derived.Test.YtnapbmdkaldncaaCmG
namespace Go.Proofs.Ytnapbmdkaldncaa.Cc
open Go.RowKit Go.Proofs.Ytnapbmdkaldncaa.Bt Go.Proofs.Ytnapbmdkaldncaa.Mm Go.Proofs.Ytnapbmdkaldncaa.Fl Go.Proofs.Ytnapbmdkaldncaa.Lw Go.Proofs.Ytnapbmdkaldncaa.Hx Go.Proofs.Ytnapbmdkaldncaa.Mc Go.Proofs.Ytnapbmdkaldncaa.Tg Go.Proofs.Ytnapbmdkaldncaa.Oa Go.Proofs.Ytnapbmdkaldncaa.Rp

theorem rname_at {nm : ByteArray} (s : ByteArray) (w : World) (h : (⟨(nameC s.data.toList).toArray⟩ : ByteArray) = nm) (hs : s.size ≤ maxLen) :
    Calls Try.prog 19 #[.string s] w fun x w' => x = .returned (.string nm) ∧ Below w.heap.size w w' := by
  rw [← h]; exact rname_any s w hs
theorem same_bytesC (b : ByteArray) : (⟨b.data.toList.toArray⟩ : ByteArray) = b := rfl
theorem awake_c1 : (closeC ⟨true, 4, 0, 1, nameC [120]⟩ 0).2 = 0 := by decide +kernel
theorem awake_c2 : (closeC ⟨true, 4, 0, 1, nameC [120]⟩ 0).1.length = 75 := by decide +kernel
theorem awake_c3 : byteAt (closeC ⟨true, 4, 0, 1, nameC [120]⟩ 0).1 2 = 132 := by decide +kernel
set_option maxRecDepth 100000 in
set_option maxHeartbeats 400000 in
theorem awake6 (w : World) : Calls Try.prog 15 #[] w fun e w' => e = .returned (.bool true) ∧ Below w.heap.size w w' := by
  obtain ⟨bs, hbs⟩ : ∃ bs, closeC ⟨true, 4, 0, 1, nameC [120]⟩ 0 = (bs, 0) := ⟨_, Prod.ext rfl awake_c1⟩
  have hl := awake_c2
  have hb := awake_c3
  rw [hbs] at hl hb
  simp only at hl hb
  obtain ⟨bb, hbb⟩ : ∃ bb : ByteArray, (⟨bs.toArray⟩ : ByteArray) = bb := ⟨_, rfl⟩
  obtain ⟨nm, hnm⟩ : ∃ nm : ByteArray, (⟨(nameC [120]).toArray⟩ : ByteArray) = nm := ⟨_, rfl⟩
  have hz : bb.size = 75 := by rw [← hbb, size_mk, hl]
  have i2 : 2 < bb.size := by omega
  have i3 : (2 : Int) < (bb.size : Int) := by omega
  have g2 : (bb[2]).toNat = 132 := by rw [byte_idx bb 2 i2, ← hbb]; exact hb
  have z75 : ((bb.size : Int) == 75) = true := by rw [hz]; rfl
  have HC := Lib.hid (show closeC ⟨true, 4, 0, 1, nm.data.toList⟩ 0 = (bs, 0) by rw [← hnm]; exact hbs)
  have HBB := Lib.hid hbb
  have HNM := Lib.hid hnm
  clear hbs hl hb hbb hnm hz
  go_enter Try.func15, Try.ntmps15
  go_wp2_with fail
  refine (name_at ⟨#[120]⟩ w HNM.out).mono ?_
  rintro x w1 ⟨rfl, hb1⟩
  have HB1 := Lib.hid hb1; clear hb1
  go_wp2_with fail
  refine (close_at true 4 0 1 nm 0 w1 HC.out (by omega)).mono ?_
  rintro x w2 ⟨rfl, hb2⟩
  have HB2 := Lib.hid (HB1.out.trans (hb2.mono HB1.out.size)); clear hb2
  rw [HBB.out]
  go_wp2_with fail
  refine (awake4 w2).mono ?_
  rintro x w3 ⟨rfl, hb3⟩
  have HB3 := Lib.hid (HB2.out.trans (hb3.mono HB2.out.size)); clear hb3
  go_wp2
  go_ret
  exact ⟨rfl, HB3.out⟩

set_option maxRecDepth 100000 in
set_option maxHeartbeats 1000000 in
theorem closes_walk (b : Bool) (p c e : Nat) (g : ByteArray) (l : Nat) (n : ByteArray) (w : World) (_hp : p < 256) (hc : c < 4294967296) (_he : e < 65536) (hg : g.size ≤ maxLen) (_hl : l < 256) (hn : n.size ≤ maxLen) :
    Calls Try.prog 6 #[cmV b p c e g, .int .u8 (l : Int), .string n] w (Law1 w) := by
  unfold maxLen at hg hn
  have HB0 := Lib.hid ((Below.refl w.heap.size w).alloc (Nat.le_refl _) (.cells (cmC b p c e g) 46))
  have K0 := Lib.hid (Rw5.fresh w 46 (.bool b) (.int .u8 (p : Int)) (.int .u32 (c : Int)) (.int .u16 (e : Int)) (.string g))
  by_cases h1 : 200 < g.size
  · have q1 : decide ((200 : Int) < (g.size : Int)) = true := by simp; omega
    go_enter Try.func6, Try.ntmps6
    go_wp2_with fail
    refine (awake6 _).mono ?_
    rintro x w1 ⟨rfl, hb1⟩
    have HB1 := Lib.hid (HB0.out.trans (hb1.mono HB0.out.size)); clear hb1
    go_wp2
    go_ret
    exact ⟨rfl, HB1.out⟩
  have q1 : decide ((200 : Int) < (g.size : Int)) = false := by simp; omega
  by_cases h2 : 200 < n.size
  · have q2 : decide ((200 : Int) < (n.size : Int)) = true := by simp; omega
    go_enter Try.func6, Try.ntmps6
    go_wp2_with fail
    refine (awake6 _).mono ?_
    rintro x w1 ⟨rfl, hb1⟩
    have HB1 := Lib.hid (HB0.out.trans (hb1.mono HB0.out.size)); clear hb1
    go_wp2
    go_ret
    exact ⟨rfl, HB1.out⟩
  have q2 : decide ((200 : Int) < (n.size : Int)) = false := by simp; omega
  obtain ⟨bs, r, hcl⟩ : ∃ bs r, closeC ⟨b, p, c, e, g.data.toList⟩ l = (bs, r) := ⟨_, _, rfl⟩
  have HC := Lib.hid hcl; clear hcl
  have HCC := Lib.hid hc; clear hc
  have hkk : ((r : Int) == (r : Int)) = true := by simp
  obtain ⟨nm, hnm⟩ : ∃ nm : ByteArray, (⟨(nameC n.data.toList).toArray⟩ : ByteArray) = nm := ⟨_, rfl⟩
  have HNM := Lib.hid hnm; clear hnm
  have HNL := Lib.hid (show n.size ≤ maxLen by unfold maxLen; omega)
  go_enter Try.func6, Try.ntmps6
  go_wp2_with fail
  generalize (w.alloc (.cells (cmC b p c e g) 46)) = wA at HB0 K0 ⊢
  refine (close_at b p c e g l wA HC.out HCC.out).mono ?_
  rintro x w1 ⟨rfl, hb1⟩
  have HB1 := Lib.hid (HB0.out.trans (hb1.mono HB0.out.size))
  obtain ⟨_, c0, c1, c2, c3, c4⟩ := Rw5.keep hb1 K0.out
  clear hb1
  go_wp2_with fail
  refine (rclose_at b p c e g l w1 HC.out HCC.out).mono ?_
  rintro x w2 ⟨rfl, hb2⟩
  have HB2 := Lib.hid (HB1.out.trans (hb2.mono HB1.out.size)); clear hb2
  go_wp2_with fail
  refine (awake6 w2).mono ?_
  rintro x w3 ⟨rfl, hb3⟩
  have HB3 := Lib.hid (HB2.out.trans (hb3.mono HB2.out.size)); clear hb3
  go_wp2_with fail
  refine (name_at n w3 HNM.out).mono ?_
  rintro x w4 ⟨rfl, hb4⟩
  have HB4 := Lib.hid (HB3.out.trans (hb4.mono HB3.out.size)); clear hb4
  go_wp2_with fail
  refine (rname_at n w4 HNM.out HNL.out).mono ?_
  rintro x w5 ⟨rfl, hb5⟩
  have HB5 := Lib.hid (HB4.out.trans (hb5.mono HB4.out.size)); clear hb5
  go_wp2
  go_ret
  exact ⟨rfl, HB5.out⟩

set_option maxRecDepth 100000 in
set_option maxHeartbeats 2000000 in
theorem opens_walk (s : ByteArray) (l : Nat) (w : World) (hs : s.size ≤ maxLen) (_hl : l < 256) : Calls Try.prog 7 #[.string s, .int .u8 (l : Int)] w (Law1 w) := by
  unfold maxLen at hs
  by_cases hl : 600 < s.size
  · go_enter Try.func7, Try.ntmps7
    go_wp2_with fail
    refine (awake6 _).mono ?_
    rintro x w1 ⟨rfl, hb1⟩
    have HB1 := Lib.hid hb1; clear hb1
    go_wp2
    go_ret
    exact ⟨rfl, HB1.out⟩
  have hl' : decide ((600 : Int) < (s.size : Int)) = false := by simp; omega
  obtain ⟨⟨b, p, c, e, gl⟩, r, ho⟩ : ∃ m r, openC s.data.toList l = (m, r) := ⟨_, _, rfl⟩
  have HO := Lib.hid ho; clear ho
  obtain ⟨g, hg⟩ : ∃ g : ByteArray, (⟨gl.toArray⟩ : ByteArray) = g := ⟨_, rfl⟩
  have HG := Lib.hid hg; clear hg
  have hkk : ((r : Int) == (r : Int)) = true := by simp
  have r0 : (b == b) = true := by simp
  have r1 : ((p : Int) == (p : Int)) = true := by simp
  have r2 : ((c : Int) == (c : Int)) = true := by simp
  have r3 : ((e : Int) == (e : Int)) = true := by simp
  have HSM := Lib.hid (show s.size ≤ maxLen by unfold maxLen; omega)
  go_enter Try.func7, Try.ntmps7
  go_wp2_with fail
  refine (open_at s l w HO.out HSM.out).mono ?_
  rintro x w1 ⟨rfl, hb1⟩
  have HB1 := Lib.hid hb1; clear hb1
  simp only [valC]
  rw [HG.out]
  go_wp2_with fail
  have K1 := Lib.hid (Rw5.fresh w1 46 (.bool b) (.int .u8 (p : Int)) (.int .u32 (c : Int)) (.int .u16 (e : Int)) (.string g))
  have HB2 := Lib.hid (HB1.out.alloc HB1.out.size (.cells (cmC b p c e g) 46))
  generalize w1.alloc (.cells (cmC b p c e g) 46) = w2 at K1 HB2 ⊢
  refine (ropen_at s l w2 HO.out).mono ?_
  rintro x w3 ⟨rfl, hb3⟩
  have K3 := Lib.hid (Rw5.keep hb3 K1.out)
  have HB3 := Lib.hid (HB2.out.trans (hb3.mono HB2.out.size))
  clear hb3 K1
  simp only [valC]
  rw [HG.out]
  go_wp2_with fail
  have K5 := Lib.hid (Rw5.keep ((Below.refl w3.heap.size w3).alloc (Nat.le_refl _) (.cells (cmC b p c e g) 49)) K3.out)
  have K6 := Lib.hid (Rw5.fresh w3 49 (.bool b) (.int .u8 (p : Int)) (.int .u32 (c : Int)) (.int .u16 (e : Int)) (.string g))
  have HB4 := Lib.hid (HB3.out.alloc HB3.out.size (.cells (cmC b p c e g) 49))
  clear K3
  generalize w3.alloc (.cells (cmC b p c e g) 49) = w4 at K5 K6 HB4 ⊢
  refine (awake6 w4).mono ?_
  rintro x w5 ⟨rfl, hb5⟩
  obtain ⟨_, c0, c1, c2, c3, c4⟩ := Rw5.keep hb5 K5.out
  obtain ⟨_, d0, d1, d2, d3, d4⟩ := Rw5.keep hb5 K6.out
  have HB5 := Lib.hid (HB4.out.trans (hb5.mono HB4.out.size)); clear hb5
  go_wp2
  go_ret
  exact ⟨rfl, HB5.out⟩

set_option maxRecDepth 100000 in
set_option maxHeartbeats 4000000 in
theorem back_walk (b : Bool) (p c e : Nat) (g : ByteArray) (l : Nat) (s : ByteArray) (w : World) (_hp : p < 256) (hc : c < 4294967296) (_he : e < 65536) (hg : g.size ≤ maxLen) (_hl : l < 256) (hs : s.size ≤ maxLen) :
    Calls Try.prog 8 #[cmV b p c e g, .int .u8 (l : Int), .string s] w (Law1 w) := by
  unfold maxLen at hs hg
  have HB0 := Lib.hid ((Below.refl w.heap.size w).alloc (Nat.le_refl _) (.cells (cmC b p c e g) 46))
  by_cases h1 : 200 < g.size
  · have q1 : decide ((200 : Int) < (g.size : Int)) = true := by simp; omega
    go_enter Try.func8, Try.ntmps8
    go_wp2_with fail
    refine (awake6 _).mono ?_
    rintro x w1 ⟨rfl, hb1⟩
    have HB1 := Lib.hid (HB0.out.trans (hb1.mono HB0.out.size)); clear hb1
    go_wp2
    go_ret
    exact ⟨rfl, HB1.out⟩
  have q1 : decide ((200 : Int) < (g.size : Int)) = false := by simp; omega
  by_cases hm : 600 < s.size
  · have hm' : decide ((600 : Int) < (s.size : Int)) = true := by simp; omega
    go_enter Try.func8, Try.ntmps8
    go_wp2_with fail
    refine (awake6 _).mono ?_
    rintro x w1 ⟨rfl, hb1⟩
    have HB1 := Lib.hid (HB0.out.trans (hb1.mono HB0.out.size)); clear hb1
    go_wp2
    go_ret
    exact ⟨rfl, HB1.out⟩
  have hm' : decide ((600 : Int) < (s.size : Int)) = false := by simp; omega
  obtain ⟨bs, r, hcl⟩ : ∃ bs r, closeC ⟨b, p, c, e, g.data.toList⟩ l = (bs, r) := ⟨_, _, rfl⟩
  have HC := Lib.hid hcl; clear hcl
  have HCC := Lib.hid hc; clear hc
  obtain ⟨kb, hkb⟩ : ∃ kb, ((r : Int) == 0) = kb := ⟨_, rfl⟩
  go_enter Try.func8, Try.ntmps8
  go_wp2_with fail
  have K0 := Lib.hid (Rw5.fresh w 46 (.bool b) (.int .u8 (p : Int)) (.int .u32 (c : Int)) (.int .u16 (e : Int)) (.string g))
  generalize (w.alloc (.cells (cmC b p c e g) 46)) = wA at HB0 K0 ⊢
  refine (close_at b p c e g l wA HC.out HCC.out).mono ?_
  rintro x w1 ⟨rfl, hb1⟩
  have K1 := Lib.hid (Rw5.keep hb1 K0.out)
  have HB1 := Lib.hid (HB0.out.trans (hb1.mono HB0.out.size)); clear hb1
  generalize hbb : (⟨bs.toArray⟩ : ByteArray) = bb
  have HBB0 := Lib.hid hbb; clear hbb
  go_upto_if 31 with (fail)
  go_cut [] (fun wx => Below w.heap.size w wx)
  case first =>
    have HKB := Lib.hid hkb; clear hkb
    cases kb with
    | true =>
      have HK0 := Lib.hid (show closeC ⟨b, p, c, e, g.data.toList⟩ l = (bs, 0) by rw [HC.out]; have := HKB.out; simp at this; rw [this])
      have HO := Lib.hid (show openC bb.data.toList l = (⟨b, p, c, e, g.data.toList⟩, 0) by rw [← HBB0.out]; exact open_closed HK0.out HCC.out)
      have HL := Lib.hid (show bb.size ≤ maxLen by
        rw [← HBB0.out, size_mk, length_closed HK0.out]
        unfold maxLen; omega)
      have r0 : (b == b) = true := by simp
      have r1 : ((p : Int) == (p : Int)) = true := by simp
      have r2 : ((c : Int) == (c : Int)) = true := by simp
      have r3 : ((e : Int) == (e : Int)) = true := by simp
      go_wp2_with fail
      refine (open_at bb l w1 HO.out HL.out).mono ?_
      rintro x w2 ⟨rfl, hb2⟩
      obtain ⟨_, c0, c1, c2, c3, c4⟩ := Rw5.keep hb2 K1.out
      have HB2 := Lib.hid (HB1.out.trans (hb2.mono HB1.out.size)); clear hb2
      simp only [valC, same_bytesC]
      go_wp2
      go_meet
      exact HB2.out.alloc HB2.out.size _
    | false =>
      go_wp2
      go_meet
      exact HB1.out
  case rest =>
    have HW := Lib.hid hcut; clear hcut HB0 HB1 K0 K1 HC hkb
    obtain ⟨f2, k2, ho⟩ : ∃ f k, openC s.data.toList l = (f, k) := ⟨_, _, rfl⟩
    have HSM := Lib.hid (show s.size ≤ maxLen by unfold maxLen; omega)
    by_cases hk : k2 = 0
    · subst hk
      have hz := (openC_zero ho).2.2.2.2
      have g4 : f2.count < 4294967296 := by
        rw [hz]
        have := getN_lt (openO s.data.toList).2.1 0 4
        simpa [msgOf] using this
      by_cases h75 : s.size = 75
      · have HCL := Lib.hid (close_opened ho (by rw [size_list]; exact h75))
        have h75' : ((s.size : Int) != 75) = false := by rw [h75]; rfl
        clear h75
        have HO := Lib.hid ho; clear ho hz
        obtain ⟨b2, p2, c2, e2, gl2⟩ := f2
        simp only at g4
        obtain ⟨g2, hg2⟩ : ∃ g2 : ByteArray, (⟨gl2.toArray⟩ : ByteArray) = g2 := ⟨_, rfl⟩
        have HCL2 := Lib.hid (show closeC ⟨b2, p2, c2, e2, g2.data.toList⟩ l = (s.data.toList, 0) by rw [← hg2]; exact HCL.out)
        have HG2 := Lib.hid hg2; clear hg2
        have HG4 := Lib.hid g4; clear g4
        go_wp2_with fail
        refine (open_at s l wc HO.out HSM.out).mono ?_
        rintro x w2 ⟨rfl, hb2⟩
        have HB2 := Lib.hid (HW.out.trans (hb2.mono HW.out.size)); clear hb2
        simp only [valC]
        rw [HG2.out]
        go_wp2_with fail
        have HB3 := Lib.hid (HB2.out.alloc HB2.out.size (.cells (cmC b2 p2 c2 e2 g2) 46))
        generalize (w2.alloc (.cells (cmC b2 p2 c2 e2 g2) 46)) = w3 at HB3 ⊢
        refine (close_at b2 p2 c2 e2 g2 l w3 HCL2.out HG4.out).mono ?_
        rintro x w4 ⟨rfl, hb4⟩
        have HB4 := Lib.hid (HB3.out.trans (hb4.mono HB3.out.size)); clear hb4
        simp only [same_bytesC]
        go_wp2_with fail
        refine (awake6 w4).mono ?_
        rintro x w5 ⟨rfl, hb5⟩
        have HB5 := Lib.hid (HB4.out.trans (hb5.mono HB4.out.size)); clear hb5
        go_wp2
        go_ret
        exact ⟨rfl, HB5.out⟩
      · have h75' : ((s.size : Int) != 75) = true := by simp; omega
        clear h75 hz g4
        have HO := Lib.hid ho; clear ho
        obtain ⟨b2, p2, c2, e2, gl2⟩ := f2
        obtain ⟨g2, hg2⟩ : ∃ g2 : ByteArray, (⟨gl2.toArray⟩ : ByteArray) = g2 := ⟨_, rfl⟩
        have HG2 := Lib.hid hg2; clear hg2
        go_wp2_with fail
        refine (open_at s l wc HO.out HSM.out).mono ?_
        rintro x w2 ⟨rfl, hb2⟩
        have HB2 := Lib.hid (HW.out.trans (hb2.mono HW.out.size)); clear hb2
        simp only [valC]
        rw [HG2.out]
        go_wp2_with fail
        have HB3 := Lib.hid (HB2.out.alloc HB2.out.size (.cells (cmC b2 p2 c2 e2 g2) 46))
        generalize (w2.alloc (.cells (cmC b2 p2 c2 e2 g2) 46)) = w3 at HB3 ⊢
        refine (awake6 w3).mono ?_
        rintro x w4 ⟨rfl, hb4⟩
        have HB4 := Lib.hid (HB3.out.trans (hb4.mono HB3.out.size)); clear hb4
        go_wp2
        go_ret
        exact ⟨rfl, HB4.out⟩
    · obtain rfl := openC_err ho hk
      have HO := Lib.hid ho; clear ho
      have hk2 : ((k2 : Int) != 0) = true := by simp [hk]
      have hk3 : ((k2 : Int) == 0) = false := by simp [hk]
      clear hk
      go_wp2_with fail
      refine (open_at s l wc HO.out HSM.out).mono ?_
      rintro x w2 ⟨rfl, hb2⟩
      have HB2 := Lib.hid (HW.out.trans (hb2.mono HW.out.size)); clear hb2
      simp only [valC, zeroC]
      go_wp2_with fail
      have K3 := Lib.hid (Rw5.fresh w2 46 (.bool false) (.int .u8 0) (.int .u32 0) (.int .u16 0) (.string ⟨#[]⟩))
      have HB3 := Lib.hid (HB2.out.alloc HB2.out.size (.cells zeroCC 46))
      generalize (w2.alloc (.cells zeroCC 46)) = w3 at HB3 K3 ⊢
      refine (awake6 w3).mono ?_
      rintro x w4 ⟨rfl, hb4⟩
      obtain ⟨_, c0, c1, c2, c3, c4⟩ := Rw5.keep hb4 K3.out
      have HB4 := Lib.hid (HB3.out.trans (hb4.mono HB3.out.size)); clear hb4
      go_wp2
      go_ret
      exact ⟨rfl, HB4.out⟩
end Go.Proofs.Ytnapbmdkaldncaa.Cc
