/-
  The statements MacTells, MacReads, MacBack: their walks.
-/
import Derived.Test.YtkhaoclpomamlaaMac6
namespace Go.Proofs.Ytkhaoclpomamlaa.Mc
open Go.RowKit Go.Proofs.Ytkhaoclpomamlaa.Bt Go.Proofs.Ytkhaoclpomamlaa.Mm Go.Proofs.Ytkhaoclpomamlaa.Fl Go.Proofs.Ytkhaoclpomamlaa.Rf Go.Proofs.Ytkhaoclpomamlaa.Hx Go.Proofs.Ytkhaoclpomamlaa.Lw

theorem parse_at {v k : Nat} (s : ByteArray) (w : World) (h : parseR s.data.toList = (v, k)) (hs : s.size ≤ maxLen) :
    Calls Try.prog 26 #[.string s] w fun e w' => e = .returned (.tuple #[.int .u64 (v : Int), .int .i64 (k : Int)]) ∧ w = w' := by
  have := parse_any s w hs
  rw [h] at this
  exact this
theorem rparse_at {v k : Nat} (s : ByteArray) (w : World) (h : parseR s.data.toList = (v, k)) (hs : s.size ≤ maxLen) :
    Calls Try.prog 27 #[.string s] w fun e w' => e = .returned (.tuple #[.int .u64 (v : Int), .int .i64 (k : Int)]) ∧ Below w.heap.size w w' := by
  have := rparse_any s w hs
  rw [h] at this
  exact this
theorem of_at {v k : Nat} (s : ByteArray) (w : World) (h : ofR s.data.toList = (v, k)) (hs : s.size ≤ maxLen) :
    Calls Try.prog 25 #[.string s] w fun e w' => e = .returned (.tuple #[.int .u64 (v : Int), .int .i64 (k : Int)]) ∧ Below w.heap.size w w' := by
  have := of_any s w hs
  rw [h] at this
  exact this
theorem group_b (b : Bool) (n : Nat) (w : World) (h : groupB n = b) (hn : n < 18446744073709551616) :
    Calls Try.prog 19 #[.int .u64 (n : Int)] w fun e w' => e = .returned (.bool b) ∧ w = w' := by
  subst h; exact group_any n w hn
theorem rgroup_b (b : Bool) (n : Nat) (w : World) (h : groupB n = b) (hn : n < 18446744073709551616) :
    Calls Try.prog 20 #[.int .u64 (n : Int)] w fun e w' => e = .returned (.bool b) ∧ w = w' := by
  subst h; exact rgroup_any n w hn
theorem bytes_at (l : ByteArray) (n : Nat) (w : World) (h : (⟨(bytesM n).toArray⟩ : ByteArray) = l) (hn : n < 18446744073709551616) :
    Calls Try.prog 21 #[.int .u64 (n : Int)] w fun e w' => e = .returned (.string l) ∧ Below w.heap.size w w' := by
  subst h; exact bytes_any n w hn
theorem rbytes_at (l : ByteArray) (n : Nat) (w : World) (h : (⟨(bytesM n).toArray⟩ : ByteArray) = l) (hn : n < 18446744073709551616) :
    Calls Try.prog 22 #[.int .u64 (n : Int)] w fun e w' => e = .returned (.string l) ∧ Below w.heap.size w w' := by
  subst h; exact rbytes_any n w hn
theorem string_at (l : ByteArray) (n : Nat) (w : World) (h : (⟨(text (bytesM n)).toArray⟩ : ByteArray) = l) (hn : n < 18446744073709551616) :
    Calls Try.prog 23 #[.int .u64 (n : Int)] w fun e w' => e = .returned (.string l) ∧ Below w.heap.size w w' := by
  subst h; exact string_any n w hn
theorem rstring_at (l : ByteArray) (n : Nat) (w : World) (h : (⟨(text (bytesM n)).toArray⟩ : ByteArray) = l) (hn : n < 18446744073709551616) :
    Calls Try.prog 24 #[.int .u64 (n : Int)] w fun e w' => e = .returned (.string l) ∧ Below w.heap.size w w' := by
  subst h; exact rstring_any n w hn

theorem awake_parse : parseR [48, 49, 58, 49, 57, 58, 97, 55, 58, 48, 48, 58, 48, 48, 58, 48, 49] = (1209687605249, 0) := by decide +kernel
theorem awake_group : groupB 1209687605249 = true := by decide +kernel
theorem awake_group2 : groupB 2 = false := by decide +kernel
theorem awake_bytes : bytesM 1209687605249 = [1, 25, 167, 0, 0, 1] := by decide +kernel

set_option maxHeartbeats 400000 in
theorem awake2 (w : World) : Calls Try.prog 16 #[] w fun e w' => e = .returned (.bool true) ∧ Below w.heap.size w w' := by
  go_enter Try.func16, Try.ntmps16
  go_wp2_with fail
  refine (parse_at _ w awake_parse (by unfold maxLen; decide)).mono ?_
  rintro e w1 ⟨rfl, rfl⟩
  go_wp2_with fail
  refine (awake1 w).mono ?_
  rintro e w2 ⟨rfl, hb2⟩
  have HB2 := Lib.hid hb2; clear hb2
  have hs2 := HB2.out.size
  go_wp2_with fail
  refine (group_b true 1209687605249 w2 awake_group (by omega)).mono ?_
  rintro e w3 ⟨rfl, rfl⟩
  go_wp2_with fail
  refine (bytes_at ⟨#[1, 25, 167, 0, 0, 1]⟩ 1209687605249 w2 (by rw [awake_bytes]) (by omega)).mono ?_
  rintro e w3 ⟨rfl, hb3⟩
  have HB3 := Lib.hid (HB2.out.trans (hb3.mono hs2)); clear hb3
  go_wp2_with fail
  refine (group_b false 2 w3 awake_group2 (by omega)).mono ?_
  rintro e w4 ⟨rfl, rfl⟩
  go_wp2
  go_ret
  exact ⟨rfl, HB3.out⟩

set_option maxHeartbeats 1000000 in
theorem tells_walk (a : Int) (w : World) (ha : (Lit.int .u64 a).wf = true) :
    Calls Try.prog 6 #[.int .u64 a] w (Law1 w) := by
  have hb : 0 ≤ a ∧ a ≤ 18446744073709551615 := by simpa [Lit.wf, IntKind.min, IntKind.max, IntKind.signed, IntKind.bits] using ha
  clear ha
  obtain ⟨n, rfl⟩ := Int.eq_ofNat_of_zero_le hb.1
  have hn : n < 18446744073709551616 := by omega
  clear hb
  obtain ⟨mb, hmb⟩ : ∃ b, mayB n = b := ⟨_, rfl⟩
  obtain ⟨gb, hgb⟩ : ∃ b, groupB n = b := ⟨_, rfl⟩
  obtain ⟨bs, hbs⟩ : ∃ l, (⟨(bytesM n).toArray⟩ : ByteArray) = l := ⟨_, rfl⟩
  obtain ⟨ts, hts⟩ : ∃ l, (⟨(text (bytesM n)).toArray⟩ : ByteArray) = l := ⟨_, rfl⟩
  have HMB := Lib.hid hmb; clear hmb
  have HGB := Lib.hid hgb; clear hgb
  have HBS := Lib.hid hbs; clear hbs
  have HTS := Lib.hid hts; clear hts
  have e1 : (mb == mb) = true := by simp
  have e2 : (gb == gb) = true := by simp
  go_enter Try.func6, Try.ntmps6
  go_wp2_with fail
  refine (awake2 w).mono ?_
  rintro e w1 ⟨rfl, hb1⟩
  have HB1 := Lib.hid hb1; clear hb1
  go_wp2_with fail
  refine (may_b mb n w1 HMB.out).mono ?_
  rintro e w2 ⟨rfl, rfl⟩
  go_wp2_with fail
  refine (rmay_b mb n w1 HMB.out).mono ?_
  rintro e w2 ⟨rfl, rfl⟩
  go_wp2_with fail
  refine (group_b gb n w1 HGB.out hn).mono ?_
  rintro e w2 ⟨rfl, rfl⟩
  go_wp2_with fail
  refine (rgroup_b gb n w1 HGB.out hn).mono ?_
  rintro e w2 ⟨rfl, rfl⟩
  go_wp2_with fail
  refine (bytes_at bs n w1 HBS.out hn).mono ?_
  rintro e w2 ⟨rfl, hb2⟩
  have HB2 := Lib.hid (HB1.out.trans (hb2.mono HB1.out.size)); clear hb2
  go_wp2_with fail
  refine (rbytes_at bs n w2 HBS.out hn).mono ?_
  rintro e w3 ⟨rfl, hb3⟩
  have HB3 := Lib.hid (HB2.out.trans (hb3.mono HB2.out.size)); clear hb3
  go_wp2_with fail
  refine (string_at ts n w3 HTS.out hn).mono ?_
  rintro e w4 ⟨rfl, hb4⟩
  have HB4 := Lib.hid (HB3.out.trans (hb4.mono HB3.out.size)); clear hb4
  go_wp2_with fail
  refine (rstring_at ts n w4 HTS.out hn).mono ?_
  rintro e w5 ⟨rfl, hb5⟩
  have HB5 := Lib.hid (HB4.out.trans (hb5.mono HB4.out.size)); clear hb5
  go_wp2
  go_ret
  exact ⟨rfl, HB5.out⟩

set_option maxHeartbeats 1000000 in
theorem reads_walk (b s : ByteArray) (w : World) (hb : b.size ≤ maxLen) (hs : s.size ≤ maxLen) :
    Calls Try.prog 7 #[.string b, .string s] w (Law1 w) := by
  unfold maxLen at hb hs
  by_cases h1 : 100 < b.size
  · go_enter Try.func7, Try.ntmps7
    go_wp2_with fail
    refine (awake2 w).mono ?_
    rintro e w1 ⟨rfl, hb1⟩
    have HB1 := Lib.hid hb1; clear hb1
    go_wp2
    go_ret
    exact ⟨rfl, HB1.out⟩
  have hl1 : decide ((100 : Int) < (b.size : Int)) = false := by simp; omega
  by_cases h2 : 200 < s.size
  · go_enter Try.func7, Try.ntmps7
    go_wp2_with fail
    refine (awake2 w).mono ?_
    rintro e w1 ⟨rfl, hb1⟩
    have HB1 := Lib.hid hb1; clear hb1
    go_wp2
    go_ret
    exact ⟨rfl, HB1.out⟩
  have hl2 : decide ((200 : Int) < (s.size : Int)) = false := by simp; omega
  obtain ⟨x, k, hx⟩ : ∃ x k, ofR b.data.toList = (x, k) := ⟨_, _, rfl⟩
  obtain ⟨y, f, hy⟩ : ∃ y f, parseR s.data.toList = (y, f) := ⟨_, _, rfl⟩
  have HX := Lib.hid hx; clear hx
  have HY := Lib.hid hy; clear hy
  have hbl := size_list b
  have HBL := Lib.hid hbl; clear hbl
  have n1 : ((y : Int) != (y : Int)) = false := by simp
  have n2 : ((f : Int) != (f : Int)) = false := by simp
  go_enter Try.func7, Try.ntmps7
  go_wp2_with fail
  refine (of_at b w HX.out (by unfold maxLen; omega)).mono ?_
  rintro e w1 ⟨rfl, hb1⟩
  have HB1 := Lib.hid hb1; clear hb1
  go_wp2_with fail
  refine (parse_at s w1 HY.out (by unfold maxLen; omega)).mono ?_
  rintro e w2 ⟨rfl, rfl⟩
  go_wp2_with fail
  refine (rparse_at s w1 HY.out (by unfold maxLen; omega)).mono ?_
  rintro e w2 ⟨rfl, hb2⟩
  have HB2 := Lib.hid (HB1.out.trans (hb2.mono HB1.out.size)); clear hb2
  by_cases h6 : b.size < 6
  · have hxk : x = 0 ∧ k = 1 := by
      have := HX.out
      unfold ofR at this
      rw [if_pos (by have := HBL.out; omega)] at this
      simp only [Prod.mk.injEq] at this
      exact ⟨this.1.symm, this.2.symm⟩
    obtain ⟨rfl, rfl⟩ := hxk
    clear HX
    go_wp2_with fail
    refine (awake2 w2).mono ?_
    rintro e w3 ⟨rfl, hb3⟩
    have HB3 := Lib.hid (HB2.out.trans (hb3.mono HB2.out.size)); clear hb3
    go_wp2
    go_ret
    exact ⟨rfl, HB3.out⟩
  by_cases h7 : 6 < b.size
  · have hxk : x = 0 ∧ k = 2 := by
      have := HX.out
      unfold ofR at this
      rw [if_neg (by have := HBL.out; omega), if_pos (by have := HBL.out; omega)] at this
      simp only [Prod.mk.injEq] at this
      exact ⟨this.1.symm, this.2.symm⟩
    obtain ⟨rfl, rfl⟩ := hxk
    clear HX
    go_wp2_with fail
    refine (awake2 w2).mono ?_
    rintro e w3 ⟨rfl, hb3⟩
    have HB3 := Lib.hid (HB2.out.trans (hb3.mono HB2.out.size)); clear hb3
    go_wp2
    go_ret
    exact ⟨rfl, HB3.out⟩
  have hxk : x = b.data.toList.foldl (fun a c => a * 256 + c.toNat) 0 ∧ k = 0 := by
    have := HX.out
    unfold ofR at this
    rw [if_neg (by have := HBL.out; omega), if_neg (by have := HBL.out; omega)] at this
    simp only [Prod.mk.injEq] at this
    exact ⟨this.1.symm, this.2.symm⟩
  obtain ⟨hxe, rfl⟩ := hxk
  clear HX
  have hg := get6_any b
  rw [← hxe] at hg
  clear hxe
  have HG := Lib.hid hg; clear hg
  go_wp2_with fail
  refine (awake2 w2).mono ?_
  rintro e w3 ⟨rfl, hb3⟩
  have HB3 := Lib.hid (HB2.out.trans (hb3.mono HB2.out.size)); clear hb3
  go_wp2_with fail
  refine (HG.out w3 (by omega)).mono ?_
  rintro e w4 ⟨rfl, hb4⟩
  have HB4 := Lib.hid (HB3.out.trans (hb4.mono HB3.out.size)); clear hb4
  have exx : ((x : Int) == (x : Int)) = true := by simp
  go_wp2
  go_ret
  exact ⟨rfl, HB4.out⟩

set_option maxHeartbeats 1000000 in
theorem mback_walk (a : Int) (s : ByteArray) (w : World) (ha : (Lit.int .u64 a).wf = true) (hs : s.size ≤ maxLen) :
    Calls Try.prog 8 #[.int .u64 a, .string s] w (Law1 w) := by
  have hb : 0 ≤ a ∧ a ≤ 18446744073709551615 := by simpa [Lit.wf, IntKind.min, IntKind.max, IntKind.signed, IntKind.bits] using ha
  clear ha
  obtain ⟨n0, rfl⟩ := Int.eq_ofNat_of_zero_le hb.1
  unfold maxLen at hs
  by_cases h2 : 200 < s.size
  · go_enter Try.func8, Try.ntmps8
    go_wp2_with fail
    refine (awake2 w).mono ?_
    rintro e w1 ⟨rfl, hb1⟩
    have HB1 := Lib.hid hb1; clear hb1
    go_wp2
    go_ret
    exact ⟨rfl, HB1.out⟩
  have hl2 : decide ((200 : Int) < (s.size : Int)) = false := by simp; omega
  obtain ⟨n, hn⟩ : ∃ n, n = n0 % 281474976710656 := ⟨_, rfl⟩
  have hnl : n < 281474976710656 := by omega
  have hmod : (n0 : Int) % 281474976710656 = (n : Int) := by omega
  clear hn hb
  obtain ⟨bs, hbs⟩ : ∃ l, (⟨(bytesM n).toArray⟩ : ByteArray) = l := ⟨_, rfl⟩
  obtain ⟨ts, hts⟩ : ∃ l, (⟨(text (bytesM n)).toArray⟩ : ByteArray) = l := ⟨_, rfl⟩
  have hof : ofR bs.data.toList = (n, 0) := by
    rw [← hbs, data_list]
    unfold ofR
    rw [length_bytesM hnl, if_neg (by omega), if_neg (by omega), val_bytesM hnl]
  have hpa : parseR ts.data.toList = (n, 0) := by rw [← hts, data_list]; exact parse_text hnl
  have hbsz : bs.size = 6 := by rw [← size_list, ← hbs, data_list]; exact length_bytesM hnl
  have htsz : ts.size = 17 := by rw [← size_list, ← hts, data_list, length_text, length_bytesM hnl]
  have ht17 : ((ts.size : Int) != 17) = false := by rw [htsz]; rfl
  have hb6 : bs.size ≤ maxLen := by unfold maxLen; omega
  have ht6 : ts.size ≤ maxLen := by unfold maxLen; omega
  have HBS := Lib.hid hbs; clear hbs
  have HTS := Lib.hid hts; clear hts
  have HOF := Lib.hid hof; clear hof
  have HPA := Lib.hid hpa; clear hpa
  have HB6 := Lib.hid hb6; clear hb6
  have HT6 := Lib.hid ht6; clear ht6
  clear hbsz htsz
  have nn : ((n : Int) != (n : Int)) = false := by simp
  obtain ⟨y, f, hy⟩ : ∃ y f, parseR s.data.toList = (y, f) := ⟨_, _, rfl⟩
  have HY := Lib.hid hy; clear hy
  go_enter Try.func8, Try.ntmps8
  go_wp2_with fail
  refine (bytes_at bs n w HBS.out (by omega)).mono ?_
  rintro e w1 ⟨rfl, hb1⟩
  have HB1 := Lib.hid hb1; clear hb1
  go_wp2_with fail
  refine (of_at bs w1 HOF.out HB6.out).mono ?_
  rintro e w2 ⟨rfl, hb2⟩
  have HB2 := Lib.hid (HB1.out.trans (hb2.mono HB1.out.size)); clear hb2
  go_wp2_with fail
  refine (string_at ts n w2 HTS.out (by omega)).mono ?_
  rintro e w3 ⟨rfl, hb3⟩
  have HB3 := Lib.hid (HB2.out.trans (hb3.mono HB2.out.size)); clear hb3
  go_wp2_with fail
  refine (parse_at ts w3 HPA.out HT6.out).mono ?_
  rintro e w4 ⟨rfl, rfl⟩
  go_wp2_with fail
  refine (string_at ts n w3 HTS.out (by omega)).mono ?_
  rintro e w4 ⟨rfl, hb4⟩
  have HB4 := Lib.hid (HB3.out.trans (hb4.mono HB3.out.size)); clear hb4
  go_wp2_with fail
  refine (parse_at s w4 HY.out (by unfold maxLen; omega)).mono ?_
  rintro e w5 ⟨rfl, rfl⟩
  go_wp2_with fail
  refine (awake2 w4).mono ?_
  rintro e w5 ⟨rfl, hb5⟩
  have HB5 := Lib.hid (HB4.out.trans (hb5.mono HB4.out.size)); clear hb5
  by_cases hf : f = 0
  · have hgd : good s.data.toList = true := by
      cases hg : good s.data.toList with
      | true => rfl
      | false =>
        have := HY.out
        unfold parseR at this
        rw [hg, if_neg (by simp)] at this
        simp only [Prod.mk.injEq] at this
        omega
    have hyv : y = pv s.data.toList 6 := by
      have := HY.out
      rw [parse_good hgd] at this
      simp only [Prod.mk.injEq] at this
      exact this.1.symm
    have hyl : y < 281474976710656 := by
      have := pv_lt s.data.toList 6 (good_parts hgd).2.1
      rw [← hyv] at this
      simpa using this
    have hst : (⟨(text (bytesM y)).toArray⟩ : ByteArray) = s := by
      apply ba_ext
      rw [data_list, hyv]
      exact text_parse hgd
    have HST := Lib.hid hst; clear hst
    have f0 : ((f : Int) != 0) = false := by simp [hf]
    have HM := Lib.hid (show mayB y = true from decide_eq_true hyl)
    clear hf hyv hgd
    go_wp2_with fail
    refine (string_at s y w5 HST.out (by omega)).mono ?_
    rintro e w6 ⟨rfl, hb6⟩
    have HB6' := Lib.hid (HB5.out.trans (hb6.mono HB5.out.size)); clear hb6
    go_wp2_with fail
    refine (may_b true y w6 HM.out).mono ?_
    rintro e w7 ⟨rfl, rfl⟩
    go_wp2
    go_ret
    exact ⟨rfl, HB6'.out⟩
  · have f0 : ((f : Int) != 0) = true := by simp [hf]
    go_wp2
    go_ret
    exact ⟨rfl, HB5.out⟩
end Go.Proofs.Ytkhaoclpomamlaa.Mc
