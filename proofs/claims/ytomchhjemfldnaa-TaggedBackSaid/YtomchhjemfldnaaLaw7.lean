/-
  The statement TaggedBack: its walk.
-/
import Derived.Test.YtomchhjemfldnaaLaw6
import Derived.Deep.DeepCutAuto
namespace Go.Proofs.Ytomchhjemfldnaa.Tg
open Go.RowKit Go.Proofs.Ytomchhjemfldnaa.Bt Go.Proofs.Ytomchhjemfldnaa.Mm Go.Proofs.Ytomchhjemfldnaa.Fl Go.Proofs.Ytomchhjemfldnaa.Rf Go.Proofs.Ytomchhjemfldnaa.Hx Go.Proofs.Ytomchhjemfldnaa.Lw Go.Proofs.Ytomchhjemfldnaa.Mc

theorem openT_err {l : List UInt8} {f : Fr} {k : Nat} (h : openT l = (f, k)) (hk : k ≠ 0) : f = zeroF := by
  rw [openT_wrong] at h
  split at h
  · simp only [Prod.mk.injEq] at h; exact h.1.symm
  split at h
  · simp only [Prod.mk.injEq] at h; exact h.1.symm
  split at h
  · simp only [Prod.mk.injEq] at h; exact h.1.symm
  split at h
  · simp only [Prod.mk.injEq] at h; exact absurd h.2.symm hk
  · simp only [Prod.mk.injEq] at h; exact h.1.symm
theorem same_bytes (b : ByteArray) : (⟨b.data.toList.toArray⟩ : ByteArray) = b := rfl

set_option maxRecDepth 100000 in
set_option maxHeartbeats 1000000 in
theorem tback_walk (d sr p v t : Nat) (dr : Bool) (b s : ByteArray) (w : World) (_hd : d < 18446744073709551616) (hsr : sr < 18446744073709551616) (hp8 : p < 256) (hv16 : v < 65536) (ht16 : t < 65536) (hb : b.size ≤ maxLen) (hs : s.size ≤ maxLen) :
    Calls Try.prog 5 #[frV d sr p dr v t b, .string s] w (Law1 w) := by
  unfold maxLen at hb hs
  have HB0 := Lib.hid ((Below.refl w.heap.size w).alloc (Nat.le_refl _) (.cells #[.int .u64 (d : Int), .int .u64 (sr : Int), .int .u8 (p : Int), .bool dr, .int .u16 (v : Int), .int .u16 (t : Int), .string b] 26))
  by_cases hl : 2000 < b.size
  · have hl' : decide ((2000 : Int) < (b.size : Int)) = true := by simp; omega
    go_enter Try.func5, Try.ntmps5
    go_wp2_with fail
    refine (awake3 _).mono ?_
    rintro e w1 ⟨rfl, hb1⟩
    have HB1 := Lib.hid (HB0.out.trans (hb1.mono HB0.out.size)); clear hb1
    go_wp2
    go_ret
    exact ⟨rfl, HB1.out⟩
  have hl' : decide ((2000 : Int) < (b.size : Int)) = false := by simp; omega
  by_cases hm : 2000 < s.size
  · have hm' : decide ((2000 : Int) < (s.size : Int)) = true := by simp; omega
    go_enter Try.func5, Try.ntmps5
    go_wp2_with fail
    refine (awake3 _).mono ?_
    rintro e w1 ⟨rfl, hb1⟩
    have HB1 := Lib.hid (HB0.out.trans (hb1.mono HB0.out.size)); clear hb1
    go_wp2
    go_ret
    exact ⟨rfl, HB1.out⟩
  have hm' : decide ((2000 : Int) < (s.size : Int)) = false := by simp; omega
  obtain ⟨bs, k, hc⟩ : ∃ bs k, closeT (frT d sr p dr v t b) = (bs, k) := ⟨_, _, rfl⟩
  have HC := Lib.hid hc; clear hc
  obtain ⟨kb, hkb⟩ : ∃ kb, ((k : Int) == 0) = kb := ⟨_, rfl⟩
  go_enter Try.func5, Try.ntmps5
  go_wp2_with fail
  have K0 := Lib.hid (fresh7 w 26 (.int .u64 (d : Int)) (.int .u64 (sr : Int)) (.int .u8 (p : Int)) (.bool dr) (.int .u16 (v : Int)) (.int .u16 (t : Int)) (.string b))
  generalize (w.alloc (.cells #[.int .u64 (d : Int), .int .u64 (sr : Int), .int .u8 (p : Int), .bool dr, .int .u16 (v : Int), .int .u16 (t : Int), .string b] 26)) = wA at HB0 K0 ⊢
  refine (close_at d sr p v t dr b wA HC.out hsr hp8 hv16 ht16 (by unfold maxLen; omega)).mono ?_
  rintro e w1 ⟨rfl, hb1⟩
  have K1 := Lib.hid (keep7 hb1 K0.out)
  have HB1 := Lib.hid (HB0.out.trans (hb1.mono HB0.out.size)); clear hb1
  generalize hbb : (⟨bs.toArray⟩ : ByteArray) = bb
  have HBB0 := Lib.hid hbb; clear hbb
  go_upto_if 28 with (fail)
  go_cut [] (fun wx => Below w.heap.size w wx)
  case first =>
    have HKB := Lib.hid hkb; clear hkb
    cases kb with
    | true =>
      have HK0 := Lib.hid (show closeT (frT d sr p dr v t b) = (bs, 0) by rw [HC.out]; have := HKB.out; simp at this; rw [this])
      have HO := Lib.hid (show openT bb.data.toList = (frT d sr p dr v t b, 0) by rw [← HBB0.out]; exact open_closed HK0.out ht16)
      have HL := Lib.hid (show bb.size ≤ maxLen by
        have h2 := openT_zero HO.out
        have h3 := size_list bb
        unfold maxLen; omega)
      go_wp2_with fail
      refine (open_at bb w1 HO.out HL.out).mono ?_
      rintro e w2 ⟨rfl, hb2⟩
      have K2 := Lib.hid (keep7 hb2 K1.out)
      have HB2 := Lib.hid (HB1.out.trans (hb2.mono HB1.out.size)); clear hb2
      simp only [valF, same_bytes]
      obtain ⟨_, c0, c1, c2, c3, c4, c5, c6⟩ := K2.out
      have r0 : ((d : Int) == (d : Int)) = true := by simp
      have r1 : ((sr : Int) == (sr : Int)) = true := by simp
      have r2 : ((p : Int) == (p : Int)) = true := by simp
      have r3 : (dr == dr) = true := by simp
      have r4 : ((v : Int) == (v : Int)) = true := by simp
      have r5 : ((t : Int) == (t : Int)) = true := by simp
      go_wp2
      go_meet
      exact HB2.out.alloc HB2.out.size _
    | false =>
      go_wp2
      go_meet
      exact HB1.out
  case rest =>
    have HW := Lib.hid hcut; clear hcut HB0 HB1 K0 K1 HC hkb
    obtain ⟨f2, k2, ho⟩ : ∃ f k, openT s.data.toList = (f, k) := ⟨_, _, rfl⟩
    have HSM := Lib.hid (show s.size ≤ maxLen by unfold maxLen; omega)
    by_cases hk : k2 = 0
    · subst hk
      have HCL := Lib.hid (close_opened ho)
      have hf := (openT_zero ho).2.2.2.2.2.2.2
      have hbo := frame_bounds s.data.toList
      rw [← hf] at hbo
      have hbl : (⟨f2.body.toArray⟩ : ByteArray).size ≤ maxLen := by
        rw [size_mk, hf]
        have h1 := size_list s
        have h2 := HSM.out
        simp only [frameOf, List.length_drop]
        unfold maxLen at h2 ⊢
        omega
      have HO := Lib.hid ho; clear ho hf
      obtain ⟨d2, s2, p2, r2, v2, t2, y2⟩ := f2
      simp only at hbo hbl
      obtain ⟨_, n1, n2, n3, n4⟩ := hbo
      obtain ⟨b2, hb2⟩ : ∃ b : ByteArray, (⟨y2.toArray⟩ : ByteArray) = b := ⟨_, rfl⟩
      have HCL2 := Lib.hid (show closeT (frT d2 s2 p2 r2 v2 t2 b2) = (s.data.toList, 0) by rw [← hb2]; exact HCL.out)
      rw [hb2] at hbl
      have HBB := Lib.hid hb2; clear hb2
      have HBL := Lib.hid hbl; clear hbl
      go_wp2_with fail
      refine (open_at s wc HO.out HSM.out).mono ?_
      rintro e w2 ⟨rfl, hb2⟩
      have HB2 := Lib.hid (HW.out.trans (hb2.mono HW.out.size)); clear hb2
      simp only [valF]
      rw [HBB.out]
      go_wp2_with fail
      have HB3 := Lib.hid (HB2.out.alloc HB2.out.size (.cells #[.int .u64 (d2 : Int), .int .u64 (s2 : Int), .int .u8 (p2 : Int), .bool r2, .int .u16 (v2 : Int), .int .u16 (t2 : Int), .string b2] 26))
      generalize (w2.alloc (.cells #[.int .u64 (d2 : Int), .int .u64 (s2 : Int), .int .u8 (p2 : Int), .bool r2, .int .u16 (v2 : Int), .int .u16 (t2 : Int), .string b2] 26)) = w3 at HB3 ⊢
      refine (close_at d2 s2 p2 v2 t2 r2 b2 w3 HCL2.out (by omega) (by omega) (by omega) (by omega) HBL.out).mono ?_
      rintro e w4 ⟨rfl, hb4⟩
      have HB4 := Lib.hid (HB3.out.trans (hb4.mono HB3.out.size)); clear hb4
      simp only [same_bytes]
      go_wp2_with fail
      refine (awake3 w4).mono ?_
      rintro e w5 ⟨rfl, hb5⟩
      have HB5 := Lib.hid (HB4.out.trans (hb5.mono HB4.out.size)); clear hb5
      go_wp2
      go_ret
      exact ⟨rfl, HB5.out⟩
    · obtain rfl := openT_err ho hk
      have HO := Lib.hid ho; clear ho
      have hk2 : ((k2 : Int) != 0) = true := by simp [hk]
      clear hk
      go_wp2_with fail
      refine (open_at s wc HO.out HSM.out).mono ?_
      rintro e w2 ⟨rfl, hb2⟩
      have HB2 := Lib.hid (HW.out.trans (hb2.mono HW.out.size)); clear hb2
      simp only [valF, zeroF]
      go_wp2_with fail
      have K3 := Lib.hid (fresh7 w2 26 (.int .u64 0) (.int .u64 0) (.int .u8 0) (.bool false) (.int .u16 0) (.int .u16 0) (.string ⟨#[]⟩))
      have HB3 := Lib.hid (HB2.out.alloc HB2.out.size (.cells zeroCells 26))
      generalize (w2.alloc (.cells zeroCells 26)) = w3 at HB3 K3 ⊢
      refine (awake3 w3).mono ?_
      rintro e w4 ⟨rfl, hb4⟩
      obtain ⟨_, c0, c1, c2, c3, c4, c5, c6⟩ := keep7 hb4 K3.out
      have HB4 := Lib.hid (HB3.out.trans (hb4.mono HB3.out.size)); clear hb4
      go_wp2
      go_ret
      exact ⟨rfl, HB4.out⟩
end Go.Proofs.Ytomchhjemfldnaa.Tg
