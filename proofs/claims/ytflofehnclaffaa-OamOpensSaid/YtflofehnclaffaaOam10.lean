/-
  The statements OamOpens and OamCloses: their walks.
-/
import Derived.Test.YtflofehnclaffaaOam9
namespace Go.Proofs.Ytflofehnclaffaa.Oa
open Go.RowKit Go.Proofs.Ytflofehnclaffaa.Bt Go.Proofs.Ytflofehnclaffaa.Mm Go.Proofs.Ytflofehnclaffaa.Fl Go.Proofs.Ytflofehnclaffaa.Lw Go.Proofs.Ytflofehnclaffaa.Tg

set_option maxRecDepth 100000 in
set_option maxHeartbeats 1000000 in
theorem opens_walk (s : ByteArray) (w : World) (hs : s.size ≤ maxLen) : Calls Try.prog 4 #[.string s] w (Law1 w) := by
  unfold maxLen at hs
  by_cases hl : 600 < s.size
  · go_enter Try.func4, Try.ntmps4
    go_wp2_with fail
    refine (awake4 _).mono ?_
    rintro e w1 ⟨rfl, hb1⟩
    have HB1 := Lib.hid hb1; clear hb1
    go_wp2
    go_ret
    exact ⟨rfl, HB1.out⟩
  have hl' : decide ((600 : Int) < (s.size : Int)) = false := by simp; omega
  obtain ⟨hd, cs, k, ho⟩ : ∃ hd cs k, openO s.data.toList = (hd, cs, k) := ⟨_, _, _, rfl⟩
  have HO := Lib.hid ho; clear ho
  obtain ⟨l, v, c, f, o⟩ := hd
  obtain ⟨b, hb⟩ : ∃ b : ByteArray, (⟨cs.toArray⟩ : ByteArray) = b := ⟨_, rfl⟩
  have HBB := Lib.hid hb; clear hb
  have hkk : ((k : Int) == (k : Int)) = true := by simp
  have HSM := Lib.hid (show s.size ≤ maxLen by unfold maxLen; omega)
  go_enter Try.func4, Try.ntmps4
  go_wp2_with fail
  refine (open_at s w HO.out HSM.out).mono ?_
  rintro e w1 ⟨rfl, hb1⟩
  have HB1 := Lib.hid hb1; clear hb1
  simp only [valH]
  rw [HBB.out]
  go_wp2_with fail
  have K1 := Lib.hid (Rw5.fresh w1 23 (.int .u8 (l : Int)) (.int .u8 (v : Int)) (.int .u8 (c : Int)) (.int .u8 (f : Int)) (.int .u8 (o : Int)))
  have HB2 := Lib.hid (HB1.out.alloc HB1.out.size (.cells (hdC l v c f o) 23))
  generalize w1.alloc (.cells (hdC l v c f o) 23) = w2 at K1 HB2 ⊢
  refine (ropen_at s w2 HO.out).mono ?_
  rintro e w3 ⟨rfl, hb3⟩
  have K3 := Lib.hid (Rw5.keep hb3 K1.out)
  have HB3 := Lib.hid (HB2.out.trans (hb3.mono HB2.out.size))
  clear hb3 K1
  simp only [valH]
  rw [HBB.out]
  go_wp2_with fail
  have K5 := Lib.hid (Rw5.keep ((Below.refl w3.heap.size w3).alloc (Nat.le_refl _) (.cells (hdC l v c f o) 30)) K3.out)
  have K6 := Lib.hid (Rw5.fresh w3 30 (.int .u8 (l : Int)) (.int .u8 (v : Int)) (.int .u8 (c : Int)) (.int .u8 (f : Int)) (.int .u8 (o : Int)))
  have HB4 := Lib.hid (HB3.out.alloc HB3.out.size (.cells (hdC l v c f o) 30))
  clear K3
  generalize w3.alloc (.cells (hdC l v c f o) 30) = w4 at K5 K6 HB4 ⊢
  refine (awake4 w4).mono ?_
  rintro e w5 ⟨rfl, hb5⟩
  obtain ⟨_, c0, c1, c2, c3, c4⟩ := Rw5.keep hb5 K5.out
  obtain ⟨_, d0, d1, d2, d3, d4⟩ := Rw5.keep hb5 K6.out
  have HB5 := Lib.hid (HB4.out.trans (hb5.mono HB4.out.size)); clear hb5
  have r0 : ((l : Int) == (l : Int)) = true := by simp
  have r1 : ((v : Int) == (v : Int)) = true := by simp
  have r2 : ((c : Int) == (c : Int)) = true := by simp
  have r3 : ((f : Int) == (f : Int)) = true := by simp
  have r4 : ((o : Int) == (o : Int)) = true := by simp
  go_wp2
  go_ret
  exact ⟨rfl, HB5.out⟩

set_option maxRecDepth 100000 in
set_option maxHeartbeats 1000000 in
theorem closes_walk (l v c f o : Nat) (s t : ByteArray) (w : World) (hl : l < 256) (hv : v < 256) (hc : c < 256) (hf : f < 256) (ho : o < 256) (hs : s.size ≤ maxLen) (ht : t.size ≤ maxLen) :
    Calls Try.prog 3 #[hdV l v c f o, .string s, .string t] w (Law1 w) := by
  unfold maxLen at hs ht
  have HB0 := Lib.hid ((Below.refl w.heap.size w).alloc (Nat.le_refl _) (.cells (hdC l v c f o) 23))
  by_cases h1 : 400 < s.size
  · have h1' : decide ((400 : Int) < (s.size : Int)) = true := by simp; omega
    go_enter Try.func3, Try.ntmps3
    go_wp2_with fail
    refine (awake4 _).mono ?_
    rintro e w1 ⟨rfl, hb1⟩
    have HB1 := Lib.hid (HB0.out.trans (hb1.mono HB0.out.size)); clear hb1
    go_wp2
    go_ret
    exact ⟨rfl, HB1.out⟩
  have h1' : decide ((400 : Int) < (s.size : Int)) = false := by simp; omega
  by_cases h2 : 100 < t.size
  · have h2' : decide ((100 : Int) < (t.size : Int)) = true := by simp; omega
    go_enter Try.func3, Try.ntmps3
    go_wp2_with fail
    refine (awake4 _).mono ?_
    rintro e w1 ⟨rfl, hb1⟩
    have HB1 := Lib.hid (HB0.out.trans (hb1.mono HB0.out.size)); clear hb1
    go_wp2
    go_ret
    exact ⟨rfl, HB1.out⟩
  have h2' : decide ((100 : Int) < (t.size : Int)) = false := by simp; omega
  obtain ⟨bs, k, hc'⟩ : ∃ bs k, closeO ⟨l, v, c, f, o⟩ s.data.toList = (bs, k) := ⟨_, _, rfl⟩
  have HC := Lib.hid hc'; clear hc'
  have hkk : ((k : Int) == (k : Int)) = true := by simp
  have hkn : ((k : Int) != (k : Int)) = false := by simp
  obtain ⟨bb, hbb⟩ : ∃ bb : ByteArray, (⟨bs.toArray⟩ : ByteArray) = bb := ⟨_, rfl⟩
  have HBB := Lib.hid hbb; clear hbb
  have K0 := Lib.hid (Rw5.fresh w 23 (.int .u8 (l : Int)) (.int .u8 (v : Int)) (.int .u8 (c : Int)) (.int .u8 (f : Int)) (.int .u8 (o : Int)))
  go_enter Try.func3, Try.ntmps3
  go_wp2_with fail
  generalize (w.alloc (.cells (hdC l v c f o) 23)) = wA at HB0 K0 ⊢
  refine (close_at l v c f o s wA HC.out hc hf ho).mono ?_
  rintro e w1 ⟨rfl, hb1⟩
  have HB1 := Lib.hid (HB0.out.trans (hb1.mono HB0.out.size))
  have K1 := Lib.hid (Rw5.keep hb1 K0.out)
  obtain ⟨_, c0, c1, c2, c3, c4⟩ := Rw5.keep hb1 K0.out
  clear hb1 K0
  rw [HBB.out]
  go_wp2_with fail
  refine (rclose_at l v c f o s w1 HC.out hc hf ho).mono ?_
  rintro e w2 ⟨rfl, hb2⟩
  have HB2 := Lib.hid (HB1.out.trans (hb2.mono HB1.out.size))
  have K2 := Lib.hid (Rw5.keep hb2 K1.out)
  clear hb2 K1 c0 c1 c2 c3 c4
  rw [HBB.out]
  by_cases hk : k = 0
  · have hk0 : ((k : Int) != 0) = false := by simp [hk]
    have HZ := Lib.hid (show closeO ⟨l, v, c, f, o⟩ s.data.toList = (bs, 0) by rw [HC.out, hk])
    have HO := Lib.hid (show openO (bb ++ t).data.toList = (⟨l, v, c, f, o⟩, s.data.toList, 0) by
      rw [← HBB.out, list_app, data_list]
      exact open_closed ⟨hl, hv, hc, hf, ho⟩ HZ.out t.data.toList)
    have hsz : bb.size ≤ 1000 := by
      obtain ⟨_, _, e1, e2⟩ := closeO_zero HZ.out
      rw [← HBB.out, size_mk, e2]
      simp only [headB, List.length_append, List.length_cons, List.length_nil]
      have := size_list s
      omega
    clear hk
    have HL := Lib.hid (show (bb ++ t).size ≤ maxLen by rw [ByteArray.size_append]; unfold maxLen; omega)
    have hno : ¬ 9223372036854775807 < bb.size + t.size := by omega
    go_wp2_with fail
    refine (open_at (bb ++ t) w2 HO.out HL.out).mono ?_
    rintro e w3 ⟨rfl, hb3⟩
    have HB3 := Lib.hid (HB2.out.trans (hb3.mono HB2.out.size))
    have K3 := Lib.hid (Rw5.keep hb3 K2.out)
    clear hb3 K2
    simp only [valH]
    go_wp2_with fail
    have K4 := Lib.hid (Rw5.keep ((Below.refl w3.heap.size w3).alloc (Nat.le_refl _) (.cells (hdC l v c f o) 23)) K3.out)
    have K5 := Lib.hid (Rw5.fresh w3 23 (.int .u8 (l : Int)) (.int .u8 (v : Int)) (.int .u8 (c : Int)) (.int .u8 (f : Int)) (.int .u8 (o : Int)))
    have HB4 := Lib.hid (HB3.out.alloc HB3.out.size (.cells (hdC l v c f o) 23))
    clear K3
    generalize w3.alloc (.cells (hdC l v c f o) 23) = w4 at K4 K5 HB4 ⊢
    refine (awake4 w4).mono ?_
    rintro e w5 ⟨rfl, hb5⟩
    obtain ⟨_, c0, c1, c2, c3, c4⟩ := Rw5.keep hb5 K4.out
    obtain ⟨_, d0, d1, d2, d3, d4⟩ := Rw5.keep hb5 K5.out
    have HB5 := Lib.hid (HB4.out.trans (hb5.mono HB4.out.size)); clear hb5
    have r0 : ((l : Int) == (l : Int)) = true := by simp
    have r1 : ((v : Int) == (v : Int)) = true := by simp
    have r2 : ((c : Int) == (c : Int)) = true := by simp
    have r3 : ((f : Int) == (f : Int)) = true := by simp
    have r4 : ((o : Int) == (o : Int)) = true := by simp
    go_wp2
    go_ret
    exact ⟨rfl, HB5.out⟩
  · have hk0 : ((k : Int) != 0) = true := by simp [hk]
    clear hk
    go_wp2_with fail
    refine (awake4 _).mono ?_
    rintro e w3 ⟨rfl, hb3⟩
    have HB3 := Lib.hid (HB2.out.trans (hb3.mono HB2.out.size)); clear hb3
    go_wp2
    go_ret
    exact ⟨rfl, HB3.out⟩
end Go.Proofs.Ytflofehnclaffaa.Oa
