/-
  The statement TaggedOpens: its walk.
-/
import Derived.Test.YtomchhjemfldnaaTag8
import Derived.Test.YtomchhjemfldnaaLaw5
namespace Go.Proofs.Ytomchhjemfldnaa.Tg
open Go.RowKit Go.Proofs.Ytomchhjemfldnaa.Bt Go.Proofs.Ytomchhjemfldnaa.Mm Go.Proofs.Ytomchhjemfldnaa.Fl Go.Proofs.Ytomchhjemfldnaa.Rf Go.Proofs.Ytomchhjemfldnaa.Hx Go.Proofs.Ytomchhjemfldnaa.Lw Go.Proofs.Ytomchhjemfldnaa.Mc

set_option maxRecDepth 100000 in
set_option maxHeartbeats 1000000 in
theorem opens_walk (s : ByteArray) (w : World) (hs : s.size ≤ maxLen) :
    Calls Try.prog 4 #[.string s] w (Law1 w) := by
  unfold maxLen at hs
  by_cases hl : 2000 < s.size
  · go_enter Try.func4, Try.ntmps4
    go_wp2_with fail
    refine (awake3 _).mono ?_
    rintro e w1 ⟨rfl, hb1⟩
    have HB1 := Lib.hid hb1; clear hb1
    go_wp2
    go_ret
    exact ⟨rfl, HB1.out⟩
  have hl' : decide ((2000 : Int) < (s.size : Int)) = false := by simp; omega
  obtain ⟨f, k, ho⟩ : ∃ f k, openT s.data.toList = (f, k) := ⟨_, _, rfl⟩
  have HO := Lib.hid ho; clear ho
  obtain ⟨d, sr, p, dr, v, t, body⟩ := f
  obtain ⟨b, hb⟩ : ∃ b : ByteArray, (⟨body.toArray⟩ : ByteArray) = b := ⟨_, rfl⟩
  have HBB := Lib.hid hb; clear hb
  have hkk : ((k : Int) == (k : Int)) = true := by simp
  have HSM := Lib.hid (show s.size ≤ maxLen by unfold maxLen; omega)
  go_enter Try.func4, Try.ntmps4
  go_wp2_with fail
  refine (open_at s w HO.out HSM.out).mono ?_
  rintro e w1 ⟨rfl, hb1⟩
  have HB1 := Lib.hid hb1; clear hb1
  simp only [valF]
  rw [HBB.out]
  go_wp2_with fail
  have K1 := fresh7 w1 26 (.int .u64 (d : Int)) (.int .u64 (sr : Int)) (.int .u8 (p : Int)) (.bool dr) (.int .u16 (v : Int)) (.int .u16 (t : Int)) (.string b)
  have HB2 := Lib.hid (HB1.out.alloc HB1.out.size (.cells #[.int .u64 (d : Int), .int .u64 (sr : Int), .int .u8 (p : Int), .bool dr, .int .u16 (v : Int), .int .u16 (t : Int), .string b] 26))
  generalize w1.alloc (.cells #[.int .u64 (d : Int), .int .u64 (sr : Int), .int .u8 (p : Int), .bool dr, .int .u16 (v : Int), .int .u16 (t : Int), .string b] 26) = w2 at K1 HB2 ⊢
  refine (ropen_at s w2 HO.out HSM.out).mono ?_
  rintro e w3 ⟨rfl, hb3⟩
  have K3 := keep7 hb3 K1
  have HB3 := Lib.hid (HB2.out.trans (hb3.mono HB2.out.size))
  clear hb3 K1
  simp only [valF]
  rw [HBB.out]
  go_upto_region 5 with (fail)
  have K5 := keep7 ((Below.refl w3.heap.size w3).alloc (Nat.le_refl _) (.cells #[.int .u64 (d : Int), .int .u64 (sr : Int), .int .u8 (p : Int), .bool dr, .int .u16 (v : Int), .int .u16 (t : Int), .string b] 34)) K3
  have K6 := fresh7 w3 34 (.int .u64 (d : Int)) (.int .u64 (sr : Int)) (.int .u8 (p : Int)) (.bool dr) (.int .u16 (v : Int)) (.int .u16 (t : Int)) (.string b)
  have HB4 := Lib.hid (HB3.out.alloc HB3.out.size (.cells #[.int .u64 (d : Int), .int .u64 (sr : Int), .int .u8 (p : Int), .bool dr, .int .u16 (v : Int), .int .u16 (t : Int), .string b] 34))
  clear K3
  have r0 : ((d : Int) == (d : Int)) = true := by simp
  have r1 : ((sr : Int) == (sr : Int)) = true := by simp
  have r2 : ((p : Int) == (p : Int)) = true := by simp
  have r3 : (dr == dr) = true := by simp
  have r4 : ((v : Int) == (v : Int)) = true := by simp
  have r5 : ((t : Int) == (t : Int)) = true := by simp
  generalize w3.alloc (.cells #[.int .u64 (d : Int), .int .u64 (sr : Int), .int .u8 (p : Int), .bool dr, .int .u16 (v : Int), .int .u16 (t : Int), .string b] 34) = w4 at K5 K6 HB4 ⊢
  have KK := And.intro K5 K6
  clear K5 K6
  go_region_held3 (fun w' => (w1.heap.size < w'.heap.size ∧ w'.cell? ⟨w1.heap.size, 0, none⟩ = some (.int .u64 (d : Int)) ∧ w'.cell? ⟨w1.heap.size, 1, none⟩ = some (.int .u64 (sr : Int)) ∧ w'.cell? ⟨w1.heap.size, 2, none⟩ = some (.int .u8 (p : Int)) ∧ w'.cell? ⟨w1.heap.size, 3, none⟩ = some (.bool dr) ∧ w'.cell? ⟨w1.heap.size, 4, none⟩ = some (.int .u16 (v : Int)) ∧ w'.cell? ⟨w1.heap.size, 5, none⟩ = some (.int .u16 (t : Int)) ∧ w'.cell? ⟨w1.heap.size, 6, none⟩ = some (.string b)) ∧ (w3.heap.size < w'.heap.size ∧ w'.cell? ⟨w3.heap.size, 0, none⟩ = some (.int .u64 (d : Int)) ∧ w'.cell? ⟨w3.heap.size, 1, none⟩ = some (.int .u64 (sr : Int)) ∧ w'.cell? ⟨w3.heap.size, 2, none⟩ = some (.int .u8 (p : Int)) ∧ w'.cell? ⟨w3.heap.size, 3, none⟩ = some (.bool dr) ∧ w'.cell? ⟨w3.heap.size, 4, none⟩ = some (.int .u16 (v : Int)) ∧ w'.cell? ⟨w3.heap.size, 5, none⟩ = some (.int .u16 (t : Int)) ∧ w'.cell? ⟨w3.heap.size, 6, none⟩ = some (.string b))) (first | exact KK | exact ⟨keep7 hb5 KK.1, keep7 hb5 KK.2⟩ | exact ⟨keep7 hb6 (keep7 hb5 KK.1), keep7 hb6 (keep7 hb5 KK.2)⟩)
    (first | (go_at_call 6; refine (awake3 _).mono ?_; rintro e w5 ⟨rfl, hb5⟩) | (go_at_call 9; refine (of3_any d sr p v t dr b _).mono ?_; rintro e w6 ⟨rfl, hb6⟩))
  have HB6 := Lib.hid ((HB4.out.drew.trans (hb5.mono HB4.out.size)).trans (hb6.mono (Nat.le_trans HB4.out.size hb5.size)))
  clear hb5 hb6 KK
  go_wp2
  go_ret
  exact ⟨rfl, HB6.out⟩
end Go.Proofs.Ytomchhjemfldnaa.Tg
