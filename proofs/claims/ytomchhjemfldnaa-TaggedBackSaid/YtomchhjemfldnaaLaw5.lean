/-
  The statement TaggedCloses: its walk.
-/
import Derived.Test.YtomchhjemfldnaaTag5
namespace Go.Proofs.Ytomchhjemfldnaa.Tg
open Go.RowKit Go.Proofs.Ytomchhjemfldnaa.Bt Go.Proofs.Ytomchhjemfldnaa.Mm Go.Proofs.Ytomchhjemfldnaa.Fl Go.Proofs.Ytomchhjemfldnaa.Rf Go.Proofs.Ytomchhjemfldnaa.Hx Go.Proofs.Ytomchhjemfldnaa.Lw Go.Proofs.Ytomchhjemfldnaa.Mc

theorem awake_close : closeT (frT 281474976710655 2 5 false 100 2048 ⟨#[120]⟩) = ([255, 255, 255, 255, 255, 255, 0, 0, 0, 0, 0, 2, 129, 0, 160, 100, 8, 0, 120], 0) := by decide +kernel

set_option maxRecDepth 100000 in
set_option maxHeartbeats 400000 in
theorem awake3 (w : World) : Calls Try.prog 6 #[] w fun e w' => e = .returned (.bool true) ∧ Below w.heap.size w w' := by
  have hx : ((⟨#[255, 255, 255, 255, 255, 255, 0, 0, 0, 0, 0, 2, 129, 0, 160, 100, 8, 0, 120]⟩ : ByteArray).extract 12 16).toList = [129, 0, 160, 100] := by decide +kernel
  go_enter Try.func6, Try.ntmps6
  go_wp2_with fail
  refine (close_at 281474976710655 2 5 100 2048 false ⟨#[120]⟩ w awake_close (by omega) (by omega) (by omega) (by omega) (by unfold maxLen; decide)).mono ?_
  rintro e w1 ⟨rfl, hb1⟩
  have HB1 := Lib.hid hb1; clear hb1
  go_wp2_with fail
  refine (awake2 w1).mono ?_
  rintro e w2 ⟨rfl, hb2⟩
  have HB2 := Lib.hid (HB1.out.trans (hb2.mono HB1.out.size)); clear hb2
  go_wp2
  go_ret
  exact ⟨rfl, HB2.out⟩

set_option maxRecDepth 100000 in
set_option maxHeartbeats 1000000 in
theorem closes_walk (d s p v t : Nat) (dr : Bool) (b : ByteArray) (w : World) (_hd : d < 18446744073709551616) (hs : s < 18446744073709551616) (hp8 : p < 256) (hv16 : v < 65536) (ht16 : t < 65536) (hb : b.size ≤ maxLen) :
    Calls Try.prog 3 #[frV d s p dr v t b] w (Law1 w) := by
  unfold maxLen at hb
  have HB0 := Lib.hid ((Below.refl w.heap.size w).alloc (Nat.le_refl _) (.cells #[.int .u64 (d : Int), .int .u64 (s : Int), .int .u8 (p : Int), .bool dr, .int .u16 (v : Int), .int .u16 (t : Int), .string b] 26))
  have K0 := Lib.hid (fresh7 w 26 (.int .u64 (d : Int)) (.int .u64 (s : Int)) (.int .u8 (p : Int)) (.bool dr) (.int .u16 (v : Int)) (.int .u16 (t : Int)) (.string b))
  by_cases hl : 2000 < b.size
  · go_enter Try.func3, Try.ntmps3
    go_wp2_with fail
    refine (awake3 _).mono ?_
    rintro e w1 ⟨rfl, hb1⟩
    have HB1 := Lib.hid (HB0.out.trans (hb1.mono HB0.out.size)); clear hb1
    go_wp2
    go_ret
    exact ⟨rfl, HB1.out⟩
  obtain ⟨bs, k, hc⟩ : ∃ bs k, closeT (frT d s p dr v t b) = (bs, k) := ⟨_, _, rfl⟩
  have HC := Lib.hid hc; clear hc
  have hkk : ((k : Int) == (k : Int)) = true := by simp
  go_enter Try.func3, Try.ntmps3
  go_wp2_with fail
  generalize (w.alloc (.cells #[.int .u64 (d : Int), .int .u64 (s : Int), .int .u8 (p : Int), .bool dr, .int .u16 (v : Int), .int .u16 (t : Int), .string b] 26)) = wA at HB0 K0 ⊢
  refine (close_at d s p v t dr b wA HC.out hs hp8 hv16 ht16 (by unfold maxLen; omega)).mono ?_
  rintro e w1 ⟨rfl, hb1⟩
  have HB1 := Lib.hid (HB0.out.trans (hb1.mono HB0.out.size))
  obtain ⟨_, c0, c1, c2, c3, c4, c5, c6⟩ := keep7 hb1 K0.out
  clear hb1
  go_wp2_with fail
  refine (of3_any d s p v t dr b w1).mono ?_
  rintro e w2 ⟨rfl, hb2⟩
  have HB2 := Lib.hid (HB1.out.trans (hb2.mono HB1.out.size)); clear hb2
  go_wp2_with fail
  refine (rclose_at d s p v t dr b w2 HC.out hs ht16 (by omega)).mono ?_
  rintro e w3 ⟨rfl, hb3⟩
  have HB3 := Lib.hid (HB2.out.trans (hb3.mono HB2.out.size)); clear hb3
  go_wp2_with fail
  refine (awake3 w3).mono ?_
  rintro e w4 ⟨rfl, hb4⟩
  have HB4 := Lib.hid (HB3.out.trans (hb4.mono HB3.out.size)); clear hb4
  go_wp2
  go_ret
  exact ⟨rfl, HB4.out⟩
end Go.Proofs.Ytomchhjemfldnaa.Tg
