/-
  The statements MacTells, MacReads, MacBack: their walks.
-/
import Derived.Test.YtomchhjemfldnaaMac6
namespace Go.Proofs.Ytomchhjemfldnaa.Mc
open Go.RowKit Go.Proofs.Ytomchhjemfldnaa.Bt Go.Proofs.Ytomchhjemfldnaa.Mm Go.Proofs.Ytomchhjemfldnaa.Fl Go.Proofs.Ytomchhjemfldnaa.Rf Go.Proofs.Ytomchhjemfldnaa.Hx Go.Proofs.Ytomchhjemfldnaa.Lw

theorem parse_at {v k : Nat} (s : ByteArray) (w : World) (h : parseR s.data.toList = (v, k)) (hs : s.size ≤ maxLen) :
    Calls Try.prog 22 #[.string s] w fun e w' => e = .returned (.tuple #[.int .u64 (v : Int), .int .i64 (k : Int)]) ∧ w = w' := by
  have := parse_any s w hs
  rw [h] at this
  exact this
theorem group_b (b : Bool) (n : Nat) (w : World) (h : groupB n = b) (hn : n < 18446744073709551616) :
    Calls Try.prog 24 #[.int .u64 (n : Int)] w fun e w' => e = .returned (.bool b) ∧ w = w' := by
  subst h; exact group_any n w hn
theorem rgroup_b (b : Bool) (n : Nat) (w : World) (h : groupB n = b) (hn : n < 18446744073709551616) :
    Calls Try.prog 17 #[.int .u64 (n : Int)] w fun e w' => e = .returned (.bool b) ∧ w = w' := by
  subst h; exact rgroup_any n w hn
theorem bytes_at (l : ByteArray) (n : Nat) (w : World) (h : (⟨(bytesM n).toArray⟩ : ByteArray) = l) (hn : n < 18446744073709551616) :
    Calls Try.prog 25 #[.int .u64 (n : Int)] w fun e w' => e = .returned (.string l) ∧ Below w.heap.size w w' := by
  subst h; exact bytes_any n w hn
theorem rbytes_at (l : ByteArray) (n : Nat) (w : World) (h : (⟨(bytesM n).toArray⟩ : ByteArray) = l) (hn : n < 18446744073709551616) :
    Calls Try.prog 18 #[.int .u64 (n : Int)] w fun e w' => e = .returned (.string l) ∧ Below w.heap.size w w' := by
  subst h; exact rbytes_any n w hn
theorem awake_parse : parseR [48, 49, 58, 49, 57, 58, 97, 55, 58, 48, 48, 58, 48, 48, 58, 48, 49] = (1209687605249, 0) := by decide +kernel
theorem awake_group : groupB 1209687605249 = true := by decide +kernel
theorem awake_group2 : groupB 2 = false := by decide +kernel
theorem awake_bytes : bytesM 1209687605249 = [1, 25, 167, 0, 0, 1] := by decide +kernel

set_option maxHeartbeats 400000 in
theorem awake2 (w : World) : Calls Try.prog 12 #[] w fun e w' => e = .returned (.bool true) ∧ Below w.heap.size w w' := by
  go_enter Try.func12, Try.ntmps12
  go_wp2_with fail
  refine (parse_at _ w awake_parse (by unfold maxLen; decide)).mono ?_
  rintro e w1 ⟨rfl, rfl⟩
  go_wp2_with fail
  refine (awake1 w).mono ?_
  rintro e w2 ⟨rfl, hb2⟩
  have HB2 := Lib.hid hb2; clear hb2
  have hs2 := HB2.out.size
  go_wp2_with fail
  refine (group_b true 1209687605249 w2 awake_group (by omega)).mono ?_
  rintro e w3 ⟨rfl, rfl⟩
  go_wp2_with fail
  refine (bytes_at ⟨#[1, 25, 167, 0, 0, 1]⟩ 1209687605249 w2 (by rw [awake_bytes]) (by omega)).mono ?_
  rintro e w3 ⟨rfl, hb3⟩
  have HB3 := Lib.hid (HB2.out.trans (hb3.mono hs2)); clear hb3
  go_wp2_with fail
  refine (group_b false 2 w3 awake_group2 (by omega)).mono ?_
  rintro e w4 ⟨rfl, rfl⟩
  go_wp2
  go_ret
  exact ⟨rfl, HB3.out⟩

end Go.Proofs.Ytomchhjemfldnaa.Mc
