/-
  Contracts: mac's May, Group, Bytes, digit, digitValue, Of; the document's May, Group, Bytes, digit, char, Put, Get.
-/
import Derived.Test.YtomchhjemfldnaaLaw3
import Derived.Test.YtomchhjemfldnaaHex
namespace Go.Proofs.Ytomchhjemfldnaa.Mc
open Go.RowKit Go.Proofs.Ytomchhjemfldnaa.Bt Go.Proofs.Ytomchhjemfldnaa.Mm Go.Proofs.Ytomchhjemfldnaa.Fl Go.Proofs.Ytomchhjemfldnaa.Rf Go.Proofs.Ytomchhjemfldnaa.Hx Go.Proofs.Ytomchhjemfldnaa.Lw

def mayB (n : Nat) : Bool := decide (n < 281474976710656)
def groupB (n : Nat) : Bool := mayB n && (n / 1099511627776 % 2 == 1)

theorem may_b (b : Bool) (n : Nat) (w : World) (h : mayB n = b) :
    Calls Try.prog 26 #[.int .u64 (n : Int)] w fun e w' => e = .returned (.bool b) ∧ w = w' := by
  have hb : decide ((n : Int) ≤ 281474976710655) = b := by
    rw [← h]; unfold mayB; rw [decide_eq_decide]; omega
  clear h
  go_enter Try.func26, Try.ntmps26
  go_wp2
  go_ret
  exact ⟨rfl, rfl⟩
theorem rmay_b (b : Bool) (n : Nat) (w : World) (h : mayB n = b) :
    Calls Try.prog 16 #[.int .u64 (n : Int)] w fun e w' => e = .returned (.bool b) ∧ w = w' := by
  have hb : decide ((n : Int) < 281474976710656) = b := by
    rw [← h]; unfold mayB; rw [decide_eq_decide]; omega
  clear h
  go_enter Try.func16, Try.ntmps16
  go_wp2
  go_ret
  exact ⟨rfl, rfl⟩
theorem group_bit (n : Nat) (hn : n < 18446744073709551616) : (bits .and .u64 ((n : Int) / 1099511627776) 1 == 1) = (n / 1099511627776 % 2 == 1) := by
  have e := and_u64 n 40 hn
  have e40 : (2 : Int) ^ 40 = 1099511627776 := by decide
  have e41 : (2 : Nat) ^ 40 = 1099511627776 := by decide
  rw [e40, e41] at e
  rw [e, Bool.eq_iff_iff]
  simp only [beq_iff_eq]
  omega
theorem group_any (n : Nat) (w : World) (hn : n < 18446744073709551616) :
    Calls Try.prog 24 #[.int .u64 (n : Int)] w fun e w' => e = .returned (.bool (groupB n)) ∧ w = w' := by
  have hg := group_bit n hn
  have HG := Lib.hid hg; clear hg
  by_cases h : n < 281474976710656
  · have hm : mayB n = true := decide_eq_true h
    have HM := Lib.hid hm; clear hm
    go_enter Try.func24, Try.ntmps24
    go_wp2_with (go_at_call 26; refine (may_b true n _ HM.out).mono ?_; rintro e w' ⟨rfl, rfl⟩)
    go_ret
    exact ⟨ret_bool (by unfold groupB; rw [HM.out, ← HG.out]; rfl), rfl⟩
  · have hm : mayB n = false := decide_eq_false h
    have HM := Lib.hid hm; clear hm
    go_enter Try.func24, Try.ntmps24
    go_wp2_with (go_at_call 26; refine (may_b false n _ HM.out).mono ?_; rintro e w' ⟨rfl, rfl⟩)
    go_ret
    exact ⟨ret_bool (by unfold groupB; rw [HM.out]; rfl), rfl⟩
theorem rgroup_any (n : Nat) (w : World) (hn : n < 18446744073709551616) :
    Calls Try.prog 17 #[.int .u64 (n : Int)] w fun e w' => e = .returned (.bool (groupB n)) ∧ w = w' := by
  by_cases h : n < 281474976710656
  · have hm : mayB n = true := decide_eq_true h
    have HM := Lib.hid hm; clear hm
    go_enter Try.func17, Try.ntmps17
    go_wp2_with (go_at_call 16; refine (rmay_b true n _ HM.out).mono ?_; rintro e w' ⟨rfl, rfl⟩)
    go_ret
    refine ⟨ret_bool ?_, rfl⟩
    unfold groupB
    rw [HM.out, Bool.true_and, Bool.eq_iff_iff]
    simp
    omega
  · have hm : mayB n = false := decide_eq_false h
    have HM := Lib.hid hm; clear hm
    go_enter Try.func17, Try.ntmps17
    go_wp2_with (go_at_call 16; refine (rmay_b false n _ HM.out).mono ?_; rintro e w' ⟨rfl, rfl⟩)
    go_ret
    exact ⟨ret_bool (by unfold groupB; rw [HM.out]; rfl), rfl⟩

theorem dv_yes (c : Nat) (w : World) (h : hexOk c = true) :
    Calls Try.prog 32 #[.int .u8 (c : Int)] w fun e w' => e = .returned (.tuple #[.int .u64 (hexN c : Nat), .bool true]) ∧ w = w' := by
  have h' := of_decide_eq_true h
  clear h
  rcases h' with ⟨h1, h2⟩ | ⟨h1, h2⟩
  · go_enter Try.func32, Try.ntmps32
    go_wp2
    go_ret2
    exact ⟨ret_tup (by unfold hexN; rw [if_pos h2, show ((c - 48 : Nat) : Int) = (c : Int) - 48 by omega]; rfl), rfl⟩
  · have h3 : ¬ (c : Int) ≤ 57 := by omega
    go_enter Try.func32, Try.ntmps32
    go_wp2
    go_ret2
    exact ⟨ret_tup (by unfold hexN; rw [if_neg (by omega), show ((c - 87 : Nat) : Int) = (c : Int) - 97 + 10 by omega]; rfl), rfl⟩
theorem dv_no (c : Nat) (w : World) (h : hexOk c = false) :
    Calls Try.prog 32 #[.int .u8 (c : Int)] w fun e w' => e = .returned (.tuple #[.int .u64 0, .bool false]) ∧ w = w' := by
  have h' := of_decide_eq_false h
  clear h
  by_cases h1 : 48 ≤ c
  · have h2 : ¬ (c : Int) ≤ 57 := by omega
    by_cases h3 : 97 ≤ c
    · have h4 : ¬ (c : Int) ≤ 102 := by omega
      clear h'
      go_enter Try.func32, Try.ntmps32
      go_wp2
      go_ret2
      exact ⟨rfl, rfl⟩
    · clear h'
      go_enter Try.func32, Try.ntmps32
      go_wp2
      go_ret2
      exact ⟨rfl, rfl⟩
  · clear h'
    go_enter Try.func32, Try.ntmps32
    go_wp2
    go_ret2
    exact ⟨rfl, rfl⟩
end Go.Proofs.Ytomchhjemfldnaa.Mc
