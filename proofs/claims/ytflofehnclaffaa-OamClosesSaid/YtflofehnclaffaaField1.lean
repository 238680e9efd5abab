/-
  Contracts of field's small functions: mayWidth, Noughts, getBits.
-/
import Derived.Test.YtflofehnclaffaaProg
import Derived.Test.YtflofehnclaffaaBits
import Derived.WalkKit
import Derived.WalkSpells
import Derived.WalkLawsBesides
import Derived.Laws.BitsAllLaws
import Derived.Lib.Hide
import Derived.Outline
namespace Go.Proofs.Ytflofehnclaffaa.Fl
open Go.RowKit Go.Proofs.Ytflofehnclaffaa.Bt

theorem ret_int {k : IntKind} {a b : Int} (h : a = b) : Ending.returned (.int k a) = .returned (.int k b) := by rw [h]
theorem ret_bool {a b : Bool} (h : a = b) : Ending.returned (.bool a) = .returned (.bool b) := by rw [h]

theorem may_yes (n : Int) (w : World) (h1 : 1 ≤ n) (h2 : n ≤ 64) :
    Calls Try.prog 16 #[.int .i64 n] w fun e w' => e = .returned (.bool true) ∧ w = w' := by
  go_enter Try.func16, Try.ntmps16
  go_wp2
  go_ret
  exact ⟨rfl, rfl⟩
theorem may_no (n : Int) (w : World) (h : n < 1 ∨ 64 < n) :
    Calls Try.prog 16 #[.int .i64 n] w fun e w' => e = .returned (.bool false) ∧ w = w' := by
  rcases h with h | h
  · go_enter Try.func16, Try.ntmps16
    go_wp2
    go_ret
    exact ⟨rfl, rfl⟩
  · have h1 : 1 ≤ n := by omega
    have h2 : ¬ n ≤ 64 := by omega
    go_enter Try.func16, Try.ntmps16
    go_wp2
    go_ret
    exact ⟨ret_bool (by simp), rfl⟩

/-- all bytes are 0 -/
def zeros (l : List UInt8) : Bool := l.all fun c => c == 0
theorem zeros_snoc (l : List UInt8) (c : UInt8) : zeros (l ++ [c]) = (zeros l && c == 0) := by simp [zeros]
theorem take_snoc (s : ByteArray) (k : Nat) (h : k < s.size) : s.data.toList.take (k + 1) = s.data.toList.take k ++ [s[k]] := by
  rw [List.take_succ_eq_append_getElem (by simpa using h)]; rfl
theorem zeros_false (s : ByteArray) (k : Nat) (h : k < s.size) (hc : s[k] ≠ 0) : zeros s.data.toList = false := by
  have h1 : s[k] ∈ s.data.toList := by
    have : s[k] = s.data.toList[k]'(by simpa using h) := rfl
    rw [this]; exact List.getElem_mem _
  unfold zeros
  rw [Bool.eq_false_iff]
  intro hall
  rw [List.all_eq_true] at hall
  exact hc (by simpa using hall _ h1)

/-- so many bits of a text from a place on -/
def getB (s : ByteArray) (at_ n : Nat) : Nat := val (((bitsB s.data.toList).drop at_).take n)
theorem getB_lt (s : ByteArray) (at_ n : Nat) : getB s at_ n < 2 ^ n := by
  have h := val_lt (((bin_bitsB s.data.toList).drop at_).take n)
  refine Nat.lt_of_lt_of_le h (Nat.pow_le_pow_right (by omega) ?_)
  simp
  omega
theorem size_list (s : ByteArray) : s.data.toList.length = s.size := by rw [Array.length_toList]; rfl
theorem getB_succ (s : ByteArray) (at_ k : Nat) (h : at_ + k < 8 * s.size) :
    getB s at_ (k + 1) = 2 * getB s at_ k + (s[(at_ + k) / 8]'(by omega)).toNat / 2 ^ (7 - (at_ + k) % 8) % 2 := by
  unfold getB
  have hl : (at_ + k) / 8 < s.data.toList.length := by rw [size_list]; omega
  rw [take_succ_nth _ _ (by rw [List.length_drop, length_bitsB, size_list]; omega), val_snoc, nth_drop, nth_bitsB _ _ hl]
  rfl

theorem pow_le (k : Nat) (h : k ≤ 64) : 2 ^ k ≤ 18446744073709551616 := by
  have := Nat.pow_le_pow_right (n := 2) (by omega) h
  have e : 2 ^ 64 = 18446744073709551616 := by decide
  omega
theorem or_u64 (v b : Nat) (k : Nat) (hv : v < 2 ^ k) (hk : k < 64) (hb : b < 2) : bits .or .u64 (IntKind.u64.wrap ((v : Int) * 2)) (b : Int) = ((2 * v + b : Nat) : Int) := by
  have h1 := pow_le (k + 1) (by omega)
  rw [Nat.pow_succ] at h1
  rw [IntKind.wrap_u64]
  have e : ((v : Int) * 2) % 18446744073709551616 = ((2 * v : Nat) : Int) := by omega
  rw [e, u64_or_nat _ _ (by omega) (by omega)]
  have e2 : 2 * v ||| b = 2 * v + b := by
    have := Nat.two_pow_add_eq_or_of_lt (i := 1) (b := b) (by omega) v
    simpa using this.symm
  rw [e2]

theorem div_cast (c t : Nat) : (c : Int) / 2 ^ t = ((c / 2 ^ t : Nat) : Int) := by push_cast; rfl
theorem and_u8 (c t : Nat) (hc : c < 256) : bits .and .u8 ((c : Int) / 2 ^ t) 1 = ((c / 2 ^ t % 2 : Nat) : Int) := by
  have hle : c / 2 ^ t ≤ c := Nat.div_le_self _ _
  rw [div_cast]
  have e := u8_and_nat (c / 2 ^ t) 1 (by omega) (by omega)
  rw [nat_mask1] at e
  exact e
theorem and_u64 (c t : Nat) (hc : c < 18446744073709551616) : bits .and .u64 ((c : Int) / 2 ^ t) 1 = ((c / 2 ^ t % 2 : Nat) : Int) := by
  have hle : c / 2 ^ t ≤ c := Nat.div_le_self _ _
  rw [div_cast]
  have e := u64_and_nat (c / 2 ^ t) 1 (by omega) (by omega)
  rw [nat_mask1] at e
  exact e
theorem get_step (s : ByteArray) (a k : Nat) (h : a + k < 8 * s.size) (hk : k < 64) (hd : (a + k) / 8 < s.size) :
    Value.int IntKind.u64 (bits .or .u64 (IntKind.u64.wrap ((getB s a k : Nat) * 2)) (IntKind.u64.wrap (bits .and .u8 ((s[(a + k) / 8].toNat : Int) / 2 ^ (7 - (a + k) % 8)) 1))) =
      Value.int IntKind.u64 (getB s a (k + 1) : Nat) := by
  rw [getB_succ s a k h, and_u8 _ _ (UInt8.toNat_lt _)]
  have h2 : s[(a + k) / 8].toNat / 2 ^ (7 - (a + k) % 8) % 2 < 2 := Nat.mod_lt _ (by omega)
  generalize s[(a + k) / 8].toNat / 2 ^ (7 - (a + k) % 8) % 2 = b at h2
  have e : IntKind.u64.wrap (b : Int) = (b : Int) := by rw [IntKind.wrap_u64]; omega
  rw [e, or_u64 _ _ k (getB_lt s a k) hk h2]

set_option maxHeartbeats 400000 in
theorem getBits_any (s : ByteArray) (a n : Nat) (w : World) (hs : s.size ≤ maxLen) (hn : n ≤ 64) (ha : a + n ≤ 8 * s.size) (hb : a ≤ 100000000) :
    Calls Try.prog 18 #[.string s, .int .i64 a, .int .i64 n] w fun e w' => e = .returned (.int .u64 (getB s a n)) ∧ w = w' := by
  unfold maxLen at hs
  go_enter Try.func18, Try.ntmps18
  go_wp2
  go_loop [7, 11] (fun v i => ∃ k : Nat, k ≤ n ∧ i = .int .i64 k ∧ v = .int .u64 (getB s a k)) (fun _ i => n - (intOf i).toNat)
  case atStart => exact ⟨0, Nat.zero_le _, rfl, rfl⟩
  case round =>
    obtain ⟨k, hk, rfl, rfl⟩ := hrel
    have hv := getB_lt s a k
    by_cases hlt : k < n
    · have hd : (a + k) / 8 < s.size := by omega
      go_wp2
      go_round
      case rel =>
        exact ⟨k + 1, by omega, by go_num, get_step s a k (by omega) (by omega) hd⟩
      case measure => simp [intOf]; omega
    · go_wp2
      go_ret
      exact ⟨ret_int (by obtain rfl : k = n := by omega
                         rfl), rfl⟩
end Go.Proofs.Ytflofehnclaffaa.Fl
