/-
  Contracts: the document's Put and Get, at any place and of any size up to eight bytes.
-/
import Derived.Test.YtomchhjemfldnaaMac2
import Derived.Test.YtomchhjemfldnaaBits2
namespace Go.Proofs.Ytomchhjemfldnaa.Mc
open Go.RowKit Go.Proofs.Ytomchhjemfldnaa.Bt Go.Proofs.Ytomchhjemfldnaa.Mm Go.Proofs.Ytomchhjemfldnaa.Fl Go.Proofs.Ytomchhjemfldnaa.Rf Go.Proofs.Ytomchhjemfldnaa.Hx Go.Proofs.Ytomchhjemfldnaa.Lw

theorem put_any (v n : Nat) (w : World) (hn : 1 ≤ n) (hn8 : n ≤ 8) (hv : v < 2 ^ (8 * n)) (hv64 : v < 18446744073709551616) :
    Calls Try.prog 19 #[.int .u64 (v : Int), .int .i64 (n : Int)] w fun e w' => e = .returned (.string ⟨(putB v n).toArray⟩) ∧ Below w.heap.size w w' := by
  have HP := Lib.hid (packR_put hn hn8 hv); clear hv
  have HV := Lib.hid (show ∀ p ∈ [(((8 * n : Nat) : Int), v)], p.2 < 18446744073709551616 by intro p hp; simp at hp; subst hp; exact hv64)
  have e8 : (8 : Int) * (n : Int) = ((8 * n : Nat) : Int) := by omega
  have HE := Lib.hid e8; clear e8
  go_enter Try.func19, Try.ntmps19
  go_wp2_with fail
  rw [HE.out]
  refine (rpack_lit [(((8 * n : Nat) : Int), v)] _ _ _ _ _ _ w rfl rfl (by simp) HV.out HP.out).mono ?_
  rintro e w1 ⟨rfl, hb⟩
  have HB := Lib.hid (below_one _ hb); clear hb
  go_wp2
  go_ret
  exact ⟨rfl, HB.out⟩
theorem splitR_one (s : ByteArray) (n : Nat) (hn : 1 ≤ n) (hn8 : n ≤ 8) (h : n ≤ s.size) : splitR s [((8 * n : Nat) : Int)] = ([getB s 0 (8 * n)], s.extract n s.size, 0) := by
  have e1 : ([((8 * n : Nat) : Int)]).all okW = true := by
    simp only [List.all_cons, List.all_nil, Bool.and_true, okW, decide_eq_true_eq]
    exact ⟨by omega, by omega⟩
  have e2 : tot [((8 * n : Nat) : Int)] = 8 * n := by simp only [tot, List.map_cons, List.map_nil, List.sum_cons, List.sum_nil, Int.toNat_natCast]; omega
  have e3 : valsOf s [((8 * n : Nat) : Int)] = [getB s 0 (8 * n)] := by
    unfold valsOf
    simp only [List.length_singleton, List.range_one, List.map_cons, List.map_nil, List.take_zero, List.getD_cons_zero, Int.toNat_natCast]
    rfl
  unfold splitR
  rw [if_pos e1, e2, if_pos (by omega), show 8 * n / 8 = n by omega, if_pos h, e3]
theorem get_any (s : ByteArray) (a n : Nat) (w : World) (hs : s.size ≤ maxLen) (hn : 1 ≤ n) (hn8 : n ≤ 8) (h : a + n ≤ s.size) :
    Calls Try.prog 21 #[.string s, .int .i64 (a : Int), .int .i64 (n : Int)] w fun e w' => e = .returned (.int .u64 (getN s.data.toList a n : Nat)) ∧ Below w.heap.size w w' := by
  unfold maxLen at hs
  have hxs : (s.extract a s.size).size = s.size - a := by simp
  have hsp := splitR_one (s.extract a s.size) n hn hn8 (by omega)
  have hv : getB (s.extract a s.size) 0 (8 * n) = getN s.data.toList a n := by
    rw [show (0 : Nat) = 8 * 0 from rfl, getB_getN]
    unfold getN
    rw [extract_list, List.drop_zero]
  rw [hv] at hsp
  clear hv
  have hl : (s.extract a s.size).size ≤ maxLen := by unfold maxLen; omega
  have HL := Lib.hid hl; clear hl
  have HS := Lib.hid hsp; clear hsp hxs
  generalize getN s.data.toList a n = x at *
  have e8 : (8 : Int) * (n : Int) = ((8 * n : Nat) : Int) := by omega
  have HE := Lib.hid e8; clear e8
  have ha : (a : Int) ≤ (s.size : Int) := by omega
  go_enter Try.func21, Try.ntmps21
  go_wp2_with fail
  rw [HE.out]
  generalize (s.extract a s.size) = t at *
  refine (rsplit_one t _ _ w HS.out HL.out).mono ?_
  rintro e w1 ⟨A', c', rfl, hr, hb⟩
  obtain ⟨ad, rfl, _, hc⟩ := hr (by simp [nums])
  have c0 := hc 0 _ rfl
  simp [Addr.add] at c0
  have HB := Lib.hid hb; clear hb hc
  go_wp2
  go_ret
  exact ⟨rfl, HB.out⟩
end Go.Proofs.Ytomchhjemfldnaa.Mc
