/-
  Contracts: mac's Parse; the document's Parse.
-/
import Derived.Test.YtomchhjemfldnaaMac2
namespace Go.Proofs.Ytomchhjemfldnaa.Mc
open Go.RowKit Go.Proofs.Ytomchhjemfldnaa.Bt Go.Proofs.Ytomchhjemfldnaa.Mm Go.Proofs.Ytomchhjemfldnaa.Fl Go.Proofs.Ytomchhjemfldnaa.Rf Go.Proofs.Ytomchhjemfldnaa.Hx Go.Proofs.Ytomchhjemfldnaa.Lw

theorem at_get (s : ByteArray) (i : Nat) (h : i < s.size) : at_ s.data.toList i = s[i].toNat := by
  unfold at_
  rw [List.getD_eq_getElem?_getD, List.getElem?_eq_getElem (by rw [size_list]; exact h)]
  rfl
theorem or_pair (x h l : Nat) (hx : x < 1099511627776) (hh : h < 16) (hl : l < 16) :
    bits .or .u64 (bits .or .u64 ((x : Int) * 256) ((h : Int) * 16)) (l : Int) = ((x * 256 + (h * 16 + l) : Nat) : Int) := by
  have e1 : ((x : Int) * 256) = ((x * 256 : Nat) : Int) := by rw [Int.natCast_mul]; rfl
  have e2 : ((h : Int) * 16) = ((h * 16 : Nat) : Int) := by rw [Int.natCast_mul]; rfl
  rw [e1, e2, u64_or_nat _ _ (by omega) (by omega), nat_join 8 (x * 256) (h * 16) (by omega) (by omega), u64_or_nat _ _ (by omega) (by omega), nat_join 4 (x * 256 + h * 16) l (by omega) (by omega), Nat.add_assoc]
theorem pv_small (s : List UInt8) (k : Nat) (hk : k ≤ 5) (h : ∀ i, i < k → dOk s i = true) : pv s k < 1099511627776 := by
  have h1 := pv_lt s k h
  have h2 : 256 ^ k ≤ 256 ^ 5 := Nat.pow_le_pow_right (by omega) hk
  have h3 : 256 ^ 5 = 1099511627776 := by decide
  omega
theorem beq58 (s : ByteArray) (i : Nat) (h : i < s.size) : (((s[i].toNat : Nat) : Int) != 58) = !(at_ s.data.toList i == 58) := by
  rw [at_get s i h, Bool.eq_iff_iff]
  simp
  omega

def dvN (c : Nat) : Nat := if hexOk c = true then hexN c else 0
theorem dv_any (c : Nat) (w : World) : Calls Try.prog 32 #[.int .u8 (c : Int)] w fun e w' => e = .returned (.tuple #[.int .u64 (dvN c : Nat), .bool (hexOk c)]) ∧ w = w' := by
  cases h : hexOk c with
  | true =>
    unfold dvN
    rw [if_pos h]
    exact dv_yes c w h
  | false =>
    unfold dvN
    rw [h, if_neg (by simp)]
    exact dv_no c w h

set_option maxHeartbeats 1000000 in
theorem parse_any (s : ByteArray) (w : World) (hs : s.size ≤ maxLen) :
    Calls Try.prog 22 #[.string s] w fun e w' => e = .returned (.tuple #[.int .u64 ((parseR s.data.toList).1 : Nat), .int .i64 ((parseR s.data.toList).2 : Nat)]) ∧ w = w' := by
  unfold maxLen at hs
  by_cases h17 : s.size = 17
  · have hn : ((s.size : Int) != 17) = false := by rw [h17]; rfl
    have hs1 : s.size ≤ 17 := by omega
    have hs2 : 17 ≤ s.size := by omega
    have HLEN := Lib.hid (show s.data.toList.length = 17 by rw [size_list]; exact h17)
    clear h17
    go_enter Try.func22, Try.ntmps22
    go_wp2
    go_loop [4, 14] (fun a i => ∃ k : Nat, k ≤ 6 ∧ i = .int .i64 k ∧ a = .int .u64 (pv s.data.toList k : Nat) ∧ (∀ i, i < k → dOk s.data.toList i = true) ∧ (∀ i, i + 1 < k → cOk s.data.toList i = true)) (fun _ i => 6 - (intOf i).toNat)
    case atStart => exact ⟨0, by omega, rfl, rfl, fun i hi => by omega, fun i hi => by omega⟩
    case round =>
      obtain ⟨k, hk, rfl, rfl, hd, hc⟩ := hrel
      have HD := Lib.hid hd; clear hd
      have HC := Lib.hid hc; clear hc
      by_cases hlt : k < 6
      · have hpv := pv_small s.data.toList k (by omega) HD.out
        have e0 := at_get s (k * 3) (by omega)
        have e1 := at_get s (k * 3 + 1) (by omega)
        have hpn : pv s.data.toList (k + 1) = pv s.data.toList k * 256 + (hexN s[k * 3].toNat * 16 + hexN s[k * 3 + 1].toNat) := by
          rw [← e0, ← e1, Nat.mul_comm k 3]; rfl
        have hdk : dOk s.data.toList k = (hexOk s[k * 3].toNat && hexOk s[k * 3 + 1].toNat) := by
          rw [← e0, ← e1, Nat.mul_comm k 3]; rfl
        clear e0 e1
        have HPN := Lib.hid hpn; clear hpn
        have HDK := Lib.hid hdk; clear hdk
        generalize pv s.data.toList k = x at *
        by_cases hck : 0 < k ∧ cOk s.data.toList (k - 1) = false
        · obtain ⟨hk0, hcf⟩ := hck
          have hb := beq58 s (k * 3 - 1) (by omega)
          have HR := Lib.hid (not_good_c (k - 1) (by omega) hcf)
          have h58 : ((s[k * 3 - 1].toNat : Int) != 58) = true := by
            rw [hb, show k * 3 - 1 = 3 * (k - 1) + 2 by omega]
            unfold cOk at hcf
            rw [hcf]; rfl
          clear hb hcf
          go_wp2
          go_ret2
          exact ⟨ret_tup (by rw [HR.out]; rfl), rfl⟩
        · have hcn : ∀ i, i + 1 < k + 1 → cOk s.data.toList i = true := by
            intro i hi
            by_cases e : i + 1 < k
            · exact HC.out i e
            · have ek : i = k - 1 := by omega
              subst ek
              by_cases hk0 : 0 < k
              · cases hv : cOk s.data.toList (k - 1) with
                | true => rfl
                | false => exact absurd ⟨hk0, hv⟩ hck
              · omega
          have HCN := Lib.hid hcn; clear hcn
          have h58 : 0 < k → ((s[k * 3 - 1]'(by omega)).toNat != (58 : Int)) = false := by
            intro hk0
            have hb := beq58 s (k * 3 - 1) (by omega)
            rw [hb, show k * 3 - 1 = 3 * (k - 1) + 2 by omega]
            have := HCN.out (k - 1) (by omega)
            unfold cOk at this
            rw [this]; rfl
          clear hck
          have HND := Lib.hid (fun (h : dOk s.data.toList k = false) => not_good_d k hlt h)
          have d0 := dv_any s[k * 3].toNat w
          have d1 := dv_any s[k * 3 + 1].toNat w
          have hn0 : hexOk s[k * 3].toNat = true → hexN s[k * 3].toNat < 16 := hexN_lt
          have hn1 : hexOk s[k * 3 + 1].toNat = true → hexN s[k * 3 + 1].toNat < 16 := hexN_lt
          unfold dvN at d0 d1
          generalize hexOk s[k * 3].toNat = b0 at *
          generalize hexOk s[k * 3 + 1].toNat = b1 at *
          generalize hexN s[k * 3].toNat = v0 at *
          generalize hexN s[k * 3 + 1].toNat = v1 at *
          have D0 := Lib.hid d0; clear d0
          have D1 := Lib.hid d1; clear d1
          by_cases hk0 : 0 < k
          all_goals
            (first | (have h58' := h58 hk0) | skip)
            clear h58
            cases b0 <;> cases b1
          all_goals
            simp only [if_true, if_false, Bool.false_eq_true, true_imp_iff, false_imp_iff] at D0 D1 hn0 hn1
            go_wp2_with fail
            refine D0.out.mono ?_
            rintro e w' ⟨rfl, rfl⟩
            go_wp2_with fail
            refine D1.out.mono ?_
            rintro e w' ⟨rfl, rfl⟩
            go_wp2
          all_goals first
            | (go_ret2
               exact ⟨ret_tup (by rw [HND.out (by rw [HDK.out]; rfl)]; rfl), rfl⟩)
            | (go_round
               case rel =>
                 refine ⟨k + 1, by omega, by go_num, ?_, fun i hi => ?_, HCN.out⟩
                 · rw [HPN.out, ← or_pair x v0 v1 hpv hn0 hn1]
                 · by_cases e : i < k
                   · exact HD.out i e
                   · obtain rfl : i = k := by omega
                     rw [HDK.out]; rfl
               case measure => simp [intOf]; omega)
      · obtain rfl : k = 6 := by omega
        have HR := Lib.hid (parse_good (good_of HLEN.out HD.out (fun i hi => HC.out i (by omega))))
        go_wp2
        go_ret2
        exact ⟨ret_tup (by rw [HR.out]; rfl), rfl⟩
  · have hn : ((s.size : Int) != 17) = true := by simp; omega
    have HR := Lib.hid (not_good_len (s := s.data.toList) (by rw [size_list]; exact h17))
    clear h17
    go_enter Try.func22, Try.ntmps22
    go_wp2
    go_ret2
    exact ⟨ret_tup (by rw [HR.out]; rfl), rfl⟩
end Go.Proofs.Ytomchhjemfldnaa.Mc
