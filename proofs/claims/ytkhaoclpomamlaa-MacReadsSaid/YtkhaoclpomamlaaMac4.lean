/-
  Contract: the document's Parse.
-/
import Derived.Test.YtkhaoclpomamlaaMac3
namespace Go.Proofs.Ytkhaoclpomamlaa.Mc
open Go.RowKit Go.Proofs.Ytkhaoclpomamlaa.Bt Go.Proofs.Ytkhaoclpomamlaa.Mm Go.Proofs.Ytkhaoclpomamlaa.Fl Go.Proofs.Ytkhaoclpomamlaa.Rf Go.Proofs.Ytkhaoclpomamlaa.Hx Go.Proofs.Ytkhaoclpomamlaa.Lw

def rdvN (c : Nat) : Int := if hexOk c = true then (hexN c : Int) else -1
theorem rdigit_any (c : Nat) (w : World) : Calls Try.prog 37 #[.int .u8 (c : Int)] w fun e w' => e = .returned (.int .i64 (rdvN c)) ∧ w' = w := by
  cases h : hexOk c with
  | true =>
    unfold rdvN
    rw [if_pos h]
    exact (rdigit_yes c w h).mono fun _ _ ⟨a, b⟩ => ⟨a, b.symm⟩
  | false =>
    unfold rdvN
    rw [h, if_neg (by simp)]
    exact (rdigit_no c w h).mono fun _ _ ⟨a, b⟩ => ⟨a, b.symm⟩

set_option maxHeartbeats 1000000 in
theorem rparse_any (s : ByteArray) (w : World) (hs : s.size ≤ maxLen) :
    Calls Try.prog 27 #[.string s] w fun e w' => e = .returned (.tuple #[.int .u64 ((parseR s.data.toList).1 : Nat), .int .i64 ((parseR s.data.toList).2 : Nat)]) ∧ Below w.heap.size w w' := by
  unfold maxLen at hs
  by_cases h17 : s.size = 17
  · have hn : ((s.size : Int) != 17) = false := by rw [h17]; rfl
    have hs1 : s.size ≤ 17 := by omega
    have hs2 : 17 ≤ s.size := by omega
    have HLEN := Lib.hid (show s.data.toList.length = 17 by rw [size_list]; exact h17)
    clear h17
    go_enter Try.func27, Try.ntmps27
    go_wp2
    go_loopw [4, 5] (fun a i wr => ∃ k : Nat, k ≤ 6 ∧ i = .int .i64 k ∧ a = .int .u64 (pv s.data.toList k : Nat) ∧ (∀ i, i < k → dOk s.data.toList i = true) ∧ (∀ i, i < 5 → i < k → cOk s.data.toList i = true) ∧ Below w.heap.size w wr) (fun _ i _ => 6 - (intOf i).toNat)
    case atStart => exact ⟨0, by omega, rfl, rfl, fun i hi => by omega, fun i _ hi => by omega, Below.refl _ _⟩
    case round =>
      obtain ⟨k, hk, rfl, rfl, hd, hc, hb⟩ := hrel
      have HD := Lib.hid hd; clear hd
      have HC := Lib.hid hc; clear hc
      have HB := Lib.hid hb; clear hb
      by_cases hlt : k < 6
      · have hpv := pv_small s.data.toList k (by omega) HD.out
        have e0 := at_get s (3 * k) (by omega)
        have e1 := at_get s (3 * k + 1) (by omega)
        have hpn : pv s.data.toList (k + 1) = pv s.data.toList k * 256 + (hexN s[3 * k].toNat * 16 + hexN s[3 * k + 1].toNat) := by
          rw [← e0, ← e1]; rfl
        have hdk : dOk s.data.toList k = (hexOk s[3 * k].toNat && hexOk s[3 * k + 1].toNat) := by
          rw [← e0, ← e1]; rfl
        clear e0 e1
        have HPN := Lib.hid hpn; clear hpn
        have HDK := Lib.hid hdk; clear hdk
        generalize pv s.data.toList k = x at *
        have HND := Lib.hid (fun (h : dOk s.data.toList k = false) => not_good_d k hlt h)
        have hn0 : hexOk s[3 * k].toNat = true → hexN s[3 * k].toNat < 16 := hexN_lt
        have hn1 : hexOk s[3 * k + 1].toNat = true → hexN s[3 * k + 1].toNat < 16 := hexN_lt
        have u0 : rdvN s[3 * k].toNat = if hexOk s[3 * k].toNat = true then (hexN s[3 * k].toNat : Int) else -1 := rfl
        have u1 : rdvN s[3 * k + 1].toNat = if hexOk s[3 * k + 1].toNat = true then (hexN s[3 * k + 1].toNat : Int) else -1 := rfl
        have U0 := Lib.hid u0; clear u0
        have U1 := Lib.hid u1; clear u1
        have HN0 := Lib.hid hn0; clear hn0
        have HN1 := Lib.hid hn1; clear hn1
        have hi0 : (3 * (k : Int)) < (s.size : Int) := by omega
        have hi1 : (3 * (k : Int) + 1) < (s.size : Int) := by omega
        go_wp2_with fail
        have q0 : IntKind.i64.wrap (3 * (k : Int)) = 3 * (k : Int) := IntWalk.i64_in _ (by omega)
        have q1 : IntKind.i64.wrap (3 * (k : Int) + 1) = 3 * (k : Int) + 1 := IntWalk.i64_in _ (by omega)
        have q2 : (0 : Int) ≤ 3 * (k : Int) := by omega
        have q5 : (0 : Int) ≤ 3 * (k : Int) + 1 := by omega
        have q3 : (3 * (k : Int)).toNat = 3 * k := by omega
        have q4 : (3 * (k : Int) + 1).toNat = 3 * k + 1 := by omega
        go_quiet ((go_at_call 37; exact Calls.quiet_of_same (rdigit_any _ _)))
        generalize s[3 * k].toNat = c0 at *
        generalize s[3 * k + 1].toNat = c1 at *
        clear q0 q1 q2 q3 q4 q5
        rw [U0.out, U1.out]
        clear U0 U1
        have hB := below_drewN HB.out nq
        have HB2 := Lib.hid hB; clear hB
        generalize wr.drewN nq = w2 at *
        generalize hexOk c0 = b0 at *
        generalize hexOk c1 = b1 at *
        generalize hexN c0 = v0 at *
        generalize hexN c1 = v1 at *
        cases b0 with
        | false =>
          have HE := Lib.hid (HND.out (by rw [HDK.out]; rfl))
          clear HN0 HN1 HND HDK HPN
          simp only [Bool.false_eq_true, if_false]
          go_wp2
          all_goals go_ret2
          all_goals exact ⟨ret_tup (by rw [HE.out]; rfl), HB2.out⟩
        | true =>
          have hv0 := HN0.out rfl
          cases b1 with
          | false =>
            have HE := Lib.hid (HND.out (by rw [HDK.out]; rfl))
            clear HN0 HN1 HND HDK HPN
            simp only [Bool.false_eq_true, if_false, if_true]
            go_wp2
            go_ret2
            exact ⟨ret_tup (by rw [HE.out]; rfl), HB2.out⟩
          | true =>
            have hv1 := HN1.out rfl
            clear HN0 HN1 HND
            simp only [if_true]
            by_cases hk5 : k < 5
            · have hb := beq58 s (3 * k + 2) (by omega)
              cases hcv : cOk s.data.toList k with
              | false =>
                have HE := Lib.hid (not_good_c k hk5 hcv)
                have h58 : ((s[3 * k + 2].toNat : Int) != 58) = true := by
                  rw [hb]
                  unfold cOk at hcv
                  rw [hcv]; rfl
                clear hb hcv
                go_wp2
                go_ret2
                exact ⟨ret_tup (by rw [HE.out]; rfl), HB2.out⟩
              | true =>
                have h58 : ((s[3 * k + 2].toNat : Int) != 58) = false := by
                  rw [hb]
                  unfold cOk at hcv
                  rw [hcv]; rfl
                have HCK := Lib.hid hcv
                clear hb hcv
                go_wp2
                go_roundw
                case rel =>
                  refine ⟨k + 1, by omega, by go_num, by rw [HPN.out]; go_num, fun i hi => ?_, fun i h5 hi => ?_, HB2.out⟩
                  · by_cases e : i < k
                    · exact HD.out i e
                    · obtain rfl : i = k := by omega
                      rw [HDK.out]; rfl
                  · by_cases e : i < k
                    · exact HC.out i h5 e
                    · obtain rfl : i = k := by omega
                      exact HCK.out
                case measure => simp [intOf]; omega
            · go_wp2
              go_roundw
              case rel =>
                refine ⟨k + 1, by omega, by go_num, by rw [HPN.out]; go_num, fun i hi => ?_, fun i h5 hi => HC.out i h5 (by omega), HB2.out⟩
                by_cases e : i < k
                · exact HD.out i e
                · obtain rfl : i = k := by omega
                  rw [HDK.out]; rfl
              case measure => simp [intOf]; omega
      · obtain rfl : k = 6 := by omega
        have HR := Lib.hid (parse_good (good_of HLEN.out HD.out (fun i hi => HC.out i hi (by omega))))
        go_wp2
        go_ret2
        exact ⟨ret_tup (by rw [HR.out]; rfl), HB.out⟩
  · have hn : ((s.size : Int) != 17) = true := by simp; omega
    have HR := Lib.hid (not_good_len (s := s.data.toList) (by rw [size_list]; exact h17))
    clear h17
    go_enter Try.func27, Try.ntmps27
    go_wp2
    go_ret2
    exact ⟨ret_tup (by rw [HR.out]; rfl), Below.refl _ _⟩
end Go.Proofs.Ytkhaoclpomamlaa.Mc
