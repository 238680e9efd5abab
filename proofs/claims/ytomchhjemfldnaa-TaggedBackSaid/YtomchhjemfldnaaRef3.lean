/-
  Contract of the document's Split.
-/
import Derived.Test.YtomchhjemfldnaaRef2
import Derived.Test.YtomchhjemfldnaaField4
namespace Go.Proofs.Ytomchhjemfldnaa.Rf
open Go.RowKit Go.Proofs.Ytomchhjemfldnaa.Bt Go.Proofs.Ytomchhjemfldnaa.Mm Go.Proofs.Ytomchhjemfldnaa.Fl

theorem bits8 (c : Nat) (w : World) (hc : c < 256) :
    Calls Try.prog 33 #[.int .u64 (c : Int), .int .i64 8] w fun e w' => e = .returned (.tuple #[.slice (some ⟨w.heap.size, 0, none⟩) 8 8, .bool true]) ∧
      Blk w' w.heap.size 3 (numCells .i64 8 (nth (bitsN c 8))) ∧ Below w.heap.size w w' :=
  bits_b true c 8 w (decide_eq_true (by omega)) (by omega) (by omega)
theorem bitsB_take_succ (s : ByteArray) (k : Nat) (h : k < s.size) : bitsB (s.data.toList.take (k + 1)) = bitsB (s.data.toList.take k) ++ bitsN s[k].toNat 8 := by
  rw [take_snoc s k h, bitsB_append]
  simp [bitsB]
theorem getB_take (s : ByteArray) (m a n : Nat) (h : a + n ≤ 8 * m) (hm : m ≤ s.size) : val (((bitsB (s.data.toList.take m)).drop a).take n) = getB s a n := by
  unfold getB
  congr 1
  apply ext_nth
  · simp only [List.length_take, List.length_drop, length_bitsB, size_list]
    omega
  · intro i hi
    have hi' : i < n := by simp at hi; omega
    rw [nth_take _ _ _ hi', nth_take _ _ _ hi', nth_drop, nth_drop]
    have e : bitsB s.data.toList = bitsB (s.data.toList.take m) ++ bitsB (s.data.toList.drop m) := by rw [← bitsB_append, List.take_append_drop]
    rw [e, nth_append_left _ _ _ (by rw [length_bitsB, List.length_take, size_list]; omega)]

set_option maxHeartbeats 2000000 in
theorem rsplit_any (s : ByteArray) (zs : List Int) (A : Option Addr) (c : Nat) (w : World) (hs : s.size ≤ maxLen) (hn : zs.length ≤ 100000) (hA : Rd w w.heap.size A (ints zs)) :
    Calls Try.prog 31 #[.string s, .slice A zs.length c] w (SplitPost s zs w) := by
  unfold maxLen at hs
  have HA := Lib.hid hA; clear hA
  go_enter Try.func31, Try.ntmps31
  go_wp2
  go_loop [7, 8] (fun t i => ∃ k : Nat, k ≤ zs.length ∧ i = .int .i64 k ∧ t = .int .i64 (tot (zs.take k) : Nat) ∧ (zs.take k).all okW = true) (fun _ i => zs.length - (intOf i).toNat)
  case atStart => exact ⟨0, Nat.zero_le _, rfl, rfl, rfl⟩
  case round =>
    obtain ⟨k, hk, rfl, rfl, hall⟩ := hrel
    have hle := tot_le zs k hall
    have HL := Lib.hid hall; clear hall
    by_cases hlt : k < zs.length
    · obtain ⟨ad, rfl, hbl, hcell⟩ := HA.out (by rw [length_ints]; omega)
      have c0 := hcell _ _ (get_ints zs k hlt)
      clear hcell
      generalize hp : zs[k] = W at c0
      have HP := Lib.hid hp; clear hp
      by_cases h1 : W < 1
      · have HO := Lib.hid (show okW W = false from decide_eq_false (by omega))
        go_wp2
        go_ret3
        refine ⟨none, 0, ?_, ?_, Below.refl _ _⟩
        · rw [splitR_bad s zs k hlt (by rw [HP.out]; exact HO.out)]; rfl
        · rw [splitR_bad s zs k hlt (by rw [HP.out]; exact HO.out)]; exact Rd.none _ _ _
      by_cases h2 : 64 < W
      · have HO := Lib.hid (show okW W = false from decide_eq_false (by omega))
        go_wp2
        go_ret3
        refine ⟨none, 0, ?_, ?_, Below.refl _ _⟩
        · rw [splitR_bad s zs k hlt (by rw [HP.out]; exact HO.out)]; rfl
        · rw [splitR_bad s zs k hlt (by rw [HP.out]; exact HO.out)]; exact Rd.none _ _ _
      have HO := Lib.hid (show okW W = true from decide_eq_true ⟨by omega, by omega⟩)
      obtain ⟨Wn, rfl⟩ := Int.eq_ofNat_of_zero_le (show 0 ≤ W by omega)
      go_wp2
      go_round
      case rel =>
        refine ⟨k + 1, by omega, by go_num, ?_, all_snocW zs k hlt HL.out (by rw [HP.out]; exact HO.out)⟩
        rw [tot_snoc zs k hlt, HP.out]
        go_num
      case measure => simp [intOf]; omega
    · obtain rfl : k = zs.length := by omega
      rw [List.take_length] at hle HL
      simp only [List.take_length]
      obtain ⟨T, hT⟩ : ∃ T, T = tot zs := ⟨_, rfl⟩
      rw [← hT] at hle ⊢
      have HT := Lib.hid hT; clear hT
      by_cases h8 : T % 8 = 0
      · have ht : ((T : Int) % 8 != 0) = false := by simp; omega
        by_cases hsh : T / 8 ≤ s.size
        · have hf : decide (s.size < T / 8) = false := by simp; omega
          have HR := Lib.hid (show splitR s zs = (valsOf s zs, s.extract (T / 8) s.size, 0) by unfold splitR; rw [if_pos HL.out, ← HT.out, if_pos h8, if_pos hsh])
          have hT8 : T ≤ 8 * s.size := by omega
          have hT9 : T ≤ 8 * (T / 8) := by omega
          clear h8
          obtain ⟨i0, hi, hz0, hz1, hz2⟩ := info_parts info_u64
          obtain ⟨j0, hj, hy0, hy1, hy2⟩ := info_parts info_int
          go_wp2
          go_loopw [9, 10] (fun v i wr => ∃ (k : Nat) (R : Option Addr) (rc : Nat), k ≤ T / 8 ∧ i = .int .i64 k ∧ v = .slice R (8 * k) rc ∧
              wr.ownsRow w.heap.size 3 1 (.slice R (8 * k) rc) (8 * k) (nums .i64 (bitsB (s.data.toList.take k))) ∧ Below w.heap.size w wr) (fun _ i _ => T / 8 - (intOf i).toNat)
          case atStart => exact ⟨0, none, 0, Nat.zero_le _, rfl, rfl, World.ownsRow_nil _ _ _ _, Below.refl _ _⟩
          case round =>
            obtain ⟨k, R, rc, hk, rfl, rfl, hown, hb⟩ := hrel
            by_cases hlt : k < T / 8
            · have hks : k < s.size := by omega
              have hkz : (k : Int) < (T : Int) / 8 := by omega
              have hcb : s[k].toNat < 256 := UInt8.toNat_lt _
              have hsz := hb.size
              have HB := Lib.hid hb; clear hb
              have HW := Lib.hid hown; clear hown
              have HN := Lib.hid (bitsB_take_succ s k hks)
              go_wp2_with fail
              refine (bits8 s[k].toNat wr hcb).mono ?_
              rintro e w1 ⟨rfl, hg1, hb1⟩
              have HO1 := Lib.hid (own_below HW.out hb1)
              have HN1 := Lib.hid (blk_nums (l := bitsN s[k].toNat 8) (kd := .i64) (length_bitsN _ 8).symm (fun i _ => rfl) hg1)
              have hs1 := hb1.size
              have HB1 := Lib.hid (HB.out.trans (hb1.mono hsz))
              clear hg1 hb1
              go_wp2_with (at_builtin; refine wpList_append_own _ rfl (.tmp 64) (.tmp 65) 65 rfl w.heap.size 3 j0 (.int .i64 0) 1 8 Try.underlying65 hj hy0 hy1 hy2 rfl (by decide) _ _ _ rfl HO1.out ⟨wr.heap.size, 0, none⟩ 8 8 (nums .i64 (bitsN s[k].toNat 8)) rfl (by simp [nums]) HN1.out (one_nums _ _) (by unfold maxLen; omega) (by omega) (by omega) ?_; intro v' w2 hown' hgrow _)
              obtain ⟨R', rc', rfl⟩ := own_slice hown'
              have HB2 := Lib.hid (below_own HB1.out HO1.out (by omega) hgrow)
              have HO2 := Lib.hid hown'
              clear hown' hgrow HO1 HN1 HB1
              go_roundw
              case rel =>
                refine ⟨k + 1, R', rc', by omega, by go_num, by rw [Nat.mul_add], ?_, HB2.out⟩
                rw [HN.out, ← nums_append, Nat.mul_add]
                exact HO2.out
              case measure => simp [intOf]; omega
            · obtain rfl : k = T / 8 := by omega
              have hlk : (bitsB (s.data.toList.take (T / 8))).length = 8 * (T / 8) := by rw [length_bitsB, List.length_take, size_list, Nat.min_eq_left hsh]
              have HBn := Lib.hid (bin_bitsB (s.data.toList.take (T / 8)))
              have HGB := Lib.hid (fun a n (h : a + n ≤ 8 * (T / 8)) => getB_take s (T / 8) a n h hsh)
              obtain ⟨l, hl⟩ : ∃ l, l = bitsB (s.data.toList.take (T / 8)) := ⟨_, rfl⟩
              rw [← hl] at hown hlk HBn HGB
              clear hl
              have HLK := Lib.hid hlk; clear hlk
              obtain ⟨M, hM⟩ : ∃ M, M = 8 * (T / 8) := ⟨_, rfl⟩
              rw [← hM] at hown HLK HGB ⊢
              have hM1 : M ≤ T := by omega
              have hM2 : T ≤ M := by omega
              clear hM
              obtain ⟨wo, rfl⟩ : ∃ wo : World, wo = wr := ⟨_, rfl⟩
              have hsz := hb.size
              have HB := Lib.hid hb; clear hb
              have HW := Lib.hid hown; clear hown
              have hkz : ¬ ((T / 8 : Nat) : Int) < (T : Int) / 8 := by omega
              go_wp2
              go_loopw [13, 14, 15, 16, 17] (fun v t i _ _ wr => ∃ (k : Nat) (R2 : Option Addr) (c2 : Nat), k ≤ zs.length ∧ i = .int .i64 k ∧ t = .int .i64 (tot (zs.take k) : Nat) ∧ v = .slice R2 k c2 ∧ wr.ownsRow w.heap.size 22 1 (.slice R2 k c2) k (nums .u64 ((valsOf s zs).take k)) ∧
                  wr.ownsRow w.heap.size 3 1 (.slice R M rc) M (nums .i64 l) ∧ Below w.heap.size w wr) (fun _ _ i _ _ _ => zs.length - (intOf i).toNat)
              case atStart => exact ⟨0, none, 0, Nat.zero_le _, rfl, rfl, rfl, World.ownsRow_nil _ _ _ _, HW.out, HB.out⟩
              case round =>
                obtain ⟨k, R2, c2, hk2, rfl, rfl, rfl, hown2, hown, hb⟩ := hrel
                by_cases hlt2 : k < zs.length
                · have hsz2 := hb.size
                  obtain ⟨ad, rfl, hbl, hcell⟩ := (HA.out.below hb) (by rw [length_ints]; omega)
                  have c0 := hcell _ _ (get_ints zs k hlt2)
                  clear hcell
                  have hok := of_decide_eq_true (List.all_eq_true.1 HL.out _ (List.getElem_mem hlt2))
                  have hto := tot_mono zs k hlt2
                  rw [← HT.out] at hto
                  have htn := tot_snoc zs k hlt2
                  have hvn : nums .u64 ((valsOf s zs).take (k + 1)) = nums .u64 ((valsOf s zs).take k) ++ [.int .u64 ((getB s (tot (zs.take k)) zs[k].toNat : Nat) : Int)] := by
                    rw [List.take_succ_eq_append_getElem (by simp [valsOf]; omega), ← nums_append]
                    simp [valsOf, nums, hlt2]
                  generalize hp : zs[k] = W at c0 hok hto htn hvn
                  clear hp
                  obtain ⟨Wn, rfl⟩ := Int.eq_ofNat_of_zero_le (show 0 ≤ W by omega)
                  simp only [Int.toNat_natCast] at hto htn hvn
                  obtain ⟨ha1, ha2⟩ := hok
                  obtain ⟨g, hR, _, _, hcl, _⟩ := own_cell hown (by omega)
                  subst hR
                  have HTN := Lib.hid htn; clear htn
                  have HVN := Lib.hid hvn; clear hvn
                  have HB2 := Lib.hid hb; clear hb
                  have HO2 := Lib.hid hown2; clear hown2
                  have HO := Lib.hid hown; clear hown
                  have HC := Lib.hid hcl; clear hcl
                  go_wp2_with fail
                  go_loop [16, 17] (fun v i => ∃ j : Nat, j ≤ Wn ∧ i = .int .i64 j ∧ v = .int .u64 (getB s (tot (zs.take k)) j : Nat)) (fun _ i => Wn - (intOf i).toNat)
                  case atStart => exact ⟨0, by omega, rfl, rfl⟩
                  case round =>
                    obtain ⟨j, hj8, rfl, rfl⟩ := hrel
                    generalize htk : tot (zs.take k) = a at *
                    clear htk
                    by_cases hj9 : j < Wn
                    · have hgl := getB_lt s a j
                      have hgp := pow_le (j + 1) (by omega)
                      rw [Nat.pow_succ] at hgp
                      have c1 := HC.out (a + j) (by omega)
                      rw [get_nums _ _ _ (by rw [HLK.out]; omega)] at c1
                      have hnx : getB s a (j + 1) = 2 * getB s a j + l.getD (a + j) 0 := by
                        rw [← HGB.out a (j + 1) (by omega), ← HGB.out a j (by omega), take_succ_nth _ _ (by rw [List.length_drop, HLK.out]; omega), val_snoc, nth_drop]; rfl
                      have hb2 : l.getD (a + j) 0 < 2 := nth_lt HBn.out (a + j)
                      have HN := Lib.hid hnx; clear hnx
                      generalize getB s a j = x at *
                      generalize l.getD (a + j) 0 = y at *
                      have hx : x < 9223372036854775808 := by omega
                      clear hgl hgp
                      go_wp2
                      go_round
                      case rel => exact ⟨j + 1, by omega, by go_num, by rw [HN.out]; go_num⟩
                      case measure => simp [intOf]; omega
                    · obtain rfl : j = Wn := by omega
                      generalize getB s a j = x at *
                      go_wp2_with (at_builtin; refine wpList_append_own _ rfl (.tmp 97) (.tmp 99) 51 rfl w.heap.size 22 i0 (.int .u64 0) 1 8 Try.underlying51 hi hz0 hz1 hz2 rfl (by decide) _ _ _ rfl (HO2.out.alloc _) ⟨wr.heap.size, 0, none⟩ 1 1 [.int .u64 (x : Int)] rfl rfl (cell_new _ _ _) (by intro u hu; simp at hu; subst hu; rfl) (by unfold maxLen; omega) (by omega) (by simp; omega) ?_; intro v' w2 hown' hgrow _)
                      obtain ⟨R', c', rfl⟩ := own_slice hown'
                      have HB3 := Lib.hid (below_own (HB2.out.alloc hsz2 _) (HO2.out.alloc _) (by simp; omega) hgrow)
                      have HOA := Lib.hid ((HO.out.alloc _).kept hgrow (own_ne HO.out HO2.out (by decide)))
                      have HO3 := Lib.hid hown'
                      clear hown' hgrow
                      go_roundw
                      case rel =>
                        refine ⟨k + 1, R', c', by omega, by go_num, by rw [HTN.out]; go_num, by go_num, ?_, HOA.out, HB3.out⟩
                        rw [HVN.out]
                        exact HO3.out
                      case measure => simp [intOf]; omega
                · obtain rfl : k = zs.length := by omega
                  have hv : (valsOf s zs).length = zs.length := by simp [valsOf]
                  rw [List.take_of_length_le (by omega)] at hown2
                  have hrd := Rd.of_own hown2
                  have HRD := Lib.hid hrd; clear hrd
                  have HV := Lib.hid hv; clear hv
                  have HB2 := Lib.hid hb; clear hb
                  clear hown2 hown
                  have hq : (T : Int) / 8 ≤ (s.size : Int) := by omega
                  go_wp2
                  go_quiet (fail)
                  go_wp2
                  go_ret3
                  refine ⟨R2, c2, by rw [HR.out, HV.out]; rfl, ?_, below_drewN HB2.out nq⟩
                  rw [HR.out]
                  exact HRD.out
        · have hf : decide (s.size < T / 8) = true := by simp; omega
          have hf2 : decide ((s.size : Int) < (T : Int) / 8) = true := by simp; omega
          have HR := Lib.hid (show splitR s zs = ([], ⟨#[]⟩, 1) by unfold splitR; rw [if_pos HL.out, ← HT.out, if_pos h8, if_neg hsh])
          clear h8
          go_wp2
          go_ret3
          exact ⟨none, 0, by rw [HR.out]; rfl, by rw [HR.out]; exact Rd.none _ _ _, Below.refl _ _⟩
      · have ht : ((T : Int) % 8 != 0) = true := by simp; omega
        have HR := Lib.hid (show splitR s zs = ([], ⟨#[]⟩, 3) by unfold splitR; rw [if_pos HL.out, ← HT.out, if_neg h8])
        clear h8
        go_wp2
        go_ret3
        exact ⟨none, 0, by rw [HR.out]; rfl, by rw [HR.out]; exact Rd.none _ _ _, Below.refl _ _⟩
end Go.Proofs.Ytomchhjemfldnaa.Rf
