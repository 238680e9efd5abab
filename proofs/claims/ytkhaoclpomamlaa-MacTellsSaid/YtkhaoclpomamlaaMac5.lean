/-
  Contract: mac's String.
-/
import Derived.Test.YtkhaoclpomamlaaMac4
namespace Go.Proofs.Ytkhaoclpomamlaa.Mc
open Go.RowKit Go.Proofs.Ytkhaoclpomamlaa.Bt Go.Proofs.Ytkhaoclpomamlaa.Mm Go.Proofs.Ytkhaoclpomamlaa.Fl Go.Proofs.Ytkhaoclpomamlaa.Rf Go.Proofs.Ytkhaoclpomamlaa.Hx Go.Proofs.Ytkhaoclpomamlaa.Lw

theorem digit_z (x : Int) (w : World) (h0 : 0 ≤ x) (h1 : x < 16) :
    Calls Try.prog 34 #[.int .u8 x] w fun e w' => e = .returned (.int .u8 (hexD x.toNat : Nat)) ∧ w = w' := by
  obtain ⟨n, rfl⟩ := Int.eq_ofNat_of_zero_le h0
  rw [Int.toNat_natCast]
  exact digit_any n w (by omega)
theorem char_z (x : Int) (w : World) (h0 : 0 ≤ x) (h1 : x < 16) :
    Calls Try.prog 35 #[.int .i64 x] w fun e w' => e = .returned (.int .u8 (hexD x.toNat : Nat)) ∧ w = w' := by
  obtain ⟨n, rfl⟩ := Int.eq_ofNat_of_zero_le h0
  rw [Int.toNat_natCast]
  exact char_any n w (by omega)
theorem and15 (c : Nat) (hc : c < 256) : bits .and .u8 (c : Int) 15 = ((c % 16 : Nat) : Int) := by
  have e := u8_and_nat c 15 hc (by omega)
  rw [nat_mask4] at e
  exact e
theorem byteVals_append (a b : List UInt8) : byteVals (a ++ b) = byteVals a ++ byteVals b := by simp [byteVals]
theorem byteVals_pair (c : UInt8) : byteVals [UInt8.ofNat (hexD (c.toNat / 16)), UInt8.ofNat (hexD (c.toNat % 16))] = [.int .u8 (hexD (c.toNat / 16) : Nat), .int .u8 (hexD (c.toNat % 16) : Nat)] := by
  have h := UInt8.toNat_lt c
  simp only [byteVals, List.map_cons, List.map_nil, toNat_hexD (show c.toNat / 16 < 16 by omega), toNat_hexD (show c.toNat % 16 < 16 by omega)]
theorem length_byteVals (l : List UInt8) : (byteVals l).length = l.length := by simp [byteVals]

set_option maxHeartbeats 1000000 in
theorem string_any (n : Nat) (w : World) (hn : n < 18446744073709551616) :
    Calls Try.prog 23 #[.int .u64 (n : Int)] w fun e w' => e = .returned (.string ⟨(text (bytesM n)).toArray⟩) ∧ Below w.heap.size w w' := by
  obtain ⟨j0, hj, hy0, hy1, hy2⟩ := info_parts info_u8
  have hbl := length_bytesM_le n
  go_enter Try.func23, Try.ntmps23
  go_wp2_with fail
  refine (bytes_any n w hn).mono ?_
  rintro e w1 ⟨rfl, hb1⟩
  have hs : (ByteArray.mk (bytesM n).toArray).data.toList = bytesM n := data_list _
  have hsz : (ByteArray.mk (bytesM n).toArray).size = (bytesM n).length := size_mk _
  generalize ByteArray.mk (bytesM n).toArray = s at *
  have hs6 : s.size ≤ 6 := by omega
  have HS := Lib.hid hs; clear hs hsz hbl
  have hz1 := hb1.size
  have HB1 := Lib.hid hb1; clear hb1
  go_wp2_with fail
  go_loopw [4, 10] (fun v i wr => ∃ (k : Nat) (R : Option Addr) (rc : Nat), k ≤ s.size ∧ i = .int .i64 k ∧ v = .slice R (text (s.data.toList.take k)).length rc ∧ wr.ownsRow w.heap.size 5 1 (.slice R (text (s.data.toList.take k)).length rc) (text (s.data.toList.take k)).length (byteVals (text (s.data.toList.take k))) ∧ Below w.heap.size w wr) (fun _ i _ => s.size - (intOf i).toNat)
  case atStart => exact ⟨0, none, 0, Nat.zero_le _, rfl, rfl, World.ownsRow_nil _ _ _ _, HB1.out⟩
  case round =>
    obtain ⟨k, R, rc, hk, rfl, rfl, hown, hb⟩ := hrel
    have hsz := hb.size
    have HB := Lib.hid hb; clear hb
    have HO := Lib.hid hown; clear hown
    by_cases hlt : k < s.size
    · have htn := length_text (s.data.toList.take k)
      rw [List.length_take, size_list, Nat.min_eq_left hk] at htn
      have hts : text (s.data.toList.take (k + 1)) = textStep (text (s.data.toList.take k)) s[k] := by rw [take_snoc s k hlt, text_snoc]
      have hpr := byteVals_pair s[k]
      have hcb := UInt8.toNat_lt s[k]
      have ha15 := and15 s[k].toNat hcb
      unfold textStep at hts
      have hc4 : (s[k].toNat : Int) / 2 ^ 4 = ((s[k].toNat / 16 : Nat) : Int) := div_cast _ 4
      generalize hT : text (s.data.toList.take k) = T at *
      clear hT
      obtain ⟨L, hL⟩ : ∃ L, L = T.length := ⟨_, rfl⟩
      rw [← hL] at htn HO ⊢
      have hL17 : L ≤ 17 := by omega
      have HTN := Lib.hid htn; clear htn
      have HTS := Lib.hid hts; clear hts
      have HPR := Lib.hid hpr; clear hpr
      have HL := Lib.hid hL; clear hL
      by_cases hk0 : 0 < k
      · have hT0 : ¬ T = [] := by
          intro e
          have h1 := HTN.out
          have h2 := HL.out
          rw [e] at h2
          simp at h2
          omega
        have HE : Hid (byteVals (text (s.data.toList.take (k + 1))) = (byteVals T ++ [.int .u8 58]) ++ [.int .u8 (hexD (s[k].toNat / 16) : Nat), .int .u8 (hexD (s[k].toNat % 16) : Nat)]) := by
          rw [HTS.out, if_neg hT0, byteVals_append, byteVals_append, HPR.out]; rfl
        have HEL := Lib.hid (show (text (s.data.toList.take (k + 1))).length = L + 1 + 2 by rw [HTS.out, if_neg hT0, HL.out]; simp)
        clear hT0 HTS HPR
        go_wp2_with (at_builtin; refine wpList_append_own _ rfl (.tmp 15) (.tmp 16) 57 rfl w.heap.size 5 j0 (.int .u8 0) 1 1 Try.underlying57 hj hy0 hy1 hy2 rfl (by decide) _ _ _ rfl (HO.out.alloc _) ⟨wr.heap.size, 0, none⟩ 1 1 [.int .u8 58] rfl rfl (cell_new _ _ _) (by intro u hu; simp at hu; subst hu; rfl) (by unfold maxLen; omega) (by omega) (by simp; omega) ?_; intro v' wx hownx hgrowx _)
        obtain ⟨Rx, cx, rfl⟩ := own_slice hownx
        have HBx := Lib.hid (below_own (HB.out.alloc hsz _) (HO.out.alloc _) (by simp; omega) hgrowx)
        have hszx := HBx.out.size
        have HOx := Lib.hid hownx
        clear hownx hgrowx
        go_wp2_with fail
        go_region_held3 (fun _ => True) (first | trivial) (first
          | (go_at_call 34; refine (digit_z _ _ (by omega) (by omega)).mono ?_; rintro e w' ⟨rfl, rfl⟩)
          | (refine step_append_lies _ (by rfl) (.tmp 18) (.tmp 29) 57 (by rfl) w.heap.size 5 j0 (.int .u8 0) 1 1 Try.underlying57 hj hy0 hy1 hy2 rfl (by omega) _ _ _ (by rfl) ((HOx.out.alloc _).drew) ⟨wx.heap.size, 0, none⟩ 2 2 [.int .u8 (hexD (s[k].toNat / 16) : Nat), .int .u8 (hexD (s[k].toNat % 16) : Nat)] (by rfl) (by rfl) (cells_new _ _ _ _ _ (by simp) rfl) (by simp [Value.oneCell']) (by omega) (by unfold maxLen; omega) (by omega) (by simp; omega) (wx.heap.size + 1) (by simp) ?_; intro gg cap w2 hown1 hgrow hat hlt2))
        all_goals
          have HB2 := Lib.hid (below_own ((HBx.out.alloc hszx _).drew) ((HOx.out.alloc _).drew) (by simp; omega) hgrow)
          have HO2 := Lib.hid hown1
          clear hown1 hgrow hat
          go_wp2
          go_roundw
          case rel =>
            refine ⟨k + 1, some ⟨gg, 0, none⟩, cap, by omega, by go_num, by rw [HEL.out], ?_, HB2.out⟩
            rw [HE.out, HEL.out]
            exact HO2.out
          case measure => simp [intOf]; omega
      · have hT0 : T = [] := List.eq_nil_of_length_eq_zero (by have := HTN.out; have := HL.out; omega)
        have HE : Hid (byteVals (text (s.data.toList.take (k + 1))) = byteVals T ++ [.int .u8 (hexD (s[k].toNat / 16) : Nat), .int .u8 (hexD (s[k].toNat % 16) : Nat)]) := by
          rw [HTS.out, if_pos hT0, hT0, List.nil_append, HPR.out]; rfl
        have HEL := Lib.hid (show (text (s.data.toList.take (k + 1))).length = L + 2 by rw [HTS.out, if_pos hT0, HL.out, hT0]; simp)
        clear hT0 HTS HPR
        go_wp2_with fail
        go_region_held3 (fun _ => True) (first | trivial) (first
          | (go_at_call 34; refine (digit_z _ _ (by omega) (by omega)).mono ?_; rintro e w' ⟨rfl, rfl⟩)
          | (refine step_append_lies _ (by rfl) (.tmp 18) (.tmp 29) 57 (by rfl) w.heap.size 5 j0 (.int .u8 0) 1 1 Try.underlying57 hj hy0 hy1 hy2 rfl (by omega) _ _ _ (by rfl) ((HO.out.alloc _).drew) ⟨wr.heap.size, 0, none⟩ 2 2 [.int .u8 (hexD (s[k].toNat / 16) : Nat), .int .u8 (hexD (s[k].toNat % 16) : Nat)] (by rfl) (by rfl) (cells_new _ _ _ _ _ (by simp) rfl) (by simp [Value.oneCell']) (by omega) (by unfold maxLen; omega) (by omega) (by simp; omega) (wr.heap.size + 1) (by simp) ?_; intro gg cap w2 hown1 hgrow hat hlt2))
        all_goals
          have HB2 := Lib.hid (below_own ((HB.out.alloc hsz _).drew) ((HO.out.alloc _).drew) (by simp; omega) hgrow)
          have HO2 := Lib.hid hown1
          clear hown1 hgrow hat
          go_wp2
          go_roundw
          case rel =>
            refine ⟨k + 1, some ⟨gg, 0, none⟩, cap, by omega, by go_num, by rw [HEL.out], ?_, HB2.out⟩
            rw [HE.out, HEL.out]
            exact HO2.out
          case measure => simp [intOf]; omega
    · obtain rfl : k = s.size := by omega
      have hcv := own_back (P := Try.prog) (src := 57) (dst := 9) HO.out Try.underlying57 Try.underlying5 Try.underlying9
      rw [List.take_of_length_le (by rw [size_list]; omega)] at hcv ⊢
      clear HO
      go_wp2
      go_ret
      exact ⟨by rw [← HS.out]; rfl, HB.out⟩
end Go.Proofs.Ytkhaoclpomamlaa.Mc
