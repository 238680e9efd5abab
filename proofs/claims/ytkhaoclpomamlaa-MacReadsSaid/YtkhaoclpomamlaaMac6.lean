/-
  Contract: the document's String.
-/
import Derived.Test.YtkhaoclpomamlaaMac5
namespace Go.Proofs.Ytkhaoclpomamlaa.Mc
open Go.RowKit Go.Proofs.Ytkhaoclpomamlaa.Bt Go.Proofs.Ytkhaoclpomamlaa.Mm Go.Proofs.Ytkhaoclpomamlaa.Fl Go.Proofs.Ytkhaoclpomamlaa.Rf Go.Proofs.Ytkhaoclpomamlaa.Hx Go.Proofs.Ytkhaoclpomamlaa.Lw

/-- 'string([]byte{a, b})', the bytes just written out -/
theorem run_two {P : Program} (W : World) (src dst e : TypeId) (a b : Nat) (hs : P.underlying src = some (.slice e)) (he : P.underlying e = some (.int .u8)) (hd : P.underlying dst = some .string) :
    (convert src dst (.slice (some ⟨W.heap.size, 0, none⟩) 2 2)).run P (W.alloc (.cells #[.int .u8 (a : Int), .int .u8 (b : Int)] e)).drew = .ok (.string ⟨#[UInt8.ofNat a, UInt8.ofNat b]⟩) (W.alloc (.cells #[.int .u8 (a : Int), .int .u8 (b : Int)] e)).drew := by
  have hB := (Blk.fresh W e #[.int .u8 (a : Int), .int .u8 (b : Int)]).drew
  have hl := run_loadCells_list (P := P) (W.alloc (.cells #[.int .u8 (a : Int), .int .u8 (b : Int)] e)).drew ⟨W.heap.size, 0, none⟩ ([(a : Int), (b : Int)].map (Value.int .u8)) (fun j v hj => by
    rw [add_zero_block, hB.cell, ← hj]
    simp)
  rw [run_convert_bytes_string _ src dst e _ 2 2 hs he hd]
  rw [run_bytesToString _ _ 2 2 [(a : Int), (b : Int)] hl]
  rfl

set_option maxHeartbeats 1000000 in
theorem rstring_any (n : Nat) (w : World) (hn : n < 18446744073709551616) :
    Calls Try.prog 24 #[.int .u64 (n : Int)] w fun e w' => e = .returned (.string ⟨(text (bytesM n)).toArray⟩) ∧ Below w.heap.size w w' := by
  have hbl := length_bytesM_le n
  go_enter Try.func24, Try.ntmps24
  go_wp2_with fail
  refine (rbytes_any n w hn).mono ?_
  rintro e w1 ⟨rfl, hb1⟩
  have hs : (ByteArray.mk (bytesM n).toArray).data.toList = bytesM n := data_list _
  have hsz : (ByteArray.mk (bytesM n).toArray).size = (bytesM n).length := size_mk _
  generalize ByteArray.mk (bytesM n).toArray = s at *
  have hs6 : s.size ≤ 6 := by omega
  have HS := Lib.hid hs; clear hs hsz hbl
  have hz1 := hb1.size
  have HB1 := Lib.hid hb1; clear hb1
  go_wp2_with fail
  go_loopw [4, 5] (fun v i wr => ∃ (k : Nat) (t : ByteArray), k ≤ s.size ∧ i = .int .i64 k ∧ v = .string t ∧ t.data.toList = text (s.data.toList.take k) ∧ Below w.heap.size w wr) (fun _ i _ => s.size - (intOf i).toNat)
  case atStart => exact ⟨0, ⟨#[]⟩, Nat.zero_le _, rfl, rfl, rfl, HB1.out⟩
  case round =>
    obtain ⟨k, t, hk, rfl, rfl, ht, hb⟩ := hrel
    have hsz := hb.size
    have HB := Lib.hid hb; clear hb
    have HT := Lib.hid ht; clear ht
    by_cases hlt : k < s.size
    · have htn := length_text (s.data.toList.take k)
      rw [List.length_take, size_list, Nat.min_eq_left hk, ← HT.out, size_list] at htn
      have hts : text (s.data.toList.take (k + 1)) = textStep (text (s.data.toList.take k)) s[k] := by rw [take_snoc s k hlt, text_snoc]
      have hcb := UInt8.toNat_lt s[k]
      unfold textStep at hts
      rw [← HT.out] at hts
      have ht17 : t.size ≤ 17 := by omega
      have HTN := Lib.hid htn; clear htn
      have HTS := Lib.hid hts; clear hts
      have hx0 : (0 : Int) ≤ (s[k].toNat : Int) / 16 := by omega
      have hx1 : (s[k].toNat : Int) / 16 < 16 := by omega
      have hx2 : (0 : Int) ≤ (s[k].toNat : Int) % 16 := by omega
      have hx3 : (s[k].toNat : Int) % 16 < 16 := by omega
      have q0 : IntKind.i64.wrap (s[k].toNat : Int) = (s[k].toNat : Int) := IntWalk.i64_in _ (by omega)
      have q1 : IntKind.i64.wrap ((s[k].toNat : Int).tdiv 16) = (s[k].toNat : Int) / 16 := by rw [Int.tdiv_eq_ediv_of_nonneg (by omega)]; exact IntWalk.i64_in _ (by omega)
      have q2 : (s[k].toNat : Int).tmod 16 = (s[k].toNat : Int) % 16 := Int.tmod_eq_emod_of_nonneg (by omega)
      have q3 : IntKind.i64.wrap ((s[k].toNat : Int) / 16) = (s[k].toNat : Int) / 16 := IntWalk.i64_in _ (by omega)
      have Q3 := Lib.hid q3; clear q3
      have Q0 := Lib.hid q0; clear q0
      have Q1 := Lib.hid q1; clear q1
      have Q2 := Lib.hid q2; clear q2
      have e16 : ((s[k].toNat : Int) / 16).toNat = s[k].toNat / 16 := by omega
      have e17 : ((s[k].toNat : Int) % 16).toNat = s[k].toNat % 16 := by omega
      have E16 := Lib.hid e16; clear e16
      have E17 := Lib.hid e17; clear e17
      by_cases hk0 : 0 < k
      · have hT0 : ¬ t.data.toList = [] := by
          intro e
          have h1 := HTN.out
          have h2 := size_list t
          rw [e] at h2
          simp at h2
          omega
        have HT0 := Lib.hid hT0; clear hT0
        have hno : ¬ 9223372036854775807 < t.size + 1 := by omega
        have hno2 : ¬ 9223372036854775807 < t.size + 1 + 2 := by omega
        go_wp2_with fail
        have hcv := fun a b : Nat => run_two (P := Try.prog) wr 57 9 5 a b Try.underlying57 Try.underlying5 Try.underlying9
        have q0 := Q0.out
        have q1 := Q1.out
        have q2 := Q2.out
        have q3 := Q3.out
        go_region_with (go_at_call 35; refine (char_z _ _ (by assumption) (by assumption)).mono ?_; rintro e w' ⟨rfl, rfl⟩)
        all_goals
          clear q0 q1 q2 q3 hcv
          have HB2 := Lib.hid ((HB.out.alloc hsz (.cells #[.int .u8 (hexD ((s[k].toNat : Int) / 16).toNat : Nat), .int .u8 (hexD ((s[k].toNat : Int) % 16).toNat : Nat)] 5)).drew)
          go_wp2
          go_roundw
          case rel =>
            refine ⟨k + 1, _, by omega, by go_num, rfl, ?_, HB2.out⟩
            rw [HTS.out, if_neg HT0.out, ← E16.out, ← E17.out]
            simp
          case measure => simp [intOf]; omega
      · have hT0 : t.data.toList = [] := List.eq_nil_of_length_eq_zero (by rw [size_list]; have := HTN.out; omega)
        have HT0 := Lib.hid hT0; clear hT0
        have hno : ¬ 9223372036854775807 < t.size + 2 := by omega
        go_wp2_with fail
        have hcv := fun a b : Nat => run_two (P := Try.prog) wr 57 9 5 a b Try.underlying57 Try.underlying5 Try.underlying9
        have q0 := Q0.out
        have q1 := Q1.out
        have q2 := Q2.out
        have q3 := Q3.out
        go_region_with (go_at_call 35; refine (char_z _ _ (by assumption) (by assumption)).mono ?_; rintro e w' ⟨rfl, rfl⟩)
        all_goals
          clear q0 q1 q2 q3 hcv
          have HB2 := Lib.hid ((HB.out.alloc hsz (.cells #[.int .u8 (hexD ((s[k].toNat : Int) / 16).toNat : Nat), .int .u8 (hexD ((s[k].toNat : Int) % 16).toNat : Nat)] 5)).drew)
          go_wp2
          go_roundw
          case rel =>
            refine ⟨k + 1, _, by omega, by go_num, rfl, ?_, HB2.out⟩
            rw [HTS.out, if_pos HT0.out, ← E16.out, ← E17.out, list_app, HT0.out]
          case measure => simp [intOf]; omega
    · obtain rfl : k = s.size := by omega
      go_wp2
      go_ret
      refine ⟨?_, HB.out⟩
      have e : t = ⟨(text (bytesM n)).toArray⟩ := by
        apply ba_ext
        rw [HT.out, data_list, ← HS.out, List.take_of_length_le (by rw [size_list]; omega)]
      rw [← e]
      rfl
end Go.Proofs.Ytkhaoclpomamlaa.Mc
