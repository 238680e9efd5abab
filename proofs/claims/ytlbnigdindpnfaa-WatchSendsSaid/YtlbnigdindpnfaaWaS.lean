/-
  The walk of WatchSends.
-/
import Derived.Test.YtlbnigdindpnfaaWaJ
namespace Go.Proofs.Ytlbnigdindpnfaa.Wa
open Go.RowKit Go.Proofs.Ytlbnigdindpnfaa.Bt Go.Proofs.Ytlbnigdindpnfaa.Mm Go.Proofs.Ytlbnigdindpnfaa.Fl Go.Proofs.Ytlbnigdindpnfaa.Lw Go.Proofs.Ytlbnigdindpnfaa.Tg Go.Proofs.Ytlbnigdindpnfaa.Cc

theorem ceil_hit {n k : Nat} (hn : 0 < n) (h : k % n = 0) : (k + n - 1) / n = k / n ∧ n * (k / n) = k := by
  have e := Nat.div_add_mod k n
  rw [h, Nat.add_zero] at e
  refine ⟨?_, e⟩
  rw [show k + n - 1 = (n - 1) + n * (k / n) by omega, Nat.add_mul_div_left _ _ hn, Nat.div_eq_of_lt (by omega), Nat.zero_add]
theorem ceil_miss {n k : Nat} (hn : 0 < n) (h : k % n ≠ 0) : (k + n - 1) / n = k / n + 1 ∧ k < n * (k / n + 1) := by
  have e := Nat.div_add_mod k n
  have hl := Nat.mod_lt k hn
  rw [Nat.mul_add, Nat.mul_one]
  refine ⟨?_, by omega⟩
  rw [show k + n - 1 = (k % n - 1) + n * (k / n + 1) by rw [Nat.mul_add, Nat.mul_one]; omega, Nat.add_mul_div_left _ _ hn, Nat.div_eq_of_lt (by omega), Nat.zero_add]
theorem ceil_next {n k : Nat} (hn : 0 < n) : (k + 1 + n - 1) / n = k / n + 1 := by
  rw [show k + 1 + n - 1 = k + n by omega, Nat.add_div_right _ hn]
theorem le_of_ceil {n k : Nat} (hn : 0 < n) : (k + n - 1) / n ≤ k := by
  rcases Nat.eq_zero_or_pos k with rfl | hk
  · rw [Nat.zero_add, Nat.div_eq_of_lt (by omega)]; exact Nat.le_refl _
  · refine (Nat.div_le_iff_le_mul_add_pred hn).2 ?_
    have : k ≤ n * k := Nat.le_mul_of_pos_left k hn
    omega

set_option linter.unusedVariables false
set_option maxRecDepth 100000 in
set_option maxHeartbeats 4000000 in
theorem sends_walk (q tk : Nat) (w : World) (_hq : q < 256) (htk : tk < 65536) :
    Calls Try.prog 5 #[.int .u8 (q : Int), .int .u16 (tk : Int)] w (Law1 w) := by
  obtain ⟨nm, hnm⟩ : ∃ nm : ByteArray, (⟨(nameC [120]).toArray⟩ : ByteArray) = nm := ⟨_, rfl⟩
  have hng : nm.data.toList.length = 48 := by rw [← hnm, data_list, length_name]
  have HNM := Lib.hid hnm
  obtain ⟨r, hr⟩ : ∃ r, r = q % 50 := ⟨_, rfl⟩
  obtain ⟨n, hN⟩ : ∃ n : Nat, n = r + 1 := ⟨_, rfl⟩
  have v0 : (q : Int).tmod 50 = (r : Int) := by rw [hr]; rfl
  have v1 : IntKind.u8.wrap (r : Int) = (r : Int) := by rw [IntKind.wrap_u8]; omega
  have v2 : IntKind.i64.wrap (r : Int) = (r : Int) := by rw [IntKind.wrap_i64]; omega
  have v3 : IntKind.i64.wrap ((r : Int) + 1) = (n : Int) := by rw [IntKind.wrap_i64]; omega
  have hn : 1 ≤ n ∧ n ≤ 50 := by omega
  obtain ⟨G, hG⟩ : ∃ G, G = tk % 400 := ⟨_, rfl⟩
  have u0 : (tk : Int).tmod 400 = (G : Int) := by rw [hG]; rfl
  have u1 : IntKind.u16.wrap (G : Int) = (G : Int) := by rw [IntKind.wrap_u16]; omega
  have u2 : IntKind.i64.wrap (G : Int) = (G : Int) := by rw [IntKind.wrap_i64]; omega
  have hG2 : G < 400 := by omega
  clear hr hN hnm hG
  obtain ⟨bs, hc, _⟩ := closeC_good (lo := false) (p := 4) (c := 0) (e := 1) (l := 3) (g := nm.data.toList) (by omega) (by omega) (by omega) hng
  obtain ⟨bt, hd, _⟩ := closeC_good (lo := false) (p := 4) (c := 0) (e := 2) (l := 3) (g := nm.data.toList) (by omega) (by omega) (by omega) hng
  have HNA := Lib.hid (fun w1 => new_ok 3 1 4 nm n 10 w1 hc rfl (by unfold okI; omega) (by unfold okN; omega) (by rw [← size_list]; exact hng))
  have HNB := Lib.hid (fun w1 => new_ok 3 2 4 nm n 10 w1 hd rfl (by unfold okI; omega) (by unfold okN; omega) (by rw [← size_list]; exact hng))
  have HG := Lib.hid hng
  clear hng hc hd
  go_enter Try.func5, Try.ntmps5
  go_wp2_with fail
  refine (name_at ⟨#[120]⟩ w HNM.out).mono ?_
  rintro x w1 ⟨rfl, hb⟩
  have L1 := Lib.hid hb; clear hb
  go_wp2_with fail
  refine (HNA.out w1).mono ?_
  rintro x w2 ⟨rfl, hb⟩
  have L2 := Lib.hid (L1.out.trans (hb.mono L1.out.size)); clear hb
  go_upto_region 3 with (fail)
  obtain ⟨w3, hw3, b3, l3⟩ : ∃ w3 : World, w3 = w2.alloc (.cells #[.int .u8 3, .int .u16 1, .int .u8 4, .string nm, .int .i64 (n : Nat), .int .i64 10, .int .i64 10, .int .u64 0, .bool false, .bool false] 25) ∧ Blk w3 w2.heap.size 25 #[.int .u8 3, .int .u16 1, .int .u8 4, .string nm, .int .i64 (n : Nat), .int .i64 10, .int .i64 10, .int .u64 0, .bool false, .bool false] ∧ Below w.heap.size w w3 := ⟨_, rfl, Blk.fresh _ _ _, L2.out.alloc L2.out.size _⟩
  rw [← hw3]
  have KA := Lib.hid b3
  have L3 := Lib.hid l3
  have hwa : w.heap.size ≤ w2.heap.size := L2.out.size
  generalize w2.heap.size = a at KA hwa ⊢
  clear hw3 b3 l3 L1 L2
  go_wp2_with fail
  refine (name_at ⟨#[120]⟩ w3 HNM.out).mono ?_
  rintro x w4 ⟨rfl, hb⟩
  have KA4 := Lib.hid (KA.out.below hb KA.out.lt)
  have L4 := Lib.hid (L3.out.trans (hb.mono L3.out.size)); clear hb KA L3
  go_wp2_with fail
  refine (HNB.out w4).mono ?_
  rintro x w5 ⟨rfl, hb⟩
  have KA5 := Lib.hid (KA4.out.below hb KA4.out.lt)
  have L5 := Lib.hid (L4.out.trans (hb.mono L4.out.size)); clear hb KA4 L4
  go_upto_region 4 with (fail)
  obtain ⟨w6, hw6, b6, b6', l6⟩ : ∃ w6 : World, w6 = w5.alloc (.cells #[.int .u8 3, .int .u16 2, .int .u8 4, .string nm, .int .i64 (n : Nat), .int .i64 10, .int .i64 10, .int .u64 0, .bool false, .bool false] 25) ∧ Blk w6 a 25 #[.int .u8 3, .int .u16 1, .int .u8 4, .string nm, .int .i64 (n : Nat), .int .i64 10, .int .i64 10, .int .u64 0, .bool false, .bool false] ∧ Blk w6 w5.heap.size 25 #[.int .u8 3, .int .u16 2, .int .u8 4, .string nm, .int .i64 (n : Nat), .int .i64 10, .int .i64 10, .int .u64 0, .bool false, .bool false] ∧ Below w.heap.size w w6 := ⟨_, rfl, KA5.out.alloc _, Blk.fresh _ _ _, L5.out.alloc L5.out.size _⟩
  rw [← hw6]
  have KA := Lib.hid b6
  have KB := Lib.hid b6'
  have L6 := Lib.hid l6
  have hab : a < w5.heap.size := KA5.out.lt
  generalize w5.heap.size = b at KB hab ⊢
  clear hw6 b6 b6' l6 KA5 L5 HNA HNB
  go_wp2_with fail
  go_loopw [44] (fun i wr => ∃ (k sn : Nat) (lo : Bool), k ≤ G ∧ i = .int .i64 k ∧ sn = (k + n - 1) / n ∧ Blk wr a 25 (wtC 3 1 4 nm n 10 ((10 + n * sn : Nat) : Int) sn lo false) ∧ Blk wr b 25 (wtC 3 2 4 nm n 10 10 0 false false) ∧ Below w.heap.size w wr) (fun i _ => G - (intOf i).toNat)
  case atStart => exact ⟨0, 0, false, Nat.zero_le _, rfl, by rw [Nat.zero_add, Nat.div_eq_of_lt (by omega)], KA.out, KB.out, L6.out⟩
  case round =>
    clear KA KB L6
    obtain ⟨k, sn, lo, hk, rfl, hsn, ha, hbb, hbl⟩ := hrel
    have KA := Lib.hid ha
    have KB := Lib.hid hbb
    have L := Lib.hid hbl
    clear ha hbb hbl
    by_cases hlt : k < G
    · have hk2 : 0 ≤ (k : Int) ∧ (k : Int) < (G : Int) := by omega
      have hlo : (lo == lo) = true := by simp
      have hsk : sn ≤ k := by rw [hsn]; exact le_of_ceil (by omega)
      have m0 : (n : Int) ≠ 0 := by omega
      have vY : IntKind.i64.wrap (10 + (k : Int)) = ((10 + k : Nat) : Int) := by rw [IntKind.wrap_i64]; omega
      obtain ⟨Y, hY⟩ : ∃ Y : Nat, Y = 10 + k := ⟨_, rfl⟩
      rw [← hY] at vY
      obtain ⟨bs, hc, hcl⟩ := closeC_good (lo := lo) (p := 4) (c := sn % 4294967296) (e := 1) (l := 3) (g := nm.data.toList) (by omega) (by omega) (by omega) HG.out
      have hop := open_closed hc (show sn % 4294967296 < 4294967296 by omega)
      have hsm : sn % 4294967296 = sn := Nat.mod_eq_of_lt (by omega)
      obtain ⟨bb, hbb⟩ : ∃ bb : ByteArray, (⟨bs.toArray⟩ : ByteArray) = bb := ⟨_, rfl⟩
      have hz : bb.size = 75 := by rw [← hbb, size_mk, hcl]
      have hop2 : openC bb.data.toList 3 = (⟨lo, 4, sn, 1, nm.data.toList⟩, 0) := by rw [← hbb, data_list, hop, hsm]
      have HM := Lib.hid (fun w1 => message_at 3 1 4 nm n 10 ((10 + n * sn : Nat) : Int) sn lo false w1 hc hbb)
      obtain ⟨NX, hNX⟩ : ∃ NX : Nat, NX = 10 + n * sn := ⟨_, rfl⟩
      rw [← hNX] at KA HM
      have HC := Lib.hid KA
      clear hop hc hcl hbb hsm
      by_cases hmod : k % n = 0
      · obtain ⟨hc1, hc2⟩ := ceil_hit (by omega) hmod
        rw [← hsn] at hc1
        have hnk : n * sn = k := by rw [hc1]; exact hc2
        have t1 : (k : Int).tmod (n : Int) = 0 := by rw [show (k : Int).tmod (n : Int) = ((k % n : Nat) : Int) from rfl, hmod]; rfl
        have t2 : (k : Int).tdiv (n : Int) = (sn : Int) := by rw [show (k : Int).tdiv (n : Int) = ((k / n : Nat) : Int) from rfl, hc1]
        have t3 : IntKind.i64.wrap (sn : Int) = (sn : Int) := by rw [IntKind.wrap_i64]; omega
        obtain ⟨Z, hZ⟩ : ∃ Z, Z = Y + n := ⟨_, rfl⟩
        obtain ⟨S1, hS1⟩ : ∃ S1, S1 = sn + 1 := ⟨_, rfl⟩
        obtain ⟨lo', hlo'⟩ : ∃ lo', lo' = (lo || decide (7 * (n : Int) < 2 * ((Y : Int) - 10))) := ⟨_, rfl⟩
        have HT := Lib.hid (fun w1 => tick_any (nx' := (Z : Int)) (sn' := S1) (lo' := lo') 3 1 4 nm n 10 (NX : Int) (Y : Int) sn lo false bb 0 w1 HM.out (by omega) (by omega) (by omega) (by omega) (by rw [if_pos (by omega)]; exact ⟨by omega, hS1, rfl⟩) hlo')
        have HO := Lib.hid (show ∀ w1, Calls Try.prog 14 #[.string bb, .int .u8 3] w1 fun x w' => x = .returned (.tuple #[cmV lo 4 sn 1 nm, .int .i64 0]) ∧ Below w1.heap.size w1 w' from fun w1 => Cc.open_at bb 3 w1 hop2 (by rw [hz]; decide))
        have HHB := Lib.hid (fun w1 => hear_ok 3 2 4 nm n 10 10 (Y : Int) 0 false false bb w1 hop2 rfl (by rw [hz]; decide) rfl rfl (by decide) rfl)
        have HHA := Lib.hid (fun w1 => hear_name 3 1 4 nm n 10 (NX : Int) (Y : Int) sn lo false bb w1 hop2 rfl (by rw [hz]; decide) rfl rfl rfl)
        have x1 : (bb.toList == (⟨#[]⟩ : ByteArray).toList) = false := by rw [Go.ByteArray.toList_eq, Go.ByteArray.toList_eq]; exact beq_eq_false_iff_ne.2 (fun e => by have := congrArg List.length e; rw [size_list, hz] at this; simp at this)
        have hs1 : S1 = (k + 1 + n - 1) / n := by rw [hS1, ceil_next (by omega), hc1]
        have hx1 : Z = 10 + n * S1 := by rw [hS1, Nat.mul_add, Nat.mul_one]; omega
        have HS1 := Lib.hid hs1
        have HX1 := Lib.hid hx1
        clear hs1 hx1 hc1 hc2 hnk hlo' hop2 hz hsn hNX hY hmod HC hZ hS1
        have x2 : (bb.toList != (⟨#[]⟩ : ByteArray).toList) = true := by rw [bne, x1]; rfl
        have x3 : bb.toList.isEmpty = false := by cases h : bb.toList with | nil => rw [h] at x1; simp [Go.ByteArray.toList_eq] at x1 | cons _ _ => rfl
        have x4 : bb.data.toList.isEmpty = false := by rw [← Go.ByteArray.toList_eq]; exact x3
        have g1 : ((sn : Int) != (sn : Int)) = false := by simp
        have g2 : (lo != lo) = false := by simp
        go_upto_region 9 with (fail)
        obtain ⟨c0, c1, c2, c3, c4, c5, c6, c7, c8, c9, _⟩ := Rw10.row KA.out
        go_wp2_with fail
        refine (HT.out wr).mono ?_
        rintro x w7 ⟨rfl, hb⟩
        have KA7 := Lib.hid (KA.out.below hb KA.out.lt)
        have KB7 := Lib.hid (KB.out.below hb KB.out.lt)
        have L7 := Lib.hid (L.out.trans (hb.mono L.out.size))
        clear hb KA KB L c0 c1 c2 c3 c4 c5 c6 c7 c8 c9
        go_upto_region 10 with (fail)
        obtain ⟨w8, hw8, b1, b2, b3, l8⟩ : ∃ w8 : World, w8 = w7.alloc (.cells #[.int .u8 3, .int .u16 1, .int .u8 4, .string nm, .int .i64 (n : Nat), .int .i64 10, .int .i64 (Z : Nat), .int .u64 (S1 : Nat), .bool lo', .bool false] 25) ∧ Blk w8 a 25 (wtC 3 1 4 nm n 10 (NX : Int) sn lo false) ∧ Blk w8 b 25 (wtC 3 2 4 nm n 10 10 0 false false) ∧ Blk w8 w7.heap.size 25 (wtC 3 1 4 nm n 10 (Z : Int) S1 lo' false) ∧ Below w.heap.size w w8 := ⟨_, rfl, KA7.out.alloc _, KB7.out.alloc _, Blk.fresh _ _ _, L7.out.alloc L7.out.size _⟩
        rw [← hw8]
        have KA := Lib.hid b1
        have KB := Lib.hid b2
        have KC := Lib.hid b3
        have L := Lib.hid l8
        have hbc : b < w7.heap.size := KB7.out.lt
        obtain ⟨C, hC⟩ : ∃ C, C = w7.heap.size := ⟨_, rfl⟩
        rw [← hC] at KC hbc ⊢
        clear hw8 b1 b2 b3 l8 hC KA7 KB7 L7
        go_wp2_with fail
        refine (HO.out w8).mono ?_
        rintro x w9 ⟨rfl, hb⟩
        have KA9 := Lib.hid (KA.out.below hb KA.out.lt)
        have KB9 := Lib.hid (KB.out.below hb KB.out.lt)
        have KC9 := Lib.hid (KC.out.below hb KC.out.lt)
        have L9 := Lib.hid (L.out.trans (hb.mono L.out.size))
        clear hb KA KB KC L
        go_upto_region 14 with (fail)
        obtain ⟨wA, hwA, b1, b2, b3, b4, lA⟩ : ∃ wA : World, wA = w9.alloc (.cells #[.bool lo, .int .u8 4, .int .u32 (sn : Nat), .int .u16 1, .string nm] 48) ∧ Blk wA a 25 (wtC 3 1 4 nm n 10 (NX : Int) sn lo false) ∧ Blk wA b 25 (wtC 3 2 4 nm n 10 10 0 false false) ∧ Blk wA C 25 (wtC 3 1 4 nm n 10 (Z : Int) S1 lo' false) ∧ Blk wA w9.heap.size 48 #[.bool lo, .int .u8 4, .int .u32 (sn : Nat), .int .u16 1, .string nm] ∧ Below w.heap.size w wA := ⟨_, rfl, KA9.out.alloc _, KB9.out.alloc _, KC9.out.alloc _, Blk.fresh _ _ _, L9.out.alloc L9.out.size _⟩
        rw [← hwA]
        have KA := Lib.hid b1
        have KB := Lib.hid b2
        have KC := Lib.hid b3
        have KM := Lib.hid b4
        have L := Lib.hid lA
        obtain ⟨m, hm⟩ : ∃ m, m = w9.heap.size := ⟨_, rfl⟩
        rw [← hm] at KM ⊢
        clear hwA b1 b2 b3 b4 lA hm KA9 KB9 KC9 L9
        obtain ⟨c0, c1, c2, c3, c4, c5, c6, c7, c8, c9, _⟩ := Rw10.row KB.out
        go_wp2_with fail
        refine (HHB.out wA).mono ?_
        rintro x wB ⟨rfl, hb⟩
        have KA2 := Lib.hid (KA.out.below hb KA.out.lt)
        have KB2 := Lib.hid (KB.out.below hb KB.out.lt)
        have KC2 := Lib.hid (KC.out.below hb KC.out.lt)
        have KM2 := Lib.hid (KM.out.below hb KM.out.lt)
        have L2 := Lib.hid (L.out.trans (hb.mono L.out.size))
        clear hb KA KB KC KM L c0 c1 c2 c3 c4 c5 c6 c7 c8 c9
        go_upto_region 15 with (fail)
        obtain ⟨wC, hwC, b1, b2, b3, b4, lC⟩ : ∃ wC : World, wC = wB.alloc (.cells #[.int .u8 3, .int .u16 2, .int .u8 4, .string nm, .int .i64 (n : Nat), .int .i64 (Y : Nat), .int .i64 10, .int .u64 0, .bool false, .bool lo] 25) ∧ Blk wC a 25 (wtC 3 1 4 nm n 10 (NX : Int) sn lo false) ∧ Blk wC b 25 (wtC 3 2 4 nm n 10 10 0 false false) ∧ Blk wC C 25 (wtC 3 1 4 nm n 10 (Z : Int) S1 lo' false) ∧ Blk wC m 48 #[.bool lo, .int .u8 4, .int .u32 (sn : Nat), .int .u16 1, .string nm] ∧ Below w.heap.size w wC := ⟨_, rfl, KA2.out.alloc _, KB2.out.alloc _, KC2.out.alloc _, KM2.out.alloc _, L2.out.alloc L2.out.size _⟩
        rw [← hwC]
        have KA := Lib.hid b1
        have KB := Lib.hid b2
        have KC := Lib.hid b3
        have KM := Lib.hid b4
        have L := Lib.hid lC
        clear hwC b1 b2 b3 b4 lC KA2 KB2 KC2 KM2 L2
        obtain ⟨c0, c1, c2, c3, c4, c5, c6, c7, c8, c9, _⟩ := Rw10.row KA.out
        go_wp2_with fail
        refine (HHA.out wC).mono ?_
        rintro x wD ⟨rfl, hb⟩
        have KA2 := Lib.hid (KA.out.below hb KA.out.lt)
        have KB2 := Lib.hid (KB.out.below hb KB.out.lt)
        have KC2 := Lib.hid (KC.out.below hb KC.out.lt)
        have KM2 := Lib.hid (KM.out.below hb KM.out.lt)
        have L2 := Lib.hid (L.out.trans (hb.mono L.out.size))
        clear hb KA KB KC KM L c0 c1 c2 c3 c4 c5 c6 c7 c8 c9
        go_upto_region 16 with (fail)
        obtain ⟨wE, hwE, b1, b2, b3, b4, lE⟩ : ∃ wE : World, wE = wD.alloc (.cells #[.int .u8 3, .int .u16 1, .int .u8 4, .string nm, .int .i64 (n : Nat), .int .i64 10, .int .i64 (NX : Nat), .int .u64 (sn : Nat), .bool lo, .bool false] 25) ∧ Blk wE a 25 (wtC 3 1 4 nm n 10 (NX : Int) sn lo false) ∧ Blk wE b 25 (wtC 3 2 4 nm n 10 10 0 false false) ∧ Blk wE C 25 (wtC 3 1 4 nm n 10 (Z : Int) S1 lo' false) ∧ Blk wE m 48 #[.bool lo, .int .u8 4, .int .u32 (sn : Nat), .int .u16 1, .string nm] ∧ Below w.heap.size w wE := ⟨_, rfl, KA2.out.alloc _, KB2.out.alloc _, KC2.out.alloc _, KM2.out.alloc _, L2.out.alloc L2.out.size _⟩
        rw [← hwE]
        have KA := Lib.hid b1
        have KB := Lib.hid b2
        have KC := Lib.hid b3
        have KM := Lib.hid b4
        have L := Lib.hid lE
        clear hwE b1 b2 b3 b4 lE KA2 KB2 KC2 KM2 L2
        obtain ⟨c0, c1, c2, c3, c4, c5, c6, c7, c8, c9, _⟩ := Rw10.row KA.out
        obtain ⟨d0, d1, d2, d3, d4, _⟩ := Rw5.row KM.out
        go_quiet (fail)
        obtain ⟨wF, hwF, b1, b2, b3, lF⟩ : ∃ wF : World, wF = wE.drewN nq ∧ Blk wF a 25 (wtC 3 1 4 nm n 10 (NX : Int) sn lo false) ∧ Blk wF b 25 (wtC 3 2 4 nm n 10 10 0 false false) ∧ Blk wF C 25 (wtC 3 1 4 nm n 10 (Z : Int) S1 lo' false) ∧ Below w.heap.size w wF := ⟨_, rfl, KA.out.drewN nq, KB.out.drewN nq, KC.out.drewN nq, Mm.below_drewN L.out nq⟩
        rw [← hwF]
        have KA2 := Lib.hid b1
        have KB2 := Lib.hid b2
        have KC2 := Lib.hid b3
        have L2 := Lib.hid lF
        clear hwF b1 b2 b3 lF KA KB KC KM L c0 c1 c2 c3 c4 c5 c6 c7 c8 c9 d0 d1 d2 d3 d4
        obtain ⟨c0, c1, c2, c3, c4, c5, c6, c7, c8, c9, _⟩ := Rw10.row KC2.out
        obtain ⟨_, _, _, _, _, _, _, _, _, _, z0, z1, z2, z3, z4, z5, z6, z7, z8, z9⟩ := Rw10.row KA2.out
        have nba : b ≠ a := by omega
        have KA3 := Lib.hid (Rw10.blk_set KA2.out (.int .u8 3) (.int .u16 1) (.int .u8 4) (.string nm) (.int .i64 (n : Nat)) (.int .i64 10) (.int .i64 (Z : Nat)) (.int .u64 (S1 : Nat)) (.bool lo') (.bool false))
        have KB3 := Lib.hid (Rw10.far KB2.out nba (.int .u8 3) (.int .u16 1) (.int .u8 4) (.string nm) (.int .i64 (n : Nat)) (.int .i64 10) (.int .i64 (Z : Nat)) (.int .u64 (S1 : Nat)) (.bool lo') (.bool false))
        have L3 := Lib.hid (Rw10.below_set L2.out hwa (.int .u8 3) (.int .u16 1) (.int .u8 4) (.string nm) (.int .i64 (n : Nat)) (.int .i64 10) (.int .i64 (Z : Nat)) (.int .u64 (S1 : Nat)) (.bool lo') (.bool false))
        go_wp2
        exact ⟨⟨k + 1, S1, lo', by omega, by go_num, HS1.out, by rw [← HX1.out]; exact KA3.out, KB3.out, L3.out⟩, by simp [intOf]; omega⟩
      · obtain ⟨hc1, hc2⟩ := ceil_miss (by omega) hmod
        rw [← hsn] at hc1
        rw [← hc1] at hc2
        obtain ⟨R, hR⟩ : ∃ R, R = k % n := ⟨_, rfl⟩
        have hRn : R < n := by rw [hR]; exact Nat.mod_lt k (by omega)
        have t1 : (k : Int).tmod (n : Int) = (R : Int) := by rw [hR]; rfl
        have t3 : IntKind.i64.wrap (R : Int) = (R : Int) := by rw [IntKind.wrap_i64]; omega
        have t4 : ((R : Int) == 0) = false := beq_eq_false_iff_ne.2 (by omega)
        obtain ⟨lo', hlo'⟩ : ∃ lo', lo' = (lo || decide (7 * (n : Int) < 2 * ((Y : Int) - 10))) := ⟨_, rfl⟩
        have HT := Lib.hid (fun w1 => tick_any (nx' := (NX : Int)) (sn' := sn) (lo' := lo') (b' := ⟨#[]⟩) 3 1 4 nm n 10 (NX : Int) (Y : Int) sn lo false bb 0 w1 HM.out (by omega) (by omega) (by omega) (by omega) (by rw [if_neg (by omega)]; exact ⟨rfl, rfl, rfl⟩) hlo')
        have hs1 : sn = (k + 1 + n - 1) / n := by rw [ceil_next (by omega), hc1]
        have HS1 := Lib.hid hs1
        have HX1 := Lib.hid hNX
        clear hs1 hc1 hc2 hlo' hop2 hz hsn hNX hY hmod HC hR
        go_upto_region 9 with (fail)
        obtain ⟨c0, c1, c2, c3, c4, c5, c6, c7, c8, c9, _⟩ := Rw10.row KA.out
        go_wp2_with fail
        refine (HT.out wr).mono ?_
        rintro x w7 ⟨rfl, hb⟩
        have KA7 := Lib.hid (KA.out.below hb KA.out.lt)
        have KB7 := Lib.hid (KB.out.below hb KB.out.lt)
        have L7 := Lib.hid (L.out.trans (hb.mono L.out.size))
        clear hb KA KB L c0 c1 c2 c3 c4 c5 c6 c7 c8 c9
        go_upto_region 10 with (fail)
        obtain ⟨w8, hw8, b1, b2, b3, l8⟩ : ∃ w8 : World, w8 = w7.alloc (.cells #[.int .u8 3, .int .u16 1, .int .u8 4, .string nm, .int .i64 (n : Nat), .int .i64 10, .int .i64 (NX : Nat), .int .u64 (sn : Nat), .bool lo', .bool false] 25) ∧ Blk w8 a 25 (wtC 3 1 4 nm n 10 (NX : Int) sn lo false) ∧ Blk w8 b 25 (wtC 3 2 4 nm n 10 10 0 false false) ∧ Blk w8 w7.heap.size 25 (wtC 3 1 4 nm n 10 (NX : Int) sn lo' false) ∧ Below w.heap.size w w8 := ⟨_, rfl, KA7.out.alloc _, KB7.out.alloc _, Blk.fresh _ _ _, L7.out.alloc L7.out.size _⟩
        rw [← hw8]
        have KA2 := Lib.hid b1
        have KB2 := Lib.hid b2
        have KC2 := Lib.hid b3
        have L2 := Lib.hid l8
        have hbc : b < w7.heap.size := KB7.out.lt
        obtain ⟨C, hC⟩ : ∃ C, C = w7.heap.size := ⟨_, rfl⟩
        rw [← hC] at KC2 hbc ⊢
        clear hw8 b1 b2 b3 l8 hC KA7 KB7 L7
        obtain ⟨c0, c1, c2, c3, c4, c5, c6, c7, c8, c9, _⟩ := Rw10.row KC2.out
        obtain ⟨_, _, _, _, _, _, _, _, _, _, z0, z1, z2, z3, z4, z5, z6, z7, z8, z9⟩ := Rw10.row KA2.out
        have nba : b ≠ a := by omega
        have KA3 := Lib.hid (Rw10.blk_set KA2.out (.int .u8 3) (.int .u16 1) (.int .u8 4) (.string nm) (.int .i64 (n : Nat)) (.int .i64 10) (.int .i64 (NX : Nat)) (.int .u64 (sn : Nat)) (.bool lo') (.bool false))
        have KB3 := Lib.hid (Rw10.far KB2.out nba (.int .u8 3) (.int .u16 1) (.int .u8 4) (.string nm) (.int .i64 (n : Nat)) (.int .i64 10) (.int .i64 (NX : Nat)) (.int .u64 (sn : Nat)) (.bool lo') (.bool false))
        have L3 := Lib.hid (Rw10.below_set L2.out hwa (.int .u8 3) (.int .u16 1) (.int .u8 4) (.string nm) (.int .i64 (n : Nat)) (.int .i64 10) (.int .i64 (NX : Nat)) (.int .u64 (sn : Nat)) (.bool lo') (.bool false))
        go_wp2
        exact ⟨⟨k + 1, sn, lo', by omega, by go_num, HS1.out, by rw [← HX1.out]; exact KA3.out, KB3.out, L3.out⟩, by simp [intOf]; omega⟩
    · go_wp2_with fail
      refine (awake9 wr).mono ?_
      rintro x w9 ⟨rfl, hb⟩
      have L9 := Lib.hid (L.out.trans (hb.mono L.out.size)); clear hb
      go_wp2
      go_ret
      exact ⟨rfl, L9.out⟩
end Go.Proofs.Ytlbnigdindpnfaa.Wa
