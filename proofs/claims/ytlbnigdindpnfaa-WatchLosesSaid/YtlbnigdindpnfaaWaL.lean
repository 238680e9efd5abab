/-
  The walk of WatchLoses.
-/
import Derived.Test.YtlbnigdindpnfaaWaJ
import Derived.Test.YtlbnigdindpnfaaWaO
namespace Go.Proofs.Ytlbnigdindpnfaa.Wa
open Go.RowKit Go.Proofs.Ytlbnigdindpnfaa.Bt Go.Proofs.Ytlbnigdindpnfaa.Mm Go.Proofs.Ytlbnigdindpnfaa.Fl Go.Proofs.Ytlbnigdindpnfaa.Lw Go.Proofs.Ytlbnigdindpnfaa.Tg Go.Proofs.Ytlbnigdindpnfaa.Cc Go.Proofs.Ytlbnigdindpnfaa.Op

set_option linter.unusedVariables false
set_option maxRecDepth 100000 in
set_option maxHeartbeats 4000000 in
theorem loses_walk (q : Nat) (zs : List Nat) (A : Option Addr) (c : Nat) (w : World) (_hq : q < 256) (hm : zs.length ≤ maxLen) (hA : Rd w w.heap.size A (nums .u16 zs)) (hB : ∀ z ∈ zs, z < 65536) :
    Calls Try.prog 4 #[.int .u8 (q : Int), .slice A zs.length c] w (Law1 w) := by
  unfold maxLen at hm
  have HA := Lib.hid hA
  have HB := Lib.hid hB
  clear hA hB
  obtain ⟨nm, hnm⟩ : ∃ nm : ByteArray, (⟨(nameC [120]).toArray⟩ : ByteArray) = nm := ⟨_, rfl⟩
  have hng : nm.data.toList.length = 48 := by rw [← hnm, data_list, length_name]
  have HNM := Lib.hid hnm
  obtain ⟨r, hr⟩ : ∃ r, r = q % 50 := ⟨_, rfl⟩
  obtain ⟨N, hN⟩ : ∃ N : Int, N = (r : Int) + 1 := ⟨_, rfl⟩
  have v0 : (q : Int).tmod 50 = (r : Int) := by rw [hr]; rfl
  have v1 : IntKind.u8.wrap (r : Int) = (r : Int) := by rw [IntKind.wrap_u8]; omega
  have v2 : IntKind.i64.wrap (r : Int) = (r : Int) := by rw [IntKind.wrap_i64]; omega
  have v3 : IntKind.i64.wrap ((r : Int) + 1) = N := by rw [IntKind.wrap_i64]; omega
  have hn : 1 ≤ N ∧ N ≤ 50 := by omega
  clear hr hN hnm
  obtain ⟨bs, hc, _⟩ := closeC_good (lo := false) (p := 4) (c := 0) (e := 1) (l := 0) (g := nm.data.toList) (by omega) (by omega) (by omega) hng
  obtain ⟨bt, hd, _⟩ := closeC_good (lo := false) (p := 4) (c := 0) (e := 2) (l := 0) (g := nm.data.toList) (by omega) (by omega) (by omega) hng
  obtain ⟨bb, hbb⟩ : ∃ bb : ByteArray, (⟨bt.toArray⟩ : ByteArray) = bb := ⟨_, rfl⟩
  have ho : openC bb.data.toList 0 = (⟨false, 4, 0, 2, nm.data.toList⟩, 0) := by rw [← hbb, data_list]; exact open_closed hd (show 0 < 4294967296 by decide)
  have hz : bb.size ≤ maxLen := by rw [← hbb, size_mk, length_closed hd]; decide
  have HO := Lib.hid ho
  have HZ := Lib.hid hz
  have HNA := Lib.hid (fun w1 => new_ok 0 1 4 nm N 0 w1 hc rfl (by unfold okI; omega) (by unfold okN; omega) (by rw [← size_list]; exact hng))
  have HNB := Lib.hid (fun w1 => new_ok 0 2 4 nm N 0 w1 hd rfl (by unfold okI; omega) (by unfold okN; omega) (by rw [← size_list]; exact hng))
  have HMB := Lib.hid (fun w1 => message_at 0 2 4 nm N 0 0 0 false false w1 hd hbb)
  have HTB := Lib.hid (fun w1 => tick_any (nx' := N) (sn' := 1) (lo' := false) 0 2 4 nm N 0 0 0 0 false false bb 0 w1 HMB.out (by omega) (by omega) (by omega) (by omega) (by rw [if_pos (by omega)]; exact ⟨by omega, rfl, rfl⟩) (by rw [decide_eq_false (by omega)]; rfl))
  -- a watch that ticks; a watch that hears
  have HT := Lib.hid (show ∀ (nx : Int) (sn : Nat) (lo : Bool) (t u : Int), (0 ≤ t ∧ t ≤ 1000000) → (t ≤ u ∧ u ≤ 1000000) → sn ≤ 1000000 → ∃ (nx' : Int) (sn' : Nat) (b : ByteArray), sn' ≤ sn + 1 ∧ ∀ w, Calls Try.prog 11 #[wtV 0 1 4 nm N t nx sn lo false, .int .i64 u] w fun x w' => x = .returned (.tuple #[wtV 0 1 4 nm N t nx' sn' (lo || decide (7 * N < 2 * (u - t))) false, .string b]) ∧ Below w.heap.size w w' by
    intro nx sn lo t u ht hu hs
    obtain ⟨bs, hc, _⟩ := closeC_good (lo := lo) (p := 4) (c := sn % 4294967296) (e := 1) (l := 0) (g := nm.data.toList) (by omega) (by omega) (by omega) hng
    by_cases h1 : nx ≤ u
    · refine ⟨u + N, sn + 1, ⟨bs.toArray⟩, Nat.le_refl _, fun w => tick_any 0 1 4 nm N t nx u sn lo false _ 0 w (fun w1 => message_at 0 1 4 nm N t nx sn lo false w1 hc rfl) (by omega) (by omega) (by omega) (by omega) ?_ rfl⟩
      rw [if_pos h1]; exact ⟨rfl, rfl, rfl⟩
    · refine ⟨nx, sn, ⟨#[]⟩, by omega, fun w => tick_any 0 1 4 nm N t nx u sn lo false _ 0 w (fun w1 => message_at 0 1 4 nm N t nx sn lo false w1 hc rfl) (by omega) (by omega) (by omega) (by omega) ?_ rfl⟩
      rw [if_neg h1]; exact ⟨rfl, rfl, rfl⟩)
  have HH := Lib.hid (fun (t nx u : Int) (sn : Nat) (lo : Bool) (w : World) => hear_ok 0 1 4 nm N t nx u sn lo false bb w HO.out rfl HZ.out rfl rfl (by decide) rfl)
  clear hng hc hd hbb ho hz HMB
  go_enter Try.func4, Try.ntmps4
  go_wp2_with fail
  refine (name_at ⟨#[120]⟩ w HNM.out).mono ?_
  rintro x w1 ⟨rfl, hb⟩
  have L1 := Lib.hid hb; clear hb
  go_wp2_with fail
  refine (HNA.out w1).mono ?_
  rintro x w2 ⟨rfl, hb⟩
  have L2 := Lib.hid (L1.out.trans (hb.mono L1.out.size)); clear hb
  go_upto_region 3 with (fail)
  obtain ⟨w3, hw3, b3, l3⟩ : ∃ w3 : World, w3 = w2.alloc (.cells #[.int .u8 0, .int .u16 1, .int .u8 4, .string nm, .int .i64 N, .int .i64 0, .int .i64 0, .int .u64 0, .bool false, .bool false] 25) ∧ Blk w3 w2.heap.size 25 #[.int .u8 0, .int .u16 1, .int .u8 4, .string nm, .int .i64 N, .int .i64 0, .int .i64 0, .int .u64 0, .bool false, .bool false] ∧ Below w.heap.size w w3 := ⟨_, rfl, Blk.fresh _ _ _, L2.out.alloc L2.out.size _⟩
  rw [← hw3]
  have KA := Lib.hid b3
  have L3 := Lib.hid l3
  have hwa : w.heap.size ≤ w2.heap.size := L2.out.size
  generalize w2.heap.size = a at KA hwa ⊢
  clear hw3 b3 l3 L1 L2
  go_wp2_with fail
  refine (name_at ⟨#[120]⟩ w3 HNM.out).mono ?_
  rintro x w4 ⟨rfl, hb⟩
  have KA4 := Lib.hid (KA.out.below hb KA.out.lt)
  have L4 := Lib.hid (L3.out.trans (hb.mono L3.out.size)); clear hb KA L3
  go_wp2_with fail
  refine (HNB.out w4).mono ?_
  rintro x w5 ⟨rfl, hb⟩
  have KA5 := Lib.hid (KA4.out.below hb KA4.out.lt)
  have L5 := Lib.hid (L4.out.trans (hb.mono L4.out.size)); clear hb KA4 L4
  go_upto_region 4 with (fail)
  obtain ⟨w6, hw6, b6, b6', l6⟩ : ∃ w6 : World, w6 = w5.alloc (.cells #[.int .u8 0, .int .u16 2, .int .u8 4, .string nm, .int .i64 N, .int .i64 0, .int .i64 0, .int .u64 0, .bool false, .bool false] 25) ∧ Blk w6 a 25 #[.int .u8 0, .int .u16 1, .int .u8 4, .string nm, .int .i64 N, .int .i64 0, .int .i64 0, .int .u64 0, .bool false, .bool false] ∧ Blk w6 w5.heap.size 25 #[.int .u8 0, .int .u16 2, .int .u8 4, .string nm, .int .i64 N, .int .i64 0, .int .i64 0, .int .u64 0, .bool false, .bool false] ∧ Below w.heap.size w w6 := ⟨_, rfl, KA5.out.alloc _, Blk.fresh _ _ _, L5.out.alloc L5.out.size _⟩
  rw [← hw6]
  have KA := Lib.hid b6
  have KB := Lib.hid b6'
  have L6 := Lib.hid l6
  generalize w5.heap.size = b at KB ⊢
  clear hw6 b6 b6' l6 KA5 L5
  by_cases h2 : (60 : Int) < (zs.length : Int)
  · have q2 : decide ((60 : Int) < (zs.length : Int)) = true := decide_eq_true h2
    go_wp2_with fail
    refine (awake9 w6).mono ?_
    rintro x w9 ⟨rfl, hb⟩
    have L9 := Lib.hid (L6.out.trans (hb.mono L6.out.size)); clear hb
    go_wp2
    go_ret
    exact ⟨rfl, L9.out⟩
  have q2 : decide ((60 : Int) < (zs.length : Int)) = false := decide_eq_false h2
  obtain ⟨c0, c1, c2, c3, c4, c5, c6, c7, c8, c9, z0, z1, z2, z3, z4, z5, z6, z7, z8, z9⟩ := Rw10.row KB.out
  go_wp2_with fail
  refine (HTB.out w6).mono ?_
  rintro x w7 ⟨rfl, hb⟩
  have KA7 := Lib.hid (KA.out.below hb KA.out.lt)
  have L7 := Lib.hid (L6.out.trans (hb.mono L6.out.size))
  clear hb KA KB L6 HNA HNB HTB HNM c0 c1 c2 c3 c4 c5 c6 c7 c8 c9 z0 z1 z2 z3 z4 z5 z6 z7 z8 z9
  go_upto_region 8 with (fail)
  obtain ⟨w8, hw8, b8, l8⟩ : ∃ w8 : World, w8 = w7.alloc (.cells #[.int .u8 0, .int .u16 2, .int .u8 4, .string nm, .int .i64 N, .int .i64 0, .int .i64 N, .int .u64 1, .bool false, .bool false] 25) ∧ Blk w8 a 25 #[.int .u8 0, .int .u16 1, .int .u8 4, .string nm, .int .i64 N, .int .i64 0, .int .i64 0, .int .u64 0, .bool false, .bool false] ∧ Below w.heap.size w w8 := ⟨_, rfl, KA7.out.alloc _, L7.out.alloc L7.out.size _⟩
  rw [← hw8]
  have KA := Lib.hid b8
  have L8 := Lib.hid l8
  clear hw8 b8 l8 KA7 L7
  go_wp2_with fail
  go_loopw [12, 61] (fun u i wr => ∃ (k : Nat) (t nx : Int) (sn : Nat), k ≤ zs.length ∧ i = .int .i64 k ∧ u = .int .i64 t ∧ (0 ≤ t ∧ t ≤ 300 * k) ∧ sn ≤ 300 * k ∧ Blk wr a 25 (wtC 0 1 4 nm N t nx sn false false) ∧ Below w.heap.size w wr) (fun _ i _ => zs.length - (intOf i).toNat)
  case atStart => exact ⟨0, 0, 0, 0, Nat.zero_le _, rfl, rfl, by omega, Nat.le_refl _, KA.out, L8.out⟩
  case round =>
    clear KA L8
    obtain ⟨k, t, nx, sn, hk, rfl, rfl, ht, hs, ha, hbl⟩ := hrel
    by_cases hlt : k < zs.length
    · obtain ⟨ad, rfl, hbk, hcell⟩ := (HA.out.below hbl) (by rw [length_nums]; omega)
      have a0 := hcell _ _ (get_nums .u16 zs k hlt)
      have hg := HB.out _ (List.getElem_mem hlt)
      have hgd : zs.getD k 0 = zs[k] := by simp [List.getD_eq_getElem?_getD, hlt]
      rw [hgd] at a0
      generalize zs[k] = z at a0 hg
      obtain ⟨G, hG⟩ : ∃ G, G = z % 300 := ⟨_, rfl⟩
      have u0 : (z : Int).tmod 300 = (G : Int) := by rw [hG]; rfl
      have u1 : IntKind.u16.wrap (G : Int) = (G : Int) := by rw [IntKind.wrap_u16]; omega
      have u2 : IntKind.i64.wrap (G : Int) = (G : Int) := by rw [IntKind.wrap_i64]; omega
      have hG2 : G < 300 := by omega
      have hi2 : 0 ≤ (k : Int) ∧ (k : Int) < (zs.length : Int) := by omega
      have KA := Lib.hid ha
      have L := Lib.hid hbl
      clear ha hbl hcell hgd hG
      go_wp2_with fail
      clear a0 hbk HA HB
      go_loopw [12, 69] (fun u i wr => ∃ (j : Nat) (y nx : Int) (sn : Nat) (lo : Bool), j ≤ G ∧ i = .int .i64 j ∧ u = .int .i64 y ∧ y = t + j ∧ lo = decide (7 * N < 2 * (j : Int)) ∧ sn ≤ 300 * k + j ∧ Blk wr a 25 (wtC 0 1 4 nm N t nx sn lo false) ∧ Below w.heap.size w wr) (fun _ i _ => G - (intOf i).toNat)
      case atStart => exact ⟨0, t, nx, sn, false, Nat.zero_le _, rfl, rfl, by omega, (decide_eq_false (by omega)).symm, hs, KA.out, L.out⟩
      case round =>
        clear KA L hs
        obtain ⟨j, y, nx, sn, lo, hj, rfl, rfl, hy, hlo, hs, ha, hbl⟩ := hrel
        have HLO := Lib.hid hlo
        have HY := Lib.hid hy
        have hy2 : t ≤ y ∧ y ≤ 20000 := by omega
        clear hlo hy
        by_cases hlt2 : j < G
        · have hj2 : 0 ≤ (j : Int) ∧ (j : Int) < (G : Int) := by omega
          obtain ⟨u, hu⟩ : ∃ u, u = y + 1 := ⟨_, rfl⟩
          have v4 : IntKind.i64.wrap (y + 1) = u := by rw [IntKind.wrap_i64]; omega
          obtain ⟨nx', sn', b, hsn, t1⟩ := HT.out nx sn lo t u (by omega) (by omega) (by omega)
          obtain ⟨lo', hlo'⟩ : ∃ lo', lo' = (lo || decide (7 * N < 2 * (u - t))) := ⟨_, rfl⟩
          rw [← hlo'] at t1
          have hl2 : lo' = decide (7 * N < 2 * (u - t)) := by
            rw [hlo', HLO.out]
            have hyy := HY.out
            by_cases h7 : 7 * N < 2 * (j : Int)
            · rw [decide_eq_true h7, decide_eq_true (by omega)]; rfl
            · rw [decide_eq_false h7, Bool.false_or]
          have hl3 : lo' = decide (7 * N < 2 * ((j + 1 : Nat) : Int)) := by
            have hyy := HY.out
            rw [hl2, show u - t = ((j + 1 : Nat) : Int) by omega]
          obtain ⟨D, hD⟩ : ∃ D, D = u - t := ⟨_, rfl⟩
          rw [← hD] at hl2
          obtain ⟨X, hX⟩ : ∃ X, X = 2 * D := ⟨_, rfl⟩
          obtain ⟨Y, hY⟩ : ∃ Y, Y = 7 * N := ⟨_, rfl⟩
          rw [← hX, ← hY] at hl2
          have v5 : IntKind.i64.wrap (u - t) = D := by rw [IntKind.wrap_i64]; omega
          have v6 : IntKind.i64.wrap (2 * D) = X := by rw [IntKind.wrap_i64]; omega
          have v7 : IntKind.i64.wrap (7 * N) = Y := by rw [IntKind.wrap_i64]; omega
          have v8 : decide (Y < X) = lo' := hl2.symm
          have v9 : (lo' != lo') = false := by simp
          have hu3 : u = t + ((j + 1 : Nat) : Int) := by have := HY.out; omega
          have H1 := Lib.hid t1
          have HL3 := Lib.hid hl3
          have HU := Lib.hid hu3
          clear t1 hlo' hl2 hl3 hu hD hX hY hu3
          have KA := Lib.hid ha
          have L := Lib.hid hbl
          clear ha hbl
          go_upto_region 15 with (fail)
          obtain ⟨c0, c1, c2, c3, c4, c5, c6, c7, c8, c9, _⟩ := Rw10.row KA.out
          go_wp2_with fail
          refine (H1.out wr).mono ?_
          rintro x w3 ⟨rfl, hb⟩
          have KA3 := Lib.hid (KA.out.below hb KA.out.lt)
          have L3 := Lib.hid (L.out.trans (hb.mono L.out.size))
          clear hb KA L c0 c1 c2 c3 c4 c5 c6 c7 c8 c9
          go_upto_region 16 with (fail)
          obtain ⟨w4, hw4, b4, b5, l4⟩ : ∃ w4 : World, w4 = w3.alloc (.cells #[.int .u8 0, .int .u16 1, .int .u8 4, .string nm, .int .i64 N, .int .i64 t, .int .i64 nx', .int .u64 (sn' : Nat), .bool lo', .bool false] 25) ∧ Blk w4 a 25 (wtC 0 1 4 nm N t nx sn lo false) ∧ Blk w4 w3.heap.size 25 (wtC 0 1 4 nm N t nx' sn' lo' false) ∧ Below w.heap.size w w4 := ⟨_, rfl, KA3.out.alloc _, Blk.fresh _ _ _, L3.out.alloc L3.out.size _⟩
          rw [← hw4]
          have KA := Lib.hid b4
          have KC := Lib.hid b5
          have L := Lib.hid l4
          clear hw4 b4 b5 l4 KA3 L3
          obtain ⟨c0, c1, c2, c3, c4, c5, c6, c7, c8, c9, _⟩ := Rw10.row KC.out
          obtain ⟨_, _, _, _, _, _, _, _, _, _, z0, z1, z2, z3, z4, z5, z6, z7, z8, z9⟩ := Rw10.row KA.out
          go_upto_region 17 with (fail)
          obtain ⟨w5, hw5, b5, l5⟩ : ∃ w5 : World, w5 = Rw10.set w4 a (.int .u8 0) (.int .u16 1) (.int .u8 4) (.string nm) (.int .i64 N) (.int .i64 t) (.int .i64 nx') (.int .u64 (sn' : Nat)) (.bool lo') (.bool false) ∧ Blk w5 a 25 (wtC 0 1 4 nm N t nx' sn' lo' false) ∧ Below w.heap.size w w5 := ⟨_, rfl, Rw10.blk_set KA.out _ _ _ _ _ _ _ _ _ _, Rw10.below_set L.out hwa _ _ _ _ _ _ _ _ _ _⟩
          dsimp only [Rw10.set] at hw5
          rw [← hw5]
          have KA5 := Lib.hid b5
          have L5 := Lib.hid l5
          clear hw5 b5 l5 KA KC L c0 c1 c2 c3 c4 c5 c6 c7 c8 c9 z0 z1 z2 z3 z4 z5 z6 z7 z8 z9
          obtain ⟨c0, c1, c2, c3, c4, c5, c6, c7, c8, c9, _⟩ := Rw10.row KA5.out
          go_wp2
          exact ⟨⟨j + 1, u, nx', sn', lo', by omega, by go_num, rfl, HU.out, HL3.out, by omega, KA5.out, L5.out⟩, by simp [intOf]; omega⟩
        · have hj2 : ¬ (j : Int) < (G : Int) := by omega
          have d2 : decide ((j : Int) < (G : Int)) = false := decide_eq_false hj2
          have KA := Lib.hid ha
          have L := Lib.hid hbl
          clear ha hbl hj2
          have v4 : (y != y) = false := by simp
          obtain ⟨c0, c1, c2, c3, c4, c5, c6, c7, c8, c9, _⟩ := Rw10.row KA.out
          go_wp2_with fail
          refine (HH.out t nx y sn lo wr).mono ?_
          rintro x w3 ⟨rfl, hb⟩
          have KA3 := Lib.hid (KA.out.below hb KA.out.lt)
          have L3 := Lib.hid (L.out.trans (hb.mono L.out.size))
          clear hb KA L c0 c1 c2 c3 c4 c5 c6 c7 c8 c9
          obtain ⟨_, _, _, _, _, _, _, _, _, _, z0, z1, z2, z3, z4, z5, z6, z7, z8, z9⟩ := Rw10.row KA3.out
          go_upto_region 21 with (fail)
          obtain ⟨w4, hw4, b4, l4⟩ : ∃ w4 : World, w4 = Rw10.set w3 a (.int .u8 0) (.int .u16 1) (.int .u8 4) (.string nm) (.int .i64 N) (.int .i64 y) (.int .i64 nx) (.int .u64 (sn : Nat)) (.bool false) (.bool false) ∧ Blk w4 a 25 (wtC 0 1 4 nm N y nx sn false false) ∧ Below w.heap.size w w4 := ⟨_, rfl, Rw10.blk_set KA3.out _ _ _ _ _ _ _ _ _ _, Rw10.below_set L3.out hwa _ _ _ _ _ _ _ _ _ _⟩
          dsimp only [Rw10.set] at hw4
          rw [← hw4]
          have KA := Lib.hid b4
          have L := Lib.hid l4
          clear hw4 b4 l4 KA3 L3 z0 z1 z2 z3 z4 z5 z6 z7 z8 z9
          obtain ⟨c0, c1, c2, c3, c4, c5, c6, c7, c8, c9, _⟩ := Rw10.row KA.out
          have hyy := HY.out
          have hy3 : 0 ≤ y ∧ y ≤ 300 * ((k + 1 : Nat) : Int) := by omega
          clear hyy
          go_wp2
          exact ⟨⟨k + 1, y, nx, sn, by omega, by go_num, rfl, hy3, by omega, KA.out, L.out⟩, by simp [intOf]; omega⟩
    · have HL := Lib.hid hbl
      clear ha hbl
      go_wp2_with fail
      refine (awake9 wr).mono ?_
      rintro x w9 ⟨rfl, hb⟩
      have L9 := Lib.hid (HL.out.trans (hb.mono HL.out.size)); clear hb
      go_wp2
      go_ret
      exact ⟨rfl, L9.out⟩
end Go.Proofs.Ytlbnigdindpnfaa.Wa
