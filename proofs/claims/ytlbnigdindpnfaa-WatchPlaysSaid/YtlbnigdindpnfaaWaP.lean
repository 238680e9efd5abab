/-
  The walk of WatchPlays.
-/
import Derived.Test.YtlbnigdindpnfaaWaJ
import Derived.Test.YtlbnigdindpnfaaWaO
namespace Go.Proofs.Ytlbnigdindpnfaa.Wa
open Go.RowKit Go.Proofs.Ytlbnigdindpnfaa.Bt Go.Proofs.Ytlbnigdindpnfaa.Mm Go.Proofs.Ytlbnigdindpnfaa.Fl Go.Proofs.Ytlbnigdindpnfaa.Lw Go.Proofs.Ytlbnigdindpnfaa.Tg Go.Proofs.Ytlbnigdindpnfaa.Cc Go.Proofs.Ytlbnigdindpnfaa.Op

set_option linter.unusedVariables false
set_option maxRecDepth 100000 in
set_option maxHeartbeats 4000000 in
theorem plays_walk (lv e p : Nat) (g : ByteArray) (iv hd nx : Int) (sn : Nat) (lo fa : Bool) (st : Int) (ps : List (Nat × Bool × ByteArray)) (A : Option Addr) (c : Nat) (w : World)
    (_hl : lv < 256) (_he : e < 65536) (_hp : p < 256) (hg : g.size ≤ maxLen) (_hst : (Lit.int .i64 st).wf = true) (hm : ps.length ≤ maxLen) (hA : Rd w w.heap.size A (wactCells ps)) (hB : ∀ q ∈ ps, q.1 < 65536 ∧ q.2.2.size ≤ maxLen) :
    Calls Try.prog 3 #[wtV lv e p g iv hd nx sn lo fa, .int .i64 st, .slice A ps.length c] w (Law1 w) := by
  unfold maxLen at hm hg
  have HA := Lib.hid hA
  have HB := Lib.hid hB
  clear hA hB _hst
  have H0 := Lib.hid (Blk.fresh w 25 (wtC lv e p g iv hd nx sn lo fa))
  have L0 := Lib.hid ((Below.refl w.heap.size w).alloc (Nat.le_refl _) (.cells (wtC lv e p g iv hd nx sn lo fa) 25))
  by_cases h1 : (200 : Int) < (g.size : Int)
  · have q1 : decide ((200 : Int) < (g.size : Int)) = true := decide_eq_true h1
    go_enter Try.func3, Try.ntmps3
    go_wp2_with fail
    refine (awake9 _).mono ?_
    rintro x w1 ⟨rfl, hb⟩
    have L1 := Lib.hid (L0.out.trans (hb.mono L0.out.size)); clear hb
    go_wp2
    go_ret
    exact ⟨rfl, L1.out⟩
  have q1 : decide ((200 : Int) < (g.size : Int)) = false := decide_eq_false h1
  by_cases h2 : (60 : Int) < (ps.length : Int)
  · have q2 : decide ((60 : Int) < (ps.length : Int)) = true := decide_eq_true h2
    go_enter Try.func3, Try.ntmps3
    go_wp2_with fail
    refine (awake9 _).mono ?_
    rintro x w1 ⟨rfl, hb⟩
    have L1 := Lib.hid (L0.out.trans (hb.mono L0.out.size)); clear hb
    go_wp2
    go_ret
    exact ⟨rfl, L1.out⟩
  have q2 : decide ((60 : Int) < (ps.length : Int)) = false := decide_eq_false h2
  obtain ⟨k, hk⟩ := new_both lv e p g iv st
  have e0 : ((lv : Int) == (lv : Int)) = true := beq_iff_eq.2 rfl
  have e1 : ((e : Int) == (e : Int)) = true := beq_iff_eq.2 rfl
  have e2 : ((p : Int) == (p : Int)) = true := beq_iff_eq.2 rfl
  have e3 : (g.toList == g.toList) = true := beq_iff_eq.2 rfl
  have e4 : (iv == iv) = true := beq_iff_eq.2 rfl
  have e5 : (st == st) = true := beq_iff_eq.2 rfl
  rcases hk with ⟨hk0, hN, hR⟩ | ⟨hk0, hi, hn, hN, hR⟩
  · have HN := Lib.hid hN
    have HR := Lib.hid hR
    clear hN hR
    have k1 : (k != k) = false := by simp
    have k2 : (k != 0) = true := bne_iff_ne.2 hk0
    clear hk0
    go_enter Try.func3, Try.ntmps3
    go_upto_region 1 with (fail)
    generalize w.alloc (.cells (wtC lv e p g iv hd nx sn lo fa) 25) = w0 at H0 L0 ⊢
    obtain ⟨c0, c1, c2, c3, c4, c5, c6, c7, c8, c9, z0, z1, z2, z3, z4, z5, z6, z7, z8, z9⟩ := Rw10.row H0.out
    go_wp2_with fail
    refine (HN.out w0).mono ?_
    rintro x w1 ⟨rfl, hb⟩
    have H1 := Lib.hid (H0.out.below hb H0.out.lt)
    have L1 := Lib.hid (L0.out.trans (hb.mono L0.out.size))
    clear hb c0 c1 c2 c3 c4 c5 c6 c7 c8 c9 z0 z1 z2 z3 z4 z5 z6 z7 z8 z9
    go_upto_region 4 with (fail)
    obtain ⟨w2, hw2, b0, b1, l2⟩ : ∃ w2 : World, w2 = w1.alloc (.cells (noneWC) 25) ∧ Blk w2 w.heap.size 25 (wtC lv e p g iv hd nx sn lo fa) ∧ Blk w2 w1.heap.size 25 (noneWC) ∧ Below w.heap.size w w2 := ⟨_, rfl, H1.out.alloc _, Blk.fresh _ _ _, L1.out.alloc L1.out.size _⟩
    rw [← hw2]
    have K0 := Lib.hid b0
    have KA := Lib.hid b1
    have L2 := Lib.hid l2
    have hwa : w.heap.size ≤ w1.heap.size := L1.out.size
    generalize w1.heap.size = a at KA hwa ⊢
    clear hw2 b0 b1 l2 H0 H1 L0 L1
    obtain ⟨c0, c1, c2, c3, c4, c5, c6, c7, c8, c9, z0, z1, z2, z3, z4, z5, z6, z7, z8, z9⟩ := Rw10.row K0.out
    go_wp2_with fail
    refine (HR.out w2).mono ?_
    rintro x w3 ⟨rfl, hb⟩
    have KA3 := Lib.hid (KA.out.below hb KA.out.lt)
    have L3 := Lib.hid (L2.out.trans (hb.mono L2.out.size))
    clear hb K0 KA L2 c0 c1 c2 c3 c4 c5 c6 c7 c8 c9 z0 z1 z2 z3 z4 z5 z6 z7 z8 z9
    go_upto_region 5 with (fail)
    obtain ⟨w4, hw4, b0, b1, l4⟩ : ∃ w4 : World, w4 = w3.alloc (.cells (noneWC) 31) ∧ Blk w4 a 25 (noneWC) ∧ Blk w4 w3.heap.size 31 (noneWC) ∧ Below w.heap.size w w4 := ⟨_, rfl, KA3.out.alloc _, Blk.fresh _ _ _, L3.out.alloc L3.out.size _⟩
    rw [← hw4]
    have KA := Lib.hid b0
    have KM := Lib.hid b1
    have L4 := Lib.hid l4
    have ham : a < w3.heap.size := KA3.out.lt
    generalize w3.heap.size = m at KM ham ⊢
    clear hw4 b0 b1 l4 KA3 L3
    obtain ⟨c0, c1, c2, c3, c4, c5, c6, c7, c8, c9, z0, z1, z2, z3, z4, z5, z6, z7, z8, z9⟩ := Rw10.row KA.out
    obtain ⟨d0, d1, d2, d3, d4, d5, d6, d7, d8, d9, y0, y1, y2, y3, y4, y5, y6, y7, y8, y9⟩ := Rw10.row KM.out
    go_wp2_with fail
    refine (awake9 _).mono ?_
    rintro x w5 ⟨rfl, hb⟩
    have L5 := Lib.hid (L4.out.trans (hb.mono L4.out.size)); clear hb
    go_wp2
    go_ret
    exact ⟨rfl, L5.out⟩
  · have HN := Lib.hid hN
    have HR := Lib.hid hR
    clear hN hR
    clear hk0
    unfold okI at hi
    unfold okN at hn
    go_enter Try.func3, Try.ntmps3
    go_upto_region 1 with (fail)
    generalize w.alloc (.cells (wtC lv e p g iv hd nx sn lo fa) 25) = w0 at H0 L0 ⊢
    obtain ⟨c0, c1, c2, c3, c4, c5, c6, c7, c8, c9, z0, z1, z2, z3, z4, z5, z6, z7, z8, z9⟩ := Rw10.row H0.out
    go_wp2_with fail
    refine (HN.out w0).mono ?_
    rintro x w1 ⟨rfl, hb⟩
    have H1 := Lib.hid (H0.out.below hb H0.out.lt)
    have L1 := Lib.hid (L0.out.trans (hb.mono L0.out.size))
    clear hb c0 c1 c2 c3 c4 c5 c6 c7 c8 c9 z0 z1 z2 z3 z4 z5 z6 z7 z8 z9
    go_upto_region 4 with (fail)
    obtain ⟨w2, hw2, b0, b1, l2⟩ : ∃ w2 : World, w2 = w1.alloc (.cells (#[.int .u8 (lv : Int), .int .u16 (e : Int), .int .u8 (p : Int), .string g, .int .i64 iv, .int .i64 st, .int .i64 st, .int .u64 0, .bool false, .bool false]) 25) ∧ Blk w2 w.heap.size 25 (wtC lv e p g iv hd nx sn lo fa) ∧ Blk w2 w1.heap.size 25 (#[.int .u8 (lv : Int), .int .u16 (e : Int), .int .u8 (p : Int), .string g, .int .i64 iv, .int .i64 st, .int .i64 st, .int .u64 0, .bool false, .bool false]) ∧ Below w.heap.size w w2 := ⟨_, rfl, H1.out.alloc _, Blk.fresh _ _ _, L1.out.alloc L1.out.size _⟩
    rw [← hw2]
    have K0 := Lib.hid b0
    have KA := Lib.hid b1
    have L2 := Lib.hid l2
    have hwa : w.heap.size ≤ w1.heap.size := L1.out.size
    generalize w1.heap.size = a at KA hwa ⊢
    clear hw2 b0 b1 l2 H0 H1 L0 L1
    obtain ⟨c0, c1, c2, c3, c4, c5, c6, c7, c8, c9, z0, z1, z2, z3, z4, z5, z6, z7, z8, z9⟩ := Rw10.row K0.out
    go_wp2_with fail
    refine (HR.out w2).mono ?_
    rintro x w3 ⟨rfl, hb⟩
    have KA3 := Lib.hid (KA.out.below hb KA.out.lt)
    have L3 := Lib.hid (L2.out.trans (hb.mono L2.out.size))
    clear hb K0 KA L2 c0 c1 c2 c3 c4 c5 c6 c7 c8 c9 z0 z1 z2 z3 z4 z5 z6 z7 z8 z9
    go_upto_region 5 with (fail)
    obtain ⟨w4, hw4, b0, b1, l4⟩ : ∃ w4 : World, w4 = w3.alloc (.cells (#[.int .u8 (lv : Int), .int .u16 (e : Int), .int .u8 (p : Int), .string g, .int .i64 iv, .int .i64 st, .int .i64 st, .int .u64 0, .bool false, .bool false]) 31) ∧ Blk w4 a 25 (#[.int .u8 (lv : Int), .int .u16 (e : Int), .int .u8 (p : Int), .string g, .int .i64 iv, .int .i64 st, .int .i64 st, .int .u64 0, .bool false, .bool false]) ∧ Blk w4 w3.heap.size 31 (#[.int .u8 (lv : Int), .int .u16 (e : Int), .int .u8 (p : Int), .string g, .int .i64 iv, .int .i64 st, .int .i64 st, .int .u64 0, .bool false, .bool false]) ∧ Below w.heap.size w w4 := ⟨_, rfl, KA3.out.alloc _, Blk.fresh _ _ _, L3.out.alloc L3.out.size _⟩
    rw [← hw4]
    have KA := Lib.hid b0
    have KM := Lib.hid b1
    have L4 := Lib.hid l4
    have ham : a < w3.heap.size := KA3.out.lt
    generalize w3.heap.size = m at KM ham ⊢
    clear hw4 b0 b1 l4 KA3 L3
    obtain ⟨c0, c1, c2, c3, c4, c5, c6, c7, c8, c9, z0, z1, z2, z3, z4, z5, z6, z7, z8, z9⟩ := Rw10.row KA.out
    obtain ⟨d0, d1, d2, d3, d4, d5, d6, d7, d8, d9, y0, y1, y2, y3, y4, y5, y6, y7, y8, y9⟩ := Rw10.row KM.out
    go_upto_region 10 with (fail)
    clear c0 c1 c2 c3 c4 c5 c6 c7 c8 c9 z0 z1 z2 z3 z4 z5 z6 z7 z8 z9
    clear d0 d1 d2 d3 d4 d5 d6 d7 d8 d9 y0 y1 y2 y3 y4 y5 y6 y7 y8 y9
    clear e5
    go_wp2_with fail
    go_loopw [11, 73] (fun u i wr => ∃ (k : Nat) (t hd nx : Int) (sn : Nat) (lo fa : Bool), k ≤ ps.length ∧ i = .int .i64 k ∧ u = .int .i64 t ∧ (0 ≤ t ∧ t ≤ 1099511627776) ∧ (0 ≤ hd ∧ hd ≤ 1099511627776) ∧ sn ≤ k ∧ Blk wr a 25 (wtC lv e p g iv hd nx sn lo fa) ∧ Blk wr m 31 (wtC lv e p g iv hd nx sn lo fa) ∧ Below w.heap.size w wr) (fun _ i _ => ps.length - (intOf i).toNat)
    case atStart => exact ⟨0, st, st, st, 0, false, false, Nat.zero_le _, rfl, rfl, hn, hn, Nat.le_refl _, KA.out, KM.out, L4.out⟩
    case round =>
      clear KA KM L4 HN HR
      obtain ⟨k, t, hd, nx, sn, lo, fa, hk, rfl, rfl, ht, hh, hs, ha, hmm, hbl⟩ := hrel
      by_cases hlt : k < ps.length
      · obtain ⟨ad, rfl, hbk, hcell⟩ := (HA.out.below hbl) (by rw [length_wactCells]; omega)
        have hcs := get_wactCells ps k hlt
        have a0 := hcell _ _ hcs.1
        have a1 := hcell _ _ hcs.2.1
        have a2 := hcell _ _ hcs.2.2
        rw [add_succ] at a1
        rw [show k * 3 + 2 = (k * 3 + 1) + 1 by omega, add_succ, add_succ] at a2
        simp only at a2
        have hn := HB.out _ (List.getElem_mem hlt)
        obtain ⟨q, hq⟩ : ∃ q, q = ps[k] := ⟨_, rfl⟩
        rw [← hq] at a0 a1 a2 hn
        obtain ⟨n, r, s⟩ := q
        simp only at a0 a1 a2 hn
        obtain ⟨hn1, hn2⟩ := hn
        have HZ := Lib.hid hn2
        clear hcell hcs hq hn2
        have hi2 : 0 ≤ (k : Int) ∧ (k : Int) < (ps.length : Int) := by omega
        have HT0 := Lib.hid ha
        have HM0 := Lib.hid hmm
        have HL0 := Lib.hid hbl
        clear ha hmm hbl
        obtain ⟨u, hu⟩ : ∃ u, u = t + (n : Int) := ⟨_, rfl⟩
        have v1 : IntKind.i64.wrap (n : Int) = (n : Int) := by rw [IntKind.wrap_i64]; omega
        have v2 : IntKind.i64.wrap (t + (n : Int)) = u := by rw [IntKind.wrap_i64]; omega
        have hu1 : 0 ≤ u := by omega
        clear hu
        go_upto_region 13 with (fail)
        obtain ⟨wx, hwx, bx, bt, bm, bb⟩ : ∃ wx : World, wx = wr.alloc (.cells #[.int .u16 (n : Nat), .bool r, .string s] 35) ∧ Blk wx wr.heap.size 35 #[.int .u16 (n : Nat), .bool r, .string s] ∧ Blk wx a 25 (wtC lv e p g iv hd nx sn lo fa) ∧ Blk wx m 31 (wtC lv e p g iv hd nx sn lo fa) ∧ Below w.heap.size w wx :=
          ⟨_, rfl, Blk.fresh _ _ _, HT0.out.alloc _, HM0.out.alloc _, HL0.out.alloc HL0.out.size _⟩
        rw [← hwx]
        clear hwx a0 a1 a2 hbk HA
        have hmr := HM0.out.lt
        obtain ⟨x, hx⟩ : ∃ x, x = wr.heap.size := ⟨_, rfl⟩
        rw [← hx] at bx hmr ⊢
        have HX := Lib.hid bx
        have HT := Lib.hid bt
        have HM := Lib.hid bm
        have HL := Lib.hid bb
        clear bx bt bm bb hx HT0 HM0 HL0 wr
        obtain ⟨x0, x1, x2, _⟩ := Rw3.row HX.out
        by_cases h3 : 1099511627776 < u
        · have d3 : decide (1099511627776 < u) = true := decide_eq_true h3
          go_wp2_with fail
          refine (awake9 wx).mono ?_
          rintro x w9 ⟨rfl, hb⟩
          have L9 := Lib.hid (HL.out.trans (hb.mono HL.out.size)); clear hb
          go_wp2
          go_ret
          exact ⟨rfl, L9.out⟩
        have d3 : decide (1099511627776 < u) = false := decide_eq_false h3
        by_cases h4 : (400 : Int) < (s.size : Int)
        · have d4 : decide ((400 : Int) < (s.size : Int)) = true := decide_eq_true h4
          go_wp2_with fail
          refine (awake9 wx).mono ?_
          rintro x w9 ⟨rfl, hb⟩
          have L9 := Lib.hid (HL.out.trans (hb.mono HL.out.size)); clear hb
          go_wp2
          go_ret
          exact ⟨rfl, L9.out⟩
        have d4 : decide ((400 : Int) < (s.size : Int)) = false := decide_eq_false h4
        cases r
        · obtain ⟨nx', sn', lo', b, hsn, t1, t2⟩ := tick_both lv e p g iv hd nx u sn lo fa (by omega) (by omega) (by omega) (by omega)
          have H1 := Lib.hid t1
          have H2 := Lib.hid t2
          clear t1 t2
          have e5 : (b.toList == b.toList) = true := beq_iff_eq.2 rfl
          have e6 : (b.toList != b.toList) = false := by rw [bne, e5]; rfl
          obtain ⟨c0, c1, c2, c3, c4, c5, c6, c7, c8, c9, z0, z1, z2, z3, z4, z5, z6, z7, z8, z9⟩ := Rw10.row HT.out
          go_wp2_with fail
          refine (H1.out wx).mono ?_
          rintro en w3 ⟨rfl, hb⟩
          have HT3 := Lib.hid (HT.out.below hb HT.out.lt)
          have HM3 := Lib.hid (HM.out.below hb HM.out.lt)
          have HL3 := Lib.hid (HL.out.trans (hb.mono HL.out.size))
          clear hb x0 x1 x2 HX HT HM HL c0 c1 c2 c3 c4 c5 c6 c7 c8 c9 z0 z1 z2 z3 z4 z5 z6 z7 z8 z9
          go_upto_region 22 with (fail)
          obtain ⟨w4, hw4, bt, bm, bn, bl⟩ : ∃ w4 : World, w4 = w3.alloc (.cells (wtC lv e p g iv hd nx' sn' lo' fa) 25) ∧ Blk w4 a 25 (wtC lv e p g iv hd nx sn lo fa) ∧ Blk w4 m 31 (wtC lv e p g iv hd nx sn lo fa) ∧ Blk w4 w3.heap.size 25 (wtC lv e p g iv hd nx' sn' lo' fa) ∧ Below w.heap.size w w4 := ⟨_, rfl, HT3.out.alloc _, HM3.out.alloc _, Blk.fresh _ _ _, HL3.out.alloc HL3.out.size _⟩
          rw [← hw4]
          have HT := Lib.hid bt
          have HM := Lib.hid bm
          have HN := Lib.hid bn
          have HL := Lib.hid bl
          have hmn : m < w3.heap.size := HM3.out.lt
          obtain ⟨y, hy⟩ : ∃ y, y = w3.heap.size := ⟨_, rfl⟩
          rw [← hy] at HN hmn ⊢
          clear hw4 bt bm bn bl hy HT3 HM3 HL3 w3
          obtain ⟨c0, c1, c2, c3, c4, c5, c6, c7, c8, c9, z0, z1, z2, z3, z4, z5, z6, z7, z8, z9⟩ := Rw10.row HM.out
          go_wp2_with fail
          refine (H2.out w4).mono ?_
          rintro en w5 ⟨rfl, hb⟩
          have HT5 := Lib.hid (HT.out.below hb HT.out.lt)
          have HM5 := Lib.hid (HM.out.below hb HM.out.lt)
          have HN5 := Lib.hid (HN.out.below hb HN.out.lt)
          have HL5 := Lib.hid (HL.out.trans (hb.mono HL.out.size))
          clear hb HT HM HN HL c0 c1 c2 c3 c4 c5 c6 c7 c8 c9 z0 z1 z2 z3 z4 z5 z6 z7 z8 z9
          go_upto_region 23 with (fail)
          obtain ⟨w6, hw6, bt, bm, bn, bo, bl⟩ : ∃ w6 : World, w6 = w5.alloc (.cells (wtC lv e p g iv hd nx' sn' lo' fa) 31) ∧ Blk w6 a 25 (wtC lv e p g iv hd nx sn lo fa) ∧ Blk w6 m 31 (wtC lv e p g iv hd nx sn lo fa) ∧ Blk w6 y 25 (wtC lv e p g iv hd nx' sn' lo' fa) ∧ Blk w6 w5.heap.size 31 (wtC lv e p g iv hd nx' sn' lo' fa) ∧ Below w.heap.size w w6 := ⟨_, rfl, HT5.out.alloc _, HM5.out.alloc _, HN5.out.alloc _, Blk.fresh _ _ _, HL5.out.alloc HL5.out.size _⟩
          rw [← hw6]
          have HT := Lib.hid bt
          have HM := Lib.hid bm
          have HN := Lib.hid bn
          have HO := Lib.hid bo
          have HL := Lib.hid bl
          have hmo : y < w5.heap.size := HN5.out.lt
          obtain ⟨z, hz⟩ : ∃ z, z = w5.heap.size := ⟨_, rfl⟩
          rw [← hz] at HO hmo ⊢
          clear hw6 bt bm bn bo bl hz HT5 HM5 HN5 HL5 w5
          obtain ⟨_, _, _, _, _, _, _, _, _, _, z0, z1, z2, z3, z4, z5, z6, z7, z8, z9⟩ := Rw10.row HT.out
          obtain ⟨_, _, _, _, _, _, _, _, _, _, y0, y1, y2, y3, y4, y5, y6, y7, y8, y9⟩ := Rw10.row HM.out
          obtain ⟨c0, c1, c2, c3, c4, c5, c6, c7, c8, c9, _⟩ := Rw10.row HN.out
          obtain ⟨d0, d1, d2, d3, d4, d5, d6, d7, d8, d9, _⟩ := Rw10.row HO.out
          have n1 : m ≠ a := by omega
          have n2 : y ≠ a := by omega
          have n3 : z ≠ a := by omega
          have n4 : y ≠ m := by omega
          have n5 : z ≠ m := by omega
          have n6 : a ≠ m := by omega
          go_region
          clear c0 c1 c2 c3 c4 c5 c6 c7 c8 c9 d0 d1 d2 d3 d4 d5 d6 d7 d8 d9 z0 z1 z2 z3 z4 z5 z6 z7 z8 z9 y0 y1 y2 y3 y4 y5 y6 y7 y8 y9
          obtain ⟨w7, hw7, bt, bm, bl⟩ : ∃ w7 : World, w7 = (Rw10.set (Rw10.set w6 a (.int .u8 (lv : Int)) (.int .u16 (e : Int)) (.int .u8 (p : Int)) (.string g) (.int .i64 iv) (.int .i64 hd) (.int .i64 nx') (.int .u64 (sn' : Nat)) (.bool lo') (.bool fa)) m (.int .u8 (lv : Int)) (.int .u16 (e : Int)) (.int .u8 (p : Int)) (.string g) (.int .i64 iv) (.int .i64 hd) (.int .i64 nx') (.int .u64 (sn' : Nat)) (.bool lo') (.bool fa)).drew ∧ Blk w7 a 25 (wtC lv e p g iv hd nx' sn' lo' fa) ∧ Blk w7 m 31 (wtC lv e p g iv hd nx' sn' lo' fa) ∧ Below w.heap.size w w7 := ⟨_, rfl, (Rw10.far (Rw10.blk_set HT.out _ _ _ _ _ _ _ _ _ _) n6 _ _ _ _ _ _ _ _ _ _).drew, (Rw10.blk_set (Rw10.far HM.out n1 _ _ _ _ _ _ _ _ _ _) _ _ _ _ _ _ _ _ _ _).drew, (Rw10.below_set (Rw10.below_set HL.out hwa _ _ _ _ _ _ _ _ _ _) (by omega) _ _ _ _ _ _ _ _ _ _).drew⟩
          dsimp only [Rw10.set] at hw7
          rw [← hw7]
          have HT7 := Lib.hid bt
          have HM7 := Lib.hid bm
          have HL7 := Lib.hid bl
          clear hw7 bt bm bl HT HM HN HO HL
          obtain ⟨c0, c1, c2, c3, c4, c5, c6, c7, c8, c9, z0, z1, z2, z3, z4, z5, z6, z7, z8, z9⟩ := Rw10.row HT7.out
          obtain ⟨d0, d1, d2, d3, d4, d5, d6, d7, d8, d9, _⟩ := Rw10.row HM7.out
          have f4 : (hd == hd) = true := beq_iff_eq.2 rfl
          have f5 : (nx' == nx') = true := beq_iff_eq.2 rfl
          have f6 : ((sn' : Int) == (sn' : Int)) = true := beq_iff_eq.2 rfl
          have f7 : (lo' == lo') = true := beq_iff_eq.2 rfl
          have f8 : (fa == fa) = true := beq_iff_eq.2 rfl
          go_wp2
          exact ⟨⟨k + 1, u, hd, nx', sn', lo', fa, by omega, by go_num, rfl, by omega, by omega, by omega, HT7.out, HM7.out, HL7.out⟩, by simp [intOf]; omega⟩
        · obtain ⟨hd', lo', fa', kk, hhd, t1, t2⟩ := hear_both lv e p g iv hd nx u sn lo fa s HZ.out
          have H1 := Lib.hid t1
          have H2 := Lib.hid t2
          clear t1 t2
          have k1 : (kk != kk) = false := by simp
          have n1 : m ≠ a := by omega
          have n2 : x ≠ a := by omega
          have n3 : x ≠ m := by omega
          have n4 : a ≠ m := by omega
          obtain ⟨c0, c1, c2, c3, c4, c5, c6, c7, c8, c9, z0, z1, z2, z3, z4, z5, z6, z7, z8, z9⟩ := Rw10.row HT.out
          go_wp2_with fail
          refine (H1.out wx).mono ?_
          rintro en w3 ⟨rfl, hb⟩
          have HT3 := Lib.hid (HT.out.below hb HT.out.lt)
          have HM3 := Lib.hid (HM.out.below hb HM.out.lt)
          have HX3 := Lib.hid (HX.out.below hb HX.out.lt)
          have HL3 := Lib.hid (HL.out.trans (hb.mono HL.out.size))
          clear hb x0 x1 x2 HX HT HM HL c0 c1 c2 c3 c4 c5 c6 c7 c8 c9 z0 z1 z2 z3 z4 z5 z6 z7 z8 z9
          obtain ⟨_, _, _, _, _, _, _, _, _, _, z0, z1, z2, z3, z4, z5, z6, z7, z8, z9⟩ := Rw10.row HT3.out
          go_upto_region 18 with (fail)
          obtain ⟨w4, hw4, bt, bm, bx, bl⟩ : ∃ w4 : World, w4 = Rw10.set w3 a (.int .u8 (lv : Int)) (.int .u16 (e : Int)) (.int .u8 (p : Int)) (.string g) (.int .i64 iv) (.int .i64 hd') (.int .i64 nx) (.int .u64 (sn : Nat)) (.bool lo') (.bool fa') ∧ Blk w4 a 25 (wtC lv e p g iv hd' nx sn lo' fa') ∧ Blk w4 m 31 (wtC lv e p g iv hd nx sn lo fa) ∧ Blk w4 x 35 #[.int .u16 (n : Nat), .bool true, .string s] ∧ Below w.heap.size w w4 := ⟨_, rfl, Rw10.blk_set HT3.out _ _ _ _ _ _ _ _ _ _, Rw10.far HM3.out n1 _ _ _ _ _ _ _ _ _ _, Rw10.far HX3.out n2 _ _ _ _ _ _ _ _ _ _, Rw10.below_set HL3.out hwa _ _ _ _ _ _ _ _ _ _⟩
          dsimp only [Rw10.set] at hw4
          rw [← hw4]
          have HT := Lib.hid bt
          have HM := Lib.hid bm
          have HX := Lib.hid bx
          have HL := Lib.hid bl
          clear hw4 bt bm bx bl HT3 HM3 HX3 HL3 z0 z1 z2 z3 z4 z5 z6 z7 z8 z9
          obtain ⟨x0, x1, x2, _⟩ := Rw3.row HX.out
          obtain ⟨c0, c1, c2, c3, c4, c5, c6, c7, c8, c9, z0, z1, z2, z3, z4, z5, z6, z7, z8, z9⟩ := Rw10.row HM.out
          go_wp2_with fail
          refine (H2.out w4).mono ?_
          rintro en w5 ⟨rfl, hb⟩
          have HT5 := Lib.hid (HT.out.below hb HT.out.lt)
          have HM5 := Lib.hid (HM.out.below hb HM.out.lt)
          have HL5 := Lib.hid (HL.out.trans (hb.mono HL.out.size))
          clear hb x0 x1 x2 HX HT HM HL c0 c1 c2 c3 c4 c5 c6 c7 c8 c9 z0 z1 z2 z3 z4 z5 z6 z7 z8 z9
          obtain ⟨_, _, _, _, _, _, _, _, _, _, z0, z1, z2, z3, z4, z5, z6, z7, z8, z9⟩ := Rw10.row HM5.out
          go_upto_region 19 with (fail)
          obtain ⟨w6, hw6, bt, bm, bl⟩ : ∃ w6 : World, w6 = Rw10.set w5 m (.int .u8 (lv : Int)) (.int .u16 (e : Int)) (.int .u8 (p : Int)) (.string g) (.int .i64 iv) (.int .i64 hd') (.int .i64 nx) (.int .u64 (sn : Nat)) (.bool lo') (.bool fa') ∧ Blk w6 a 25 (wtC lv e p g iv hd' nx sn lo' fa') ∧ Blk w6 m 31 (wtC lv e p g iv hd' nx sn lo' fa') ∧ Below w.heap.size w w6 := ⟨_, rfl, Rw10.far HT5.out n4 _ _ _ _ _ _ _ _ _ _, Rw10.blk_set HM5.out _ _ _ _ _ _ _ _ _ _, Rw10.below_set HL5.out (by omega) _ _ _ _ _ _ _ _ _ _⟩
          dsimp only [Rw10.set] at hw6
          rw [← hw6]
          have HT := Lib.hid bt
          have HM := Lib.hid bm
          have HL := Lib.hid bl
          clear hw6 bt bm bl HT5 HM5 HL5 z0 z1 z2 z3 z4 z5 z6 z7 z8 z9
          obtain ⟨c0, c1, c2, c3, c4, c5, c6, c7, c8, c9, z0, z1, z2, z3, z4, z5, z6, z7, z8, z9⟩ := Rw10.row HT.out
          obtain ⟨d0, d1, d2, d3, d4, d5, d6, d7, d8, d9, _⟩ := Rw10.row HM.out
          have f4 : (hd' == hd') = true := beq_iff_eq.2 rfl
          have f5 : (nx == nx) = true := beq_iff_eq.2 rfl
          have f6 : ((sn : Int) == (sn : Int)) = true := beq_iff_eq.2 rfl
          have f7 : (lo' == lo') = true := beq_iff_eq.2 rfl
          have f8 : (fa' == fa') = true := beq_iff_eq.2 rfl
          go_wp2
          exact ⟨⟨k + 1, u, hd', nx, sn, lo', fa', by omega, by go_num, rfl, by omega, by omega, by omega, HT.out, HM.out, HL.out⟩, by simp [intOf]; omega⟩
      · have HL := Lib.hid hbl
        clear ha hmm hbl
        go_wp2_with fail
        refine (awake9 wr).mono ?_
        rintro x w9 ⟨rfl, hb⟩
        have L9 := Lib.hid (HL.out.trans (hb.mono HL.out.size)); clear hb
        go_wp2
        go_ret
        exact ⟨rfl, L9.out⟩
end Go.Proofs.Ytlbnigdindpnfaa.Wa
