/-
  Watch: New, the program's and the document's.
-/
import Derived.Test.YtlbnigdindpnfaaWaM
import Derived.Test.YtlbnigdindpnfaaWaA
namespace Go.Proofs.Ytlbnigdindpnfaa.Wa
open Go.RowKit Go.Proofs.Ytlbnigdindpnfaa.Bt Go.Proofs.Ytlbnigdindpnfaa.Mm Go.Proofs.Ytlbnigdindpnfaa.Fl Go.Proofs.Ytlbnigdindpnfaa.Tg Go.Proofs.Ytlbnigdindpnfaa.Cc

abbrev noneWC : Array Value := #[.int .u8 0, .int .u16 0, .int .u8 0, .string ⟨#[]⟩, .int .i64 0, .int .i64 0, .int .i64 0, .int .u64 0, .bool false, .bool false]
abbrev noneWV : Value := .agg noneWC
def okI (iv : Int) : Prop := 1 ≤ iv ∧ iv ≤ 1048576
def okN (now : Int) : Prop := 0 ≤ now ∧ now ≤ 1099511627776

set_option maxRecDepth 100000 in
set_option maxHeartbeats 2000000 in
theorem new_err {bs : List UInt8} {r : Nat} (lv e p : Nat) (g : ByteArray) (iv now : Int) (w : World) (h : closeC ⟨false, p, 0, e, g.data.toList⟩ lv = (bs, r)) (hr : r ≠ 0) :
    Calls Try.prog 7 #[.int .u8 (lv : Int), .int .u16 (e : Int), .int .u8 (p : Int), .string g, .int .i64 iv, .int .i64 now] w fun x w' => x = .returned (.tuple #[noneWV, .int .i64 (r : Int)]) ∧ Below w.heap.size w w' := by
  obtain ⟨b, hb⟩ : ∃ b : ByteArray, (⟨bs.toArray⟩ : ByteArray) = b := ⟨_, rfl⟩
  have HC := Lib.hid h
  have HBB := Lib.hid hb
  clear h hb
  have q1 : ((r : Int) != 0) = true := bne_iff_ne.2 (by omega)
  clear hr
  go_enter Try.func7, Try.ntmps7
  go_upto_region 2 with (fail)
  have HR := Lib.hid (blk_two w 25 25 noneWC (wtC lv e p g iv now now 0 false false))
  have HA := Lib.hid (fresh_second w (.cells noneWC 25) 25 (wtC lv e p g iv now now 0 false false))
  have HB := Lib.hid (below_two w (.cells noneWC 25) (.cells (wtC lv e p g iv now now 0 false false) 25))
  generalize (w.alloc (.cells noneWC 25)).alloc (.cells (wtC lv e p g iv now now 0 false false) 25) = w0 at HA HR HB ⊢
  obtain ⟨c0, c1, c2, c3, c4, c5, c6, c7, c8, c9, z0, z1, z2, z3, z4, z5, z6, z7, z8, z9⟩ := Rw10.row HA.out
  go_wp2_with fail
  refine (message_at lv e p g iv now now 0 false false w0 (bs := bs) (r := r) HC.out HBB.out).mono ?_
  rintro x w1 ⟨rfl, hb⟩
  have HA1 := Lib.hid (HA.out.below hb HA.out.lt)
  have HR1 := Lib.hid (HR.out.below hb HR.out.lt)
  have HB1 := Lib.hid (HB.out.trans (hb.mono HB.out.size))
  clear hb c0 c1 c2 c3 c4 c5 c6 c7 c8 c9 z0 z1 z2 z3 z4 z5 z6 z7 z8 z9
  obtain ⟨c0, c1, c2, c3, c4, c5, c6, c7, c8, c9, z0, z1, z2, z3, z4, z5, z6, z7, z8, z9⟩ := Rw10.row HA1.out
  obtain ⟨_, _, _, _, _, _, _, _, _, _, y0, y1, y2, y3, y4, y5, y6, y7, y8, y9⟩ := Rw10.row HR1.out
  go_wp2
  (try simp only [Exit.inBlock, Exit.then]); refine bodyPost_ret (results_row2 rfl _ _ w.heap.size 25 _ (0, 0) _ rfl (Rw10.blk_set HR1.out _ _ _ _ _ _ _ _ _ _) Try.underlying25 rfl info_w) rfl ?_
  exact ⟨rfl, Rw10.below_set HB1.out (Nat.le_refl _) _ _ _ _ _ _ _ _ _ _⟩
set_option maxRecDepth 100000 in
set_option maxHeartbeats 2000000 in
theorem new_badI {bs : List UInt8} {r : Nat} (lv e p : Nat) (g : ByteArray) (iv now : Int) (w : World) (h : closeC ⟨false, p, 0, e, g.data.toList⟩ lv = (bs, r)) (hr : r = 0) (hi : ¬ okI iv) :
    Calls Try.prog 7 #[.int .u8 (lv : Int), .int .u16 (e : Int), .int .u8 (p : Int), .string g, .int .i64 iv, .int .i64 now] w fun x w' => x = .returned (.tuple #[noneWV, .int .i64 4]) ∧ Below w.heap.size w w' := by
  obtain ⟨b, hb⟩ : ∃ b : ByteArray, (⟨bs.toArray⟩ : ByteArray) = b := ⟨_, rfl⟩
  have HC := Lib.hid h
  have HBB := Lib.hid hb
  clear h hb
  have q1 : ((r : Int) != 0) = false := by rw [hr]; rfl
  clear hr
  have HI := Lib.hid hi
  clear hi
  go_enter Try.func7, Try.ntmps7
  go_upto_region 2 with (fail)
  have HR := Lib.hid (blk_two w 25 25 noneWC (wtC lv e p g iv now now 0 false false))
  have HA := Lib.hid (fresh_second w (.cells noneWC 25) 25 (wtC lv e p g iv now now 0 false false))
  have HB := Lib.hid (below_two w (.cells noneWC 25) (.cells (wtC lv e p g iv now now 0 false false) 25))
  generalize (w.alloc (.cells noneWC 25)).alloc (.cells (wtC lv e p g iv now now 0 false false) 25) = w0 at HA HR HB ⊢
  obtain ⟨c0, c1, c2, c3, c4, c5, c6, c7, c8, c9, z0, z1, z2, z3, z4, z5, z6, z7, z8, z9⟩ := Rw10.row HA.out
  go_wp2_with fail
  refine (message_at lv e p g iv now now 0 false false w0 (bs := bs) (r := r) HC.out HBB.out).mono ?_
  rintro x w1 ⟨rfl, hb⟩
  have HA1 := Lib.hid (HA.out.below hb HA.out.lt)
  have HR1 := Lib.hid (HR.out.below hb HR.out.lt)
  have HB1 := Lib.hid (HB.out.trans (hb.mono HB.out.size))
  clear hb c0 c1 c2 c3 c4 c5 c6 c7 c8 c9 z0 z1 z2 z3 z4 z5 z6 z7 z8 z9
  obtain ⟨c0, c1, c2, c3, c4, c5, c6, c7, c8, c9, z0, z1, z2, z3, z4, z5, z6, z7, z8, z9⟩ := Rw10.row HA1.out
  obtain ⟨_, _, _, _, _, _, _, _, _, _, y0, y1, y2, y3, y4, y5, y6, y7, y8, y9⟩ := Rw10.row HR1.out
  go_wp2_with fail
  refine (within_out iv 1 1048576 w1 HI.out).mono ?_
  rintro x w2 ⟨rfl, rfl⟩
  go_wp2
  (try simp only [Exit.inBlock, Exit.then]); refine bodyPost_ret (results_row2 rfl _ _ w.heap.size 25 _ (0, 0) _ rfl (Rw10.blk_set HR1.out _ _ _ _ _ _ _ _ _ _) Try.underlying25 rfl info_w) rfl ?_
  exact ⟨rfl, Rw10.below_set HB1.out (Nat.le_refl _) _ _ _ _ _ _ _ _ _ _⟩
set_option maxRecDepth 100000 in
set_option maxHeartbeats 2000000 in
theorem new_badN {bs : List UInt8} {r : Nat} (lv e p : Nat) (g : ByteArray) (iv now : Int) (w : World) (h : closeC ⟨false, p, 0, e, g.data.toList⟩ lv = (bs, r)) (hr : r = 0) (hi : okI iv) (hn : ¬ okN now) :
    Calls Try.prog 7 #[.int .u8 (lv : Int), .int .u16 (e : Int), .int .u8 (p : Int), .string g, .int .i64 iv, .int .i64 now] w fun x w' => x = .returned (.tuple #[noneWV, .int .i64 4]) ∧ Below w.heap.size w w' := by
  obtain ⟨b, hb⟩ : ∃ b : ByteArray, (⟨bs.toArray⟩ : ByteArray) = b := ⟨_, rfl⟩
  have HC := Lib.hid h
  have HBB := Lib.hid hb
  clear h hb
  have q1 : ((r : Int) != 0) = false := by rw [hr]; rfl
  clear hr
  have HI := Lib.hid hi
  clear hi
  have HN := Lib.hid hn
  clear hn
  go_enter Try.func7, Try.ntmps7
  go_upto_region 2 with (fail)
  have HR := Lib.hid (blk_two w 25 25 noneWC (wtC lv e p g iv now now 0 false false))
  have HA := Lib.hid (fresh_second w (.cells noneWC 25) 25 (wtC lv e p g iv now now 0 false false))
  have HB := Lib.hid (below_two w (.cells noneWC 25) (.cells (wtC lv e p g iv now now 0 false false) 25))
  generalize (w.alloc (.cells noneWC 25)).alloc (.cells (wtC lv e p g iv now now 0 false false) 25) = w0 at HA HR HB ⊢
  obtain ⟨c0, c1, c2, c3, c4, c5, c6, c7, c8, c9, z0, z1, z2, z3, z4, z5, z6, z7, z8, z9⟩ := Rw10.row HA.out
  go_wp2_with fail
  refine (message_at lv e p g iv now now 0 false false w0 (bs := bs) (r := r) HC.out HBB.out).mono ?_
  rintro x w1 ⟨rfl, hb⟩
  have HA1 := Lib.hid (HA.out.below hb HA.out.lt)
  have HR1 := Lib.hid (HR.out.below hb HR.out.lt)
  have HB1 := Lib.hid (HB.out.trans (hb.mono HB.out.size))
  clear hb c0 c1 c2 c3 c4 c5 c6 c7 c8 c9 z0 z1 z2 z3 z4 z5 z6 z7 z8 z9
  obtain ⟨c0, c1, c2, c3, c4, c5, c6, c7, c8, c9, z0, z1, z2, z3, z4, z5, z6, z7, z8, z9⟩ := Rw10.row HA1.out
  obtain ⟨_, _, _, _, _, _, _, _, _, _, y0, y1, y2, y3, y4, y5, y6, y7, y8, y9⟩ := Rw10.row HR1.out
  go_wp2_with fail
  refine (within_in iv 1 1048576 w1 HI.out.1 HI.out.2).mono ?_
  rintro x w2 ⟨rfl, rfl⟩
  go_wp2_with fail
  refine (within_out now 0 1099511627776 w1 HN.out).mono ?_
  rintro x w3 ⟨rfl, rfl⟩
  go_wp2
  (try simp only [Exit.inBlock, Exit.then]); refine bodyPost_ret (results_row2 rfl _ _ w.heap.size 25 _ (0, 0) _ rfl (Rw10.blk_set HR1.out _ _ _ _ _ _ _ _ _ _) Try.underlying25 rfl info_w) rfl ?_
  exact ⟨rfl, Rw10.below_set HB1.out (Nat.le_refl _) _ _ _ _ _ _ _ _ _ _⟩
set_option maxRecDepth 100000 in
set_option maxHeartbeats 2000000 in
theorem new_ok {bs : List UInt8} {r : Nat} (lv e p : Nat) (g : ByteArray) (iv now : Int) (w : World) (h : closeC ⟨false, p, 0, e, g.data.toList⟩ lv = (bs, r)) (hr : r = 0) (hi : okI iv) (hn : okN now) (hg : g.size = 48) :
    Calls Try.prog 7 #[.int .u8 (lv : Int), .int .u16 (e : Int), .int .u8 (p : Int), .string g, .int .i64 iv, .int .i64 now] w fun x w' => x = .returned (.tuple #[wtV lv e p g iv now now 0 false false, .int .i64 0]) ∧ Below w.heap.size w w' := by
  obtain ⟨b, hb⟩ : ∃ b : ByteArray, (⟨bs.toArray⟩ : ByteArray) = b := ⟨_, rfl⟩
  have HC := Lib.hid h
  have HBB := Lib.hid hb
  clear h hb
  have q1 : ((r : Int) != 0) = false := by rw [hr]; rfl
  clear hr
  have HI := Lib.hid hi
  clear hi
  have HN := Lib.hid hn
  clear hn
  have HG := Lib.hid hg
  clear hg
  go_enter Try.func7, Try.ntmps7
  go_upto_region 2 with (fail)
  have HR := Lib.hid (blk_two w 25 25 noneWC (wtC lv e p g iv now now 0 false false))
  have HA := Lib.hid (fresh_second w (.cells noneWC 25) 25 (wtC lv e p g iv now now 0 false false))
  have HB := Lib.hid (below_two w (.cells noneWC 25) (.cells (wtC lv e p g iv now now 0 false false) 25))
  generalize (w.alloc (.cells noneWC 25)).alloc (.cells (wtC lv e p g iv now now 0 false false) 25) = w0 at HA HR HB ⊢
  obtain ⟨c0, c1, c2, c3, c4, c5, c6, c7, c8, c9, z0, z1, z2, z3, z4, z5, z6, z7, z8, z9⟩ := Rw10.row HA.out
  go_wp2_with fail
  refine (message_at lv e p g iv now now 0 false false w0 (bs := bs) (r := r) HC.out HBB.out).mono ?_
  rintro x w1 ⟨rfl, hb⟩
  have HA1 := Lib.hid (HA.out.below hb HA.out.lt)
  have HR1 := Lib.hid (HR.out.below hb HR.out.lt)
  have HB1 := Lib.hid (HB.out.trans (hb.mono HB.out.size))
  clear hb c0 c1 c2 c3 c4 c5 c6 c7 c8 c9 z0 z1 z2 z3 z4 z5 z6 z7 z8 z9
  obtain ⟨c0, c1, c2, c3, c4, c5, c6, c7, c8, c9, z0, z1, z2, z3, z4, z5, z6, z7, z8, z9⟩ := Rw10.row HA1.out
  obtain ⟨_, _, _, _, _, _, _, _, _, _, y0, y1, y2, y3, y4, y5, y6, y7, y8, y9⟩ := Rw10.row HR1.out
  go_wp2_with fail
  refine (within_in iv 1 1048576 w1 HI.out.1 HI.out.2).mono ?_
  rintro x w2 ⟨rfl, rfl⟩
  go_wp2_with fail
  refine (within_in now 0 1099511627776 w1 HN.out.1 HN.out.2).mono ?_
  rintro x w3 ⟨rfl, rfl⟩
  go_wp2_with fail
  refine (clone_any g w1 (by rw [HG.out]; decide) (by rw [HG.out]; decide)).mono ?_
  rintro x w4 ⟨rfl, hb⟩
  have HA4 := Lib.hid (HA1.out.below hb HA1.out.lt)
  have HR4 := Lib.hid (HR1.out.below hb HR1.out.lt)
  have HB4 := Lib.hid (HB1.out.trans (hb.mono HB1.out.size))
  clear hb c0 c1 c2 c3 c4 c5 c6 c7 c8 c9 z0 z1 z2 z3 z4 z5 z6 z7 z8 z9 y0 y1 y2 y3 y4 y5 y6 y7 y8 y9
  obtain ⟨c0, c1, c2, c3, c4, c5, c6, c7, c8, c9, z0, z1, z2, z3, z4, z5, z6, z7, z8, z9⟩ := Rw10.row HA4.out
  obtain ⟨_, _, _, _, _, _, _, _, _, _, y0, y1, y2, y3, y4, y5, y6, y7, y8, y9⟩ := Rw10.row HR4.out
  go_wp2
  (try simp only [Exit.inBlock, Exit.then]); refine bodyPost_ret (results_row2 rfl _ _ w.heap.size 25 _ (0, 0) _ rfl (Rw10.blk_set (HR4.out.far (p := ⟨w.heap.size + 1, 3, none⟩) (by simp) _) _ _ _ _ _ _ _ _ _ _) Try.underlying25 rfl info_w) rfl ?_
  exact ⟨rfl, Rw10.below_set (HB4.out.setCell (p := ⟨w.heap.size + 1, 3, none⟩) (by simp) _) (Nat.le_refl _) _ _ _ _ _ _ _ _ _ _⟩
set_option maxRecDepth 100000 in
set_option maxHeartbeats 2000000 in
theorem rnew_err {bs : List UInt8} {r : Nat} (lv e p : Nat) (g : ByteArray) (iv now : Int) (w : World) (h : closeC ⟨false, p, 0, e, g.data.toList⟩ lv = (bs, r)) (hr : r ≠ 0) :
    Calls Try.prog 8 #[wtV lv e p g iv 0 0 0 false false, .int .i64 now] w fun x w' => x = .returned (.tuple #[noneWV, .int .i64 (r : Int)]) ∧ Below w.heap.size w w' := by
  obtain ⟨b, hb⟩ : ∃ b : ByteArray, (⟨bs.toArray⟩ : ByteArray) = b := ⟨_, rfl⟩
  have HC := Lib.hid h
  have HBB := Lib.hid hb
  clear h hb
  have q1 : ((r : Int) != 0) = true := bne_iff_ne.2 (by omega)
  clear hr
  go_enter Try.func8, Try.ntmps8
  go_upto_region 1 with (fail)
  have HA := Lib.hid (blk_two w 31 31 (wtC lv e p g iv 0 0 0 false false) noneWC)
  have HR := Lib.hid (fresh_second w (.cells (wtC lv e p g iv 0 0 0 false false) 31) 31 noneWC)
  have HB := Lib.hid (below_two w (.cells (wtC lv e p g iv 0 0 0 false false) 31) (.cells noneWC 31))
  generalize (w.alloc (.cells (wtC lv e p g iv 0 0 0 false false) 31)).alloc (.cells noneWC 31) = w0 at HA HR HB ⊢
  obtain ⟨c0, c1, c2, c3, c4, c5, c6, c7, c8, c9, z0, z1, z2, z3, z4, z5, z6, z7, z8, z9⟩ := Rw10.row HA.out
  go_wp2_with fail
  refine (says_at lv e p g iv 0 0 0 false false w0 (bs := bs) (r := r) HC.out HBB.out).mono ?_
  rintro x w1 ⟨rfl, hb⟩
  have HA1 := Lib.hid (HA.out.below hb HA.out.lt)
  have HR1 := Lib.hid (HR.out.below hb HR.out.lt)
  have HB1 := Lib.hid (HB.out.trans (hb.mono HB.out.size))
  clear hb c0 c1 c2 c3 c4 c5 c6 c7 c8 c9 z0 z1 z2 z3 z4 z5 z6 z7 z8 z9
  obtain ⟨c0, c1, c2, c3, c4, c5, c6, c7, c8, c9, z0, z1, z2, z3, z4, z5, z6, z7, z8, z9⟩ := Rw10.row HA1.out
  obtain ⟨_, _, _, _, _, _, _, _, _, _, y0, y1, y2, y3, y4, y5, y6, y7, y8, y9⟩ := Rw10.row HR1.out
  go_wp2
  (try simp only [Exit.inBlock, Exit.then]); refine bodyPost_ret (results_row2 rfl _ _ (w.heap.size + 1) 31 _ (0, 0) _ rfl (Rw10.blk_set HR1.out _ _ _ _ _ _ _ _ _ _) Try.underlying31 rfl info_rw) rfl ?_
  exact ⟨rfl, Rw10.below_set HB1.out (by omega) _ _ _ _ _ _ _ _ _ _⟩
set_option maxRecDepth 100000 in
set_option maxHeartbeats 2000000 in
theorem rnew_badI1 {bs : List UInt8} {r : Nat} (lv e p : Nat) (g : ByteArray) (iv now : Int) (w : World) (h : closeC ⟨false, p, 0, e, g.data.toList⟩ lv = (bs, r)) (hr : r = 0) (hi : iv < 1) :
    Calls Try.prog 8 #[wtV lv e p g iv 0 0 0 false false, .int .i64 now] w fun x w' => x = .returned (.tuple #[noneWV, .int .i64 4]) ∧ Below w.heap.size w w' := by
  obtain ⟨b, hb⟩ : ∃ b : ByteArray, (⟨bs.toArray⟩ : ByteArray) = b := ⟨_, rfl⟩
  have HC := Lib.hid h
  have HBB := Lib.hid hb
  clear h hb
  have q1 : ((r : Int) != 0) = false := by rw [hr]; rfl
  clear hr
  have dhi : decide (iv < 1) = true := decide_eq_true hi
  clear hi
  go_enter Try.func8, Try.ntmps8
  go_upto_region 1 with (fail)
  have HA := Lib.hid (blk_two w 31 31 (wtC lv e p g iv 0 0 0 false false) noneWC)
  have HR := Lib.hid (fresh_second w (.cells (wtC lv e p g iv 0 0 0 false false) 31) 31 noneWC)
  have HB := Lib.hid (below_two w (.cells (wtC lv e p g iv 0 0 0 false false) 31) (.cells noneWC 31))
  generalize (w.alloc (.cells (wtC lv e p g iv 0 0 0 false false) 31)).alloc (.cells noneWC 31) = w0 at HA HR HB ⊢
  obtain ⟨c0, c1, c2, c3, c4, c5, c6, c7, c8, c9, z0, z1, z2, z3, z4, z5, z6, z7, z8, z9⟩ := Rw10.row HA.out
  go_wp2_with fail
  refine (says_at lv e p g iv 0 0 0 false false w0 (bs := bs) (r := r) HC.out HBB.out).mono ?_
  rintro x w1 ⟨rfl, hb⟩
  have HA1 := Lib.hid (HA.out.below hb HA.out.lt)
  have HR1 := Lib.hid (HR.out.below hb HR.out.lt)
  have HB1 := Lib.hid (HB.out.trans (hb.mono HB.out.size))
  clear hb c0 c1 c2 c3 c4 c5 c6 c7 c8 c9 z0 z1 z2 z3 z4 z5 z6 z7 z8 z9
  obtain ⟨c0, c1, c2, c3, c4, c5, c6, c7, c8, c9, z0, z1, z2, z3, z4, z5, z6, z7, z8, z9⟩ := Rw10.row HA1.out
  obtain ⟨_, _, _, _, _, _, _, _, _, _, y0, y1, y2, y3, y4, y5, y6, y7, y8, y9⟩ := Rw10.row HR1.out
  go_wp2
  (try simp only [Exit.inBlock, Exit.then]); refine bodyPost_ret (results_row2 rfl _ _ (w.heap.size + 1) 31 _ (0, 0) _ rfl (Rw10.blk_set HR1.out _ _ _ _ _ _ _ _ _ _) Try.underlying31 rfl info_rw) rfl ?_
  exact ⟨rfl, Rw10.below_set HB1.out (by omega) _ _ _ _ _ _ _ _ _ _⟩
set_option maxRecDepth 100000 in
set_option maxHeartbeats 2000000 in
theorem rnew_badI2 {bs : List UInt8} {r : Nat} (lv e p : Nat) (g : ByteArray) (iv now : Int) (w : World) (h : closeC ⟨false, p, 0, e, g.data.toList⟩ lv = (bs, r)) (hr : r = 0) (hi : ¬ iv < 1) (hj : 1048576 < iv) :
    Calls Try.prog 8 #[wtV lv e p g iv 0 0 0 false false, .int .i64 now] w fun x w' => x = .returned (.tuple #[noneWV, .int .i64 4]) ∧ Below w.heap.size w w' := by
  obtain ⟨b, hb⟩ : ∃ b : ByteArray, (⟨bs.toArray⟩ : ByteArray) = b := ⟨_, rfl⟩
  have HC := Lib.hid h
  have HBB := Lib.hid hb
  clear h hb
  have q1 : ((r : Int) != 0) = false := by rw [hr]; rfl
  clear hr
  have dhi : decide (iv < 1) = false := decide_eq_false hi
  clear hi
  have dhj : decide (1048576 < iv) = true := decide_eq_true hj
  clear hj
  go_enter Try.func8, Try.ntmps8
  go_upto_region 1 with (fail)
  have HA := Lib.hid (blk_two w 31 31 (wtC lv e p g iv 0 0 0 false false) noneWC)
  have HR := Lib.hid (fresh_second w (.cells (wtC lv e p g iv 0 0 0 false false) 31) 31 noneWC)
  have HB := Lib.hid (below_two w (.cells (wtC lv e p g iv 0 0 0 false false) 31) (.cells noneWC 31))
  generalize (w.alloc (.cells (wtC lv e p g iv 0 0 0 false false) 31)).alloc (.cells noneWC 31) = w0 at HA HR HB ⊢
  obtain ⟨c0, c1, c2, c3, c4, c5, c6, c7, c8, c9, z0, z1, z2, z3, z4, z5, z6, z7, z8, z9⟩ := Rw10.row HA.out
  go_wp2_with fail
  refine (says_at lv e p g iv 0 0 0 false false w0 (bs := bs) (r := r) HC.out HBB.out).mono ?_
  rintro x w1 ⟨rfl, hb⟩
  have HA1 := Lib.hid (HA.out.below hb HA.out.lt)
  have HR1 := Lib.hid (HR.out.below hb HR.out.lt)
  have HB1 := Lib.hid (HB.out.trans (hb.mono HB.out.size))
  clear hb c0 c1 c2 c3 c4 c5 c6 c7 c8 c9 z0 z1 z2 z3 z4 z5 z6 z7 z8 z9
  obtain ⟨c0, c1, c2, c3, c4, c5, c6, c7, c8, c9, z0, z1, z2, z3, z4, z5, z6, z7, z8, z9⟩ := Rw10.row HA1.out
  obtain ⟨_, _, _, _, _, _, _, _, _, _, y0, y1, y2, y3, y4, y5, y6, y7, y8, y9⟩ := Rw10.row HR1.out
  go_wp2
  (try simp only [Exit.inBlock, Exit.then]); refine bodyPost_ret (results_row2 rfl _ _ (w.heap.size + 1) 31 _ (0, 0) _ rfl (Rw10.blk_set HR1.out _ _ _ _ _ _ _ _ _ _) Try.underlying31 rfl info_rw) rfl ?_
  exact ⟨rfl, Rw10.below_set HB1.out (by omega) _ _ _ _ _ _ _ _ _ _⟩
set_option maxRecDepth 100000 in
set_option maxHeartbeats 2000000 in
theorem rnew_badN1 {bs : List UInt8} {r : Nat} (lv e p : Nat) (g : ByteArray) (iv now : Int) (w : World) (h : closeC ⟨false, p, 0, e, g.data.toList⟩ lv = (bs, r)) (hr : r = 0) (hi : ¬ iv < 1) (hj : ¬ 1048576 < iv) (hn : now < 0) :
    Calls Try.prog 8 #[wtV lv e p g iv 0 0 0 false false, .int .i64 now] w fun x w' => x = .returned (.tuple #[noneWV, .int .i64 4]) ∧ Below w.heap.size w w' := by
  obtain ⟨b, hb⟩ : ∃ b : ByteArray, (⟨bs.toArray⟩ : ByteArray) = b := ⟨_, rfl⟩
  have HC := Lib.hid h
  have HBB := Lib.hid hb
  clear h hb
  have q1 : ((r : Int) != 0) = false := by rw [hr]; rfl
  clear hr
  have dhi : decide (iv < 1) = false := decide_eq_false hi
  clear hi
  have dhj : decide (1048576 < iv) = false := decide_eq_false hj
  clear hj
  have dhn : decide (now < 0) = true := decide_eq_true hn
  clear hn
  go_enter Try.func8, Try.ntmps8
  go_upto_region 1 with (fail)
  have HA := Lib.hid (blk_two w 31 31 (wtC lv e p g iv 0 0 0 false false) noneWC)
  have HR := Lib.hid (fresh_second w (.cells (wtC lv e p g iv 0 0 0 false false) 31) 31 noneWC)
  have HB := Lib.hid (below_two w (.cells (wtC lv e p g iv 0 0 0 false false) 31) (.cells noneWC 31))
  generalize (w.alloc (.cells (wtC lv e p g iv 0 0 0 false false) 31)).alloc (.cells noneWC 31) = w0 at HA HR HB ⊢
  obtain ⟨c0, c1, c2, c3, c4, c5, c6, c7, c8, c9, z0, z1, z2, z3, z4, z5, z6, z7, z8, z9⟩ := Rw10.row HA.out
  go_wp2_with fail
  refine (says_at lv e p g iv 0 0 0 false false w0 (bs := bs) (r := r) HC.out HBB.out).mono ?_
  rintro x w1 ⟨rfl, hb⟩
  have HA1 := Lib.hid (HA.out.below hb HA.out.lt)
  have HR1 := Lib.hid (HR.out.below hb HR.out.lt)
  have HB1 := Lib.hid (HB.out.trans (hb.mono HB.out.size))
  clear hb c0 c1 c2 c3 c4 c5 c6 c7 c8 c9 z0 z1 z2 z3 z4 z5 z6 z7 z8 z9
  obtain ⟨c0, c1, c2, c3, c4, c5, c6, c7, c8, c9, z0, z1, z2, z3, z4, z5, z6, z7, z8, z9⟩ := Rw10.row HA1.out
  obtain ⟨_, _, _, _, _, _, _, _, _, _, y0, y1, y2, y3, y4, y5, y6, y7, y8, y9⟩ := Rw10.row HR1.out
  go_wp2
  (try simp only [Exit.inBlock, Exit.then]); refine bodyPost_ret (results_row2 rfl _ _ (w.heap.size + 1) 31 _ (0, 0) _ rfl (Rw10.blk_set HR1.out _ _ _ _ _ _ _ _ _ _) Try.underlying31 rfl info_rw) rfl ?_
  exact ⟨rfl, Rw10.below_set HB1.out (by omega) _ _ _ _ _ _ _ _ _ _⟩
set_option maxRecDepth 100000 in
set_option maxHeartbeats 2000000 in
theorem rnew_badN2 {bs : List UInt8} {r : Nat} (lv e p : Nat) (g : ByteArray) (iv now : Int) (w : World) (h : closeC ⟨false, p, 0, e, g.data.toList⟩ lv = (bs, r)) (hr : r = 0) (hi : ¬ iv < 1) (hj : ¬ 1048576 < iv) (hn : ¬ now < 0) (hm : 1099511627776 < now) :
    Calls Try.prog 8 #[wtV lv e p g iv 0 0 0 false false, .int .i64 now] w fun x w' => x = .returned (.tuple #[noneWV, .int .i64 4]) ∧ Below w.heap.size w w' := by
  obtain ⟨b, hb⟩ : ∃ b : ByteArray, (⟨bs.toArray⟩ : ByteArray) = b := ⟨_, rfl⟩
  have HC := Lib.hid h
  have HBB := Lib.hid hb
  clear h hb
  have q1 : ((r : Int) != 0) = false := by rw [hr]; rfl
  clear hr
  have dhi : decide (iv < 1) = false := decide_eq_false hi
  clear hi
  have dhj : decide (1048576 < iv) = false := decide_eq_false hj
  clear hj
  have dhn : decide (now < 0) = false := decide_eq_false hn
  clear hn
  have dhm : decide (1099511627776 < now) = true := decide_eq_true hm
  clear hm
  go_enter Try.func8, Try.ntmps8
  go_upto_region 1 with (fail)
  have HA := Lib.hid (blk_two w 31 31 (wtC lv e p g iv 0 0 0 false false) noneWC)
  have HR := Lib.hid (fresh_second w (.cells (wtC lv e p g iv 0 0 0 false false) 31) 31 noneWC)
  have HB := Lib.hid (below_two w (.cells (wtC lv e p g iv 0 0 0 false false) 31) (.cells noneWC 31))
  generalize (w.alloc (.cells (wtC lv e p g iv 0 0 0 false false) 31)).alloc (.cells noneWC 31) = w0 at HA HR HB ⊢
  obtain ⟨c0, c1, c2, c3, c4, c5, c6, c7, c8, c9, z0, z1, z2, z3, z4, z5, z6, z7, z8, z9⟩ := Rw10.row HA.out
  go_wp2_with fail
  refine (says_at lv e p g iv 0 0 0 false false w0 (bs := bs) (r := r) HC.out HBB.out).mono ?_
  rintro x w1 ⟨rfl, hb⟩
  have HA1 := Lib.hid (HA.out.below hb HA.out.lt)
  have HR1 := Lib.hid (HR.out.below hb HR.out.lt)
  have HB1 := Lib.hid (HB.out.trans (hb.mono HB.out.size))
  clear hb c0 c1 c2 c3 c4 c5 c6 c7 c8 c9 z0 z1 z2 z3 z4 z5 z6 z7 z8 z9
  obtain ⟨c0, c1, c2, c3, c4, c5, c6, c7, c8, c9, z0, z1, z2, z3, z4, z5, z6, z7, z8, z9⟩ := Rw10.row HA1.out
  obtain ⟨_, _, _, _, _, _, _, _, _, _, y0, y1, y2, y3, y4, y5, y6, y7, y8, y9⟩ := Rw10.row HR1.out
  go_wp2
  (try simp only [Exit.inBlock, Exit.then]); refine bodyPost_ret (results_row2 rfl _ _ (w.heap.size + 1) 31 _ (0, 0) _ rfl (Rw10.blk_set HR1.out _ _ _ _ _ _ _ _ _ _) Try.underlying31 rfl info_rw) rfl ?_
  exact ⟨rfl, Rw10.below_set HB1.out (by omega) _ _ _ _ _ _ _ _ _ _⟩
set_option maxRecDepth 100000 in
set_option maxHeartbeats 2000000 in
theorem rnew_ok {bs : List UInt8} {r : Nat} (lv e p : Nat) (g : ByteArray) (iv now : Int) (w : World) (h : closeC ⟨false, p, 0, e, g.data.toList⟩ lv = (bs, r)) (hr : r = 0) (hi : ¬ iv < 1) (hj : ¬ 1048576 < iv) (hn : ¬ now < 0) (hm : ¬ 1099511627776 < now) :
    Calls Try.prog 8 #[wtV lv e p g iv 0 0 0 false false, .int .i64 now] w fun x w' => x = .returned (.tuple #[wtV lv e p g iv now now 0 false false, .int .i64 0]) ∧ Below w.heap.size w w' := by
  obtain ⟨b, hb⟩ : ∃ b : ByteArray, (⟨bs.toArray⟩ : ByteArray) = b := ⟨_, rfl⟩
  have HC := Lib.hid h
  have HBB := Lib.hid hb
  clear h hb
  have q1 : ((r : Int) != 0) = false := by rw [hr]; rfl
  clear hr
  have dhi : decide (iv < 1) = false := decide_eq_false hi
  clear hi
  have dhj : decide (1048576 < iv) = false := decide_eq_false hj
  clear hj
  have dhn : decide (now < 0) = false := decide_eq_false hn
  clear hn
  have dhm : decide (1099511627776 < now) = false := decide_eq_false hm
  clear hm
  go_enter Try.func8, Try.ntmps8
  go_upto_region 1 with (fail)
  have HA := Lib.hid (blk_two w 31 31 (wtC lv e p g iv 0 0 0 false false) noneWC)
  have HR := Lib.hid (fresh_second w (.cells (wtC lv e p g iv 0 0 0 false false) 31) 31 noneWC)
  have HB := Lib.hid (below_two w (.cells (wtC lv e p g iv 0 0 0 false false) 31) (.cells noneWC 31))
  generalize (w.alloc (.cells (wtC lv e p g iv 0 0 0 false false) 31)).alloc (.cells noneWC 31) = w0 at HA HR HB ⊢
  obtain ⟨c0, c1, c2, c3, c4, c5, c6, c7, c8, c9, z0, z1, z2, z3, z4, z5, z6, z7, z8, z9⟩ := Rw10.row HA.out
  go_wp2_with fail
  refine (says_at lv e p g iv 0 0 0 false false w0 (bs := bs) (r := r) HC.out HBB.out).mono ?_
  rintro x w1 ⟨rfl, hb⟩
  have HA1 := Lib.hid (HA.out.below hb HA.out.lt)
  have HR1 := Lib.hid (HR.out.below hb HR.out.lt)
  have HB1 := Lib.hid (HB.out.trans (hb.mono HB.out.size))
  clear hb c0 c1 c2 c3 c4 c5 c6 c7 c8 c9 z0 z1 z2 z3 z4 z5 z6 z7 z8 z9
  obtain ⟨c0, c1, c2, c3, c4, c5, c6, c7, c8, c9, z0, z1, z2, z3, z4, z5, z6, z7, z8, z9⟩ := Rw10.row HA1.out
  obtain ⟨_, _, _, _, _, _, _, _, _, _, y0, y1, y2, y3, y4, y5, y6, y7, y8, y9⟩ := Rw10.row HR1.out
  go_wp2
  (try simp only [Exit.inBlock, Exit.then]); refine bodyPost_ret (results_row2 rfl _ _ (w.heap.size + 1) 31 _ (0, 0) _ rfl (Rw10.blk_set ((HR1.out.far (p := ⟨w.heap.size, 5, none⟩) (by simp) _).far (p := ⟨w.heap.size, 6, none⟩) (by simp) _) _ _ _ _ _ _ _ _ _ _) Try.underlying31 rfl info_rw) rfl ?_
  exact ⟨rfl, Rw10.below_set ((HB1.out.setCell (p := ⟨w.heap.size, 5, none⟩) (Nat.le_refl _) _).setCell (p := ⟨w.heap.size, 6, none⟩) (Nat.le_refl _) _) (by omega) _ _ _ _ _ _ _ _ _ _⟩
end Go.Proofs.Ytlbnigdindpnfaa.Wa
