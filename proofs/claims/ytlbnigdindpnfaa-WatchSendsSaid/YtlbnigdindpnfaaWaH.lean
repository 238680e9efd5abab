/-
  Watch: Hear, the program's and the document's.
-/
import Derived.Test.YtlbnigdindpnfaaWaT
import Derived.Test.YtlbnigdindpnfaaCcmD
namespace Go.Proofs.Ytlbnigdindpnfaa.Wa
open Go.RowKit Go.Proofs.Ytlbnigdindpnfaa.Bt Go.Proofs.Ytlbnigdindpnfaa.Mm Go.Proofs.Ytlbnigdindpnfaa.Fl Go.Proofs.Ytlbnigdindpnfaa.Tg Go.Proofs.Ytlbnigdindpnfaa.Cc

set_option maxRecDepth 100000 in
set_option maxHeartbeats 2000000 in
theorem hear_err {mg : ByteArray} {mlo : Bool} {mp mc me : Nat} {gl : List UInt8} {r : Nat} (lv e p : Nat) (g : ByteArray) (iv hd nx now : Int) (sn : Nat) (lo fa : Bool) (s : ByteArray) (w : World) (h : openC s.data.toList lv = (⟨mlo, mp, mc, me, gl⟩, r)) (hm : (⟨gl.toArray⟩ : ByteArray) = mg) (hs : s.size ≤ maxLen) (hr : r ≠ 0) :
    Calls Try.prog 9 #[wtV lv e p g iv hd nx sn lo fa, .int .i64 now, .string s] w fun x w' => x = .returned (.tuple #[wtV lv e p g iv hd nx sn lo fa, .int .i64 (r : Int)]) ∧ Below w.heap.size w w' := by
  have HC := Lib.hid h
  have HM := Lib.hid hm
  have HS := Lib.hid hs
  clear h hm hs
  have q1 : ((r : Int) != 0) = true := bne_iff_ne.2 (by omega)
  clear hr
  go_enter Try.func9, Try.ntmps9
  go_upto_region 1 with (fail)
  have HA := Lib.hid (blk_two w 25 25 (wtC lv e p g iv hd nx sn lo fa) zeroWC)
  have HR := Lib.hid (fresh_second w (.cells (wtC lv e p g iv hd nx sn lo fa) 25) 25 zeroWC)
  have HB := Lib.hid (below_two w (.cells (wtC lv e p g iv hd nx sn lo fa) 25) (.cells zeroWC 25))
  generalize (w.alloc (.cells (wtC lv e p g iv hd nx sn lo fa) 25)).alloc (.cells zeroWC 25) = w0 at HA HR HB ⊢
  obtain ⟨c0, c1, c2, c3, c4, c5, c6, c7, c8, c9, z0, z1, z2, z3, z4, z5, z6, z7, z8, z9⟩ := Rw10.row HA.out
  go_wp2_with fail
  refine (Cc.open_at s lv w0 HC.out HS.out).mono ?_
  rintro x w1 ⟨rfl, hb⟩
  have hsz := HR.out.lt
  have HA1 := Lib.hid (HA.out.below hb HA.out.lt)
  have HR1 := Lib.hid (HR.out.below hb HR.out.lt)
  have HB1 := Lib.hid (HB.out.trans (hb.mono HB.out.size))
  have hs1 : w.heap.size + 1 < w1.heap.size := HR1.out.lt
  clear hb hsz c0 c1 c2 c3 c4 c5 c6 c7 c8 c9 z0 z1 z2 z3 z4 z5 z6 z7 z8 z9
  simp only [valC]
  rw [HM.out]
  go_upto_region 2 with (fail)
  have HM2 := Lib.hid (Blk.fresh w1 48 (cmC mlo mp mc me mg))
  have HA2 := Lib.hid (HA1.out.alloc (.cells (cmC mlo mp mc me mg) 48))
  have HR2 := Lib.hid (HR1.out.alloc (.cells (cmC mlo mp mc me mg) 48))
  have HB2 := Lib.hid (HB1.out.alloc HB1.out.size (.cells (cmC mlo mp mc me mg) 48))
  generalize w1.alloc (.cells (cmC mlo mp mc me mg) 48) = w2 at HM2 HA2 HR2 HB2 ⊢
  generalize w1.heap.size = m at HM2 hs1 ⊢
  obtain ⟨c0, c1, c2, c3, c4, c5, c6, c7, c8, c9, z0, z1, z2, z3, z4, z5, z6, z7, z8, z9⟩ := Rw10.row HA2.out
  obtain ⟨_, _, _, _, _, _, _, _, _, _, y0, y1, y2, y3, y4, y5, y6, y7, y8, y9⟩ := Rw10.row HR2.out
  obtain ⟨d0, d1, d2, d3, d4, _⟩ := Rw5.row HM2.out
  go_wp2
  (try simp only [Exit.inBlock, Exit.then]); refine bodyPost_ret (results_row2 rfl _ _ (w.heap.size + 1) 25 _ (0, 0) _ rfl (Rw10.blk_set HR2.out _ _ _ _ _ _ _ _ _ _) Try.underlying25 rfl info_w) rfl ?_
  exact ⟨rfl, (Rw10.below_set HB2.out (by omega) _ _ _ _ _ _ _ _ _ _)⟩
set_option maxRecDepth 100000 in
set_option maxHeartbeats 2000000 in
theorem hear_form {mg : ByteArray} {mlo : Bool} {mp mc me : Nat} {gl : List UInt8} {r : Nat} (lv e p : Nat) (g : ByteArray) (iv hd nx now : Int) (sn : Nat) (lo fa : Bool) (s : ByteArray) (w : World) (h : openC s.data.toList lv = (⟨mlo, mp, mc, me, gl⟩, r)) (hm : (⟨gl.toArray⟩ : ByteArray) = mg) (hs : s.size ≤ maxLen) (hr : r = 0) (hg : mg.data.toList ≠ g.data.toList) :
    Calls Try.prog 9 #[wtV lv e p g iv hd nx sn lo fa, .int .i64 now, .string s] w fun x w' => x = .returned (.tuple #[wtV lv e p g iv hd nx sn lo fa, .int .i64 3]) ∧ Below w.heap.size w w' := by
  have HC := Lib.hid h
  have HM := Lib.hid hm
  have HS := Lib.hid hs
  clear h hm hs
  have q1 : ((r : Int) != 0) = false := by rw [hr]; rfl
  clear hr
  have q2 : (mg.toList == g.toList) = false := beq_eq_false_iff_ne.2 (by rw [Go.ByteArray.toList_eq, Go.ByteArray.toList_eq]; exact hg)
  have q3 : (mg.toList != g.toList) = true := by rw [bne, q2]; rfl
  have q4 : (mg.data.toList == g.data.toList) = false := beq_eq_false_iff_ne.2 hg
  have q5 : (mg.data.toList != g.data.toList) = true := by rw [bne, q4]; rfl
  clear hg
  go_enter Try.func9, Try.ntmps9
  go_upto_region 1 with (fail)
  have HA := Lib.hid (blk_two w 25 25 (wtC lv e p g iv hd nx sn lo fa) zeroWC)
  have HR := Lib.hid (fresh_second w (.cells (wtC lv e p g iv hd nx sn lo fa) 25) 25 zeroWC)
  have HB := Lib.hid (below_two w (.cells (wtC lv e p g iv hd nx sn lo fa) 25) (.cells zeroWC 25))
  generalize (w.alloc (.cells (wtC lv e p g iv hd nx sn lo fa) 25)).alloc (.cells zeroWC 25) = w0 at HA HR HB ⊢
  obtain ⟨c0, c1, c2, c3, c4, c5, c6, c7, c8, c9, z0, z1, z2, z3, z4, z5, z6, z7, z8, z9⟩ := Rw10.row HA.out
  go_wp2_with fail
  refine (Cc.open_at s lv w0 HC.out HS.out).mono ?_
  rintro x w1 ⟨rfl, hb⟩
  have hsz := HR.out.lt
  have HA1 := Lib.hid (HA.out.below hb HA.out.lt)
  have HR1 := Lib.hid (HR.out.below hb HR.out.lt)
  have HB1 := Lib.hid (HB.out.trans (hb.mono HB.out.size))
  have hs1 : w.heap.size + 1 < w1.heap.size := HR1.out.lt
  clear hb hsz c0 c1 c2 c3 c4 c5 c6 c7 c8 c9 z0 z1 z2 z3 z4 z5 z6 z7 z8 z9
  simp only [valC]
  rw [HM.out]
  go_upto_region 2 with (fail)
  have HM2 := Lib.hid (Blk.fresh w1 48 (cmC mlo mp mc me mg))
  have HA2 := Lib.hid (HA1.out.alloc (.cells (cmC mlo mp mc me mg) 48))
  have HR2 := Lib.hid (HR1.out.alloc (.cells (cmC mlo mp mc me mg) 48))
  have HB2 := Lib.hid (HB1.out.alloc HB1.out.size (.cells (cmC mlo mp mc me mg) 48))
  generalize w1.alloc (.cells (cmC mlo mp mc me mg) 48) = w2 at HM2 HA2 HR2 HB2 ⊢
  generalize w1.heap.size = m at HM2 hs1 ⊢
  obtain ⟨c0, c1, c2, c3, c4, c5, c6, c7, c8, c9, z0, z1, z2, z3, z4, z5, z6, z7, z8, z9⟩ := Rw10.row HA2.out
  obtain ⟨_, _, _, _, _, _, _, _, _, _, y0, y1, y2, y3, y4, y5, y6, y7, y8, y9⟩ := Rw10.row HR2.out
  obtain ⟨d0, d1, d2, d3, d4, _⟩ := Rw5.row HM2.out
  go_wp2
  (try simp only [Exit.inBlock, Exit.then]); refine bodyPost_ret (results_row2 rfl _ _ (w.heap.size + 1) 25 _ (0, 0) _ rfl (Rw10.blk_set HR2.out _ _ _ _ _ _ _ _ _ _) Try.underlying25 rfl info_w) rfl ?_
  exact ⟨rfl, (Rw10.below_set HB2.out (by omega) _ _ _ _ _ _ _ _ _ _)⟩
set_option maxRecDepth 100000 in
set_option maxHeartbeats 2000000 in
theorem hear_name {mg : ByteArray} {mlo : Bool} {mp mc me : Nat} {gl : List UInt8} {r : Nat} (lv e p : Nat) (g : ByteArray) (iv hd nx now : Int) (sn : Nat) (lo fa : Bool) (s : ByteArray) (w : World) (h : openC s.data.toList lv = (⟨mlo, mp, mc, me, gl⟩, r)) (hm : (⟨gl.toArray⟩ : ByteArray) = mg) (hs : s.size ≤ maxLen) (hr : r = 0) (hg : mg = g) (he : me = e) :
    Calls Try.prog 9 #[wtV lv e p g iv hd nx sn lo fa, .int .i64 now, .string s] w fun x w' => x = .returned (.tuple #[wtV lv e p g iv hd nx sn lo fa, .int .i64 10]) ∧ Below w.heap.size w w' := by
  have HC := Lib.hid h
  have HM := Lib.hid hm
  have HS := Lib.hid hs
  clear h hm hs
  have q1 : ((r : Int) != 0) = false := by rw [hr]; rfl
  clear hr
  subst hg
  have q2 : (mg.toList == mg.toList) = true := beq_iff_eq.2 rfl
  have q3 : (mg.toList != mg.toList) = false := by rw [bne, q2]; rfl
  have q4 : (mg.data.toList == mg.data.toList) = true := beq_iff_eq.2 rfl
  have q5 : (mg.data.toList != mg.data.toList) = false := by rw [bne, q4]; rfl
  have q6 : ((me : Int) == (e : Int)) = true := beq_iff_eq.2 (by omega)
  clear he
  go_enter Try.func9, Try.ntmps9
  go_upto_region 1 with (fail)
  have HA := Lib.hid (blk_two w 25 25 (wtC lv e p mg iv hd nx sn lo fa) zeroWC)
  have HR := Lib.hid (fresh_second w (.cells (wtC lv e p mg iv hd nx sn lo fa) 25) 25 zeroWC)
  have HB := Lib.hid (below_two w (.cells (wtC lv e p mg iv hd nx sn lo fa) 25) (.cells zeroWC 25))
  generalize (w.alloc (.cells (wtC lv e p mg iv hd nx sn lo fa) 25)).alloc (.cells zeroWC 25) = w0 at HA HR HB ⊢
  obtain ⟨c0, c1, c2, c3, c4, c5, c6, c7, c8, c9, z0, z1, z2, z3, z4, z5, z6, z7, z8, z9⟩ := Rw10.row HA.out
  go_wp2_with fail
  refine (Cc.open_at s lv w0 HC.out HS.out).mono ?_
  rintro x w1 ⟨rfl, hb⟩
  have hsz := HR.out.lt
  have HA1 := Lib.hid (HA.out.below hb HA.out.lt)
  have HR1 := Lib.hid (HR.out.below hb HR.out.lt)
  have HB1 := Lib.hid (HB.out.trans (hb.mono HB.out.size))
  have hs1 : w.heap.size + 1 < w1.heap.size := HR1.out.lt
  clear hb hsz c0 c1 c2 c3 c4 c5 c6 c7 c8 c9 z0 z1 z2 z3 z4 z5 z6 z7 z8 z9
  simp only [valC]
  rw [HM.out]
  go_upto_region 2 with (fail)
  have HM2 := Lib.hid (Blk.fresh w1 48 (cmC mlo mp mc me mg))
  have HA2 := Lib.hid (HA1.out.alloc (.cells (cmC mlo mp mc me mg) 48))
  have HR2 := Lib.hid (HR1.out.alloc (.cells (cmC mlo mp mc me mg) 48))
  have HB2 := Lib.hid (HB1.out.alloc HB1.out.size (.cells (cmC mlo mp mc me mg) 48))
  generalize w1.alloc (.cells (cmC mlo mp mc me mg) 48) = w2 at HM2 HA2 HR2 HB2 ⊢
  generalize w1.heap.size = m at HM2 hs1 ⊢
  obtain ⟨c0, c1, c2, c3, c4, c5, c6, c7, c8, c9, z0, z1, z2, z3, z4, z5, z6, z7, z8, z9⟩ := Rw10.row HA2.out
  obtain ⟨_, _, _, _, _, _, _, _, _, _, y0, y1, y2, y3, y4, y5, y6, y7, y8, y9⟩ := Rw10.row HR2.out
  obtain ⟨d0, d1, d2, d3, d4, _⟩ := Rw5.row HM2.out
  go_wp2
  (try simp only [Exit.inBlock, Exit.then]); refine bodyPost_ret (results_row2 rfl _ _ (w.heap.size + 1) 25 _ (0, 0) _ rfl (Rw10.blk_set HR2.out _ _ _ _ _ _ _ _ _ _) Try.underlying25 rfl info_w) rfl ?_
  exact ⟨rfl, (Rw10.below_set HB2.out (by omega) _ _ _ _ _ _ _ _ _ _)⟩
set_option maxRecDepth 100000 in
set_option maxHeartbeats 2000000 in
theorem hear_range {mg : ByteArray} {mlo : Bool} {mp mc me : Nat} {gl : List UInt8} {r : Nat} (lv e p : Nat) (g : ByteArray) (iv hd nx now : Int) (sn : Nat) (lo fa : Bool) (s : ByteArray) (w : World) (h : openC s.data.toList lv = (⟨mlo, mp, mc, me, gl⟩, r)) (hm : (⟨gl.toArray⟩ : ByteArray) = mg) (hs : s.size ≤ maxLen) (hr : r = 0) (hg : mg = g) (he : me ≠ e) (hp : mp ≠ p) :
    Calls Try.prog 9 #[wtV lv e p g iv hd nx sn lo fa, .int .i64 now, .string s] w fun x w' => x = .returned (.tuple #[wtV lv e p g iv hd nx sn lo fa, .int .i64 4]) ∧ Below w.heap.size w w' := by
  have HC := Lib.hid h
  have HM := Lib.hid hm
  have HS := Lib.hid hs
  clear h hm hs
  have q1 : ((r : Int) != 0) = false := by rw [hr]; rfl
  clear hr
  subst hg
  have q2 : (mg.toList == mg.toList) = true := beq_iff_eq.2 rfl
  have q3 : (mg.toList != mg.toList) = false := by rw [bne, q2]; rfl
  have q4 : (mg.data.toList == mg.data.toList) = true := beq_iff_eq.2 rfl
  have q5 : (mg.data.toList != mg.data.toList) = false := by rw [bne, q4]; rfl
  have q6 : ((me : Int) == (e : Int)) = false := beq_eq_false_iff_ne.2 (by omega)
  clear he
  have q7 : ((mp : Int) != (p : Int)) = true := bne_iff_ne.2 (by omega)
  clear hp
  go_enter Try.func9, Try.ntmps9
  go_upto_region 1 with (fail)
  have HA := Lib.hid (blk_two w 25 25 (wtC lv e p mg iv hd nx sn lo fa) zeroWC)
  have HR := Lib.hid (fresh_second w (.cells (wtC lv e p mg iv hd nx sn lo fa) 25) 25 zeroWC)
  have HB := Lib.hid (below_two w (.cells (wtC lv e p mg iv hd nx sn lo fa) 25) (.cells zeroWC 25))
  generalize (w.alloc (.cells (wtC lv e p mg iv hd nx sn lo fa) 25)).alloc (.cells zeroWC 25) = w0 at HA HR HB ⊢
  obtain ⟨c0, c1, c2, c3, c4, c5, c6, c7, c8, c9, z0, z1, z2, z3, z4, z5, z6, z7, z8, z9⟩ := Rw10.row HA.out
  go_wp2_with fail
  refine (Cc.open_at s lv w0 HC.out HS.out).mono ?_
  rintro x w1 ⟨rfl, hb⟩
  have hsz := HR.out.lt
  have HA1 := Lib.hid (HA.out.below hb HA.out.lt)
  have HR1 := Lib.hid (HR.out.below hb HR.out.lt)
  have HB1 := Lib.hid (HB.out.trans (hb.mono HB.out.size))
  have hs1 : w.heap.size + 1 < w1.heap.size := HR1.out.lt
  clear hb hsz c0 c1 c2 c3 c4 c5 c6 c7 c8 c9 z0 z1 z2 z3 z4 z5 z6 z7 z8 z9
  simp only [valC]
  rw [HM.out]
  go_upto_region 2 with (fail)
  have HM2 := Lib.hid (Blk.fresh w1 48 (cmC mlo mp mc me mg))
  have HA2 := Lib.hid (HA1.out.alloc (.cells (cmC mlo mp mc me mg) 48))
  have HR2 := Lib.hid (HR1.out.alloc (.cells (cmC mlo mp mc me mg) 48))
  have HB2 := Lib.hid (HB1.out.alloc HB1.out.size (.cells (cmC mlo mp mc me mg) 48))
  generalize w1.alloc (.cells (cmC mlo mp mc me mg) 48) = w2 at HM2 HA2 HR2 HB2 ⊢
  generalize w1.heap.size = m at HM2 hs1 ⊢
  obtain ⟨c0, c1, c2, c3, c4, c5, c6, c7, c8, c9, z0, z1, z2, z3, z4, z5, z6, z7, z8, z9⟩ := Rw10.row HA2.out
  obtain ⟨_, _, _, _, _, _, _, _, _, _, y0, y1, y2, y3, y4, y5, y6, y7, y8, y9⟩ := Rw10.row HR2.out
  obtain ⟨d0, d1, d2, d3, d4, _⟩ := Rw5.row HM2.out
  go_wp2
  (try simp only [Exit.inBlock, Exit.then]); refine bodyPost_ret (results_row2 rfl _ _ (w.heap.size + 1) 25 _ (0, 0) _ rfl (Rw10.blk_set HR2.out _ _ _ _ _ _ _ _ _ _) Try.underlying25 rfl info_w) rfl ?_
  exact ⟨rfl, (Rw10.below_set HB2.out (by omega) _ _ _ _ _ _ _ _ _ _)⟩
set_option maxRecDepth 100000 in
set_option maxHeartbeats 2000000 in
theorem hear_ok {mg : ByteArray} {mlo : Bool} {mp mc me : Nat} {gl : List UInt8} {r : Nat} (lv e p : Nat) (g : ByteArray) (iv hd nx now : Int) (sn : Nat) (lo fa : Bool) (s : ByteArray) (w : World) (h : openC s.data.toList lv = (⟨mlo, mp, mc, me, gl⟩, r)) (hm : (⟨gl.toArray⟩ : ByteArray) = mg) (hs : s.size ≤ maxLen) (hr : r = 0) (hg : mg = g) (he : me ≠ e) (hp : mp = p) :
    Calls Try.prog 9 #[wtV lv e p g iv hd nx sn lo fa, .int .i64 now, .string s] w fun x w' => x = .returned (.tuple #[wtV lv e p g iv now nx sn false mlo, .int .i64 0]) ∧ Below w.heap.size w w' := by
  have HC := Lib.hid h
  have HM := Lib.hid hm
  have HS := Lib.hid hs
  clear h hm hs
  have q1 : ((r : Int) != 0) = false := by rw [hr]; rfl
  clear hr
  subst hg
  have q2 : (mg.toList == mg.toList) = true := beq_iff_eq.2 rfl
  have q3 : (mg.toList != mg.toList) = false := by rw [bne, q2]; rfl
  have q4 : (mg.data.toList == mg.data.toList) = true := beq_iff_eq.2 rfl
  have q5 : (mg.data.toList != mg.data.toList) = false := by rw [bne, q4]; rfl
  have q6 : ((me : Int) == (e : Int)) = false := beq_eq_false_iff_ne.2 (by omega)
  clear he
  have q7 : ((mp : Int) != (p : Int)) = false := by rw [hp]; simp
  clear hp
  go_enter Try.func9, Try.ntmps9
  go_upto_region 1 with (fail)
  have HA := Lib.hid (blk_two w 25 25 (wtC lv e p mg iv hd nx sn lo fa) zeroWC)
  have HR := Lib.hid (fresh_second w (.cells (wtC lv e p mg iv hd nx sn lo fa) 25) 25 zeroWC)
  have HB := Lib.hid (below_two w (.cells (wtC lv e p mg iv hd nx sn lo fa) 25) (.cells zeroWC 25))
  generalize (w.alloc (.cells (wtC lv e p mg iv hd nx sn lo fa) 25)).alloc (.cells zeroWC 25) = w0 at HA HR HB ⊢
  obtain ⟨c0, c1, c2, c3, c4, c5, c6, c7, c8, c9, z0, z1, z2, z3, z4, z5, z6, z7, z8, z9⟩ := Rw10.row HA.out
  go_wp2_with fail
  refine (Cc.open_at s lv w0 HC.out HS.out).mono ?_
  rintro x w1 ⟨rfl, hb⟩
  have hsz := HR.out.lt
  have HA1 := Lib.hid (HA.out.below hb HA.out.lt)
  have HR1 := Lib.hid (HR.out.below hb HR.out.lt)
  have HB1 := Lib.hid (HB.out.trans (hb.mono HB.out.size))
  have hs1 : w.heap.size + 1 < w1.heap.size := HR1.out.lt
  clear hb hsz c0 c1 c2 c3 c4 c5 c6 c7 c8 c9 z0 z1 z2 z3 z4 z5 z6 z7 z8 z9
  simp only [valC]
  rw [HM.out]
  go_upto_region 2 with (fail)
  have HM2 := Lib.hid (Blk.fresh w1 48 (cmC mlo mp mc me mg))
  have HA2 := Lib.hid (HA1.out.alloc (.cells (cmC mlo mp mc me mg) 48))
  have HR2 := Lib.hid (HR1.out.alloc (.cells (cmC mlo mp mc me mg) 48))
  have HB2 := Lib.hid (HB1.out.alloc HB1.out.size (.cells (cmC mlo mp mc me mg) 48))
  generalize w1.alloc (.cells (cmC mlo mp mc me mg) 48) = w2 at HM2 HA2 HR2 HB2 ⊢
  generalize w1.heap.size = m at HM2 hs1 ⊢
  obtain ⟨c0, c1, c2, c3, c4, c5, c6, c7, c8, c9, z0, z1, z2, z3, z4, z5, z6, z7, z8, z9⟩ := Rw10.row HA2.out
  obtain ⟨_, _, _, _, _, _, _, _, _, _, y0, y1, y2, y3, y4, y5, y6, y7, y8, y9⟩ := Rw10.row HR2.out
  obtain ⟨d0, d1, d2, d3, d4, _⟩ := Rw5.row HM2.out
  have n1 : w.heap.size ≠ m := by omega
  have n2 : m ≠ w.heap.size := by omega
  go_upto_region 10 with (fail)
  go_region
  go_wp2
  (try simp only [Exit.inBlock, Exit.then]); refine bodyPost_ret (results_row2 rfl _ _ (w.heap.size + 1) 25 _ (0, 0) _ rfl (Rw10.blk_set (((HR2.out.far (p := ⟨w.heap.size, 5, none⟩) (by simp) _).far (p := ⟨w.heap.size, 8, none⟩) (by simp) _).far (p := ⟨w.heap.size, 9, none⟩) (by simp) _) _ _ _ _ _ _ _ _ _ _).drew Try.underlying25 rfl info_w) rfl ?_
  exact ⟨rfl, (Rw10.below_set (((HB2.out.setCell (p := ⟨w.heap.size, 5, none⟩) (Nat.le_refl _) _).setCell (p := ⟨w.heap.size, 8, none⟩) (Nat.le_refl _) _).setCell (p := ⟨w.heap.size, 9, none⟩) (Nat.le_refl _) _) (by omega) _ _ _ _ _ _ _ _ _ _).drew⟩
set_option maxRecDepth 100000 in
set_option maxHeartbeats 2000000 in
theorem rhear_err {mg : ByteArray} {mlo : Bool} {mp mc me : Nat} {gl : List UInt8} {r : Nat} (lv e p : Nat) (g : ByteArray) (iv hd nx now : Int) (sn : Nat) (lo fa : Bool) (s : ByteArray) (w : World) (h : openC s.data.toList lv = (⟨mlo, mp, mc, me, gl⟩, r)) (hm : (⟨gl.toArray⟩ : ByteArray) = mg) (hs : s.size ≤ maxLen) (hr : r ≠ 0) :
    Calls Try.prog 10 #[wtV lv e p g iv hd nx sn lo fa, .int .i64 now, .string s] w fun x w' => x = .returned (.tuple #[wtV lv e p g iv hd nx sn lo fa, .int .i64 (r : Int)]) ∧ Below w.heap.size w w' := by
  have HC := Lib.hid h
  have HM := Lib.hid hm
  have HS := Lib.hid hs
  clear h hm hs
  have q1 : ((r : Int) != 0) = true := bne_iff_ne.2 (by omega)
  clear hr
  go_enter Try.func10, Try.ntmps10
  go_upto_region 1 with (fail)
  have HA := Lib.hid (blk_two w 31 31 (wtC lv e p g iv hd nx sn lo fa) zeroWC)
  have HR := Lib.hid (fresh_second w (.cells (wtC lv e p g iv hd nx sn lo fa) 31) 31 zeroWC)
  have HB := Lib.hid (below_two w (.cells (wtC lv e p g iv hd nx sn lo fa) 31) (.cells zeroWC 31))
  generalize (w.alloc (.cells (wtC lv e p g iv hd nx sn lo fa) 31)).alloc (.cells zeroWC 31) = w0 at HA HR HB ⊢
  obtain ⟨c0, c1, c2, c3, c4, c5, c6, c7, c8, c9, z0, z1, z2, z3, z4, z5, z6, z7, z8, z9⟩ := Rw10.row HA.out
  go_wp2_with fail
  refine (Cc.ropen_at s lv w0 HC.out).mono ?_
  rintro x w1 ⟨rfl, hb⟩
  have hsz := HR.out.lt
  have HA1 := Lib.hid (HA.out.below hb HA.out.lt)
  have HR1 := Lib.hid (HR.out.below hb HR.out.lt)
  have HB1 := Lib.hid (HB.out.trans (hb.mono HB.out.size))
  have hs1 : w.heap.size + 1 < w1.heap.size := HR1.out.lt
  clear hb hsz c0 c1 c2 c3 c4 c5 c6 c7 c8 c9 z0 z1 z2 z3 z4 z5 z6 z7 z8 z9
  simp only [valC]
  rw [HM.out]
  go_upto_region 2 with (fail)
  have HM2 := Lib.hid (Blk.fresh w1 57 (cmC mlo mp mc me mg))
  have HA2 := Lib.hid (HA1.out.alloc (.cells (cmC mlo mp mc me mg) 57))
  have HR2 := Lib.hid (HR1.out.alloc (.cells (cmC mlo mp mc me mg) 57))
  have HB2 := Lib.hid (HB1.out.alloc HB1.out.size (.cells (cmC mlo mp mc me mg) 57))
  generalize w1.alloc (.cells (cmC mlo mp mc me mg) 57) = w2 at HM2 HA2 HR2 HB2 ⊢
  generalize w1.heap.size = m at HM2 hs1 ⊢
  obtain ⟨c0, c1, c2, c3, c4, c5, c6, c7, c8, c9, z0, z1, z2, z3, z4, z5, z6, z7, z8, z9⟩ := Rw10.row HA2.out
  obtain ⟨_, _, _, _, _, _, _, _, _, _, y0, y1, y2, y3, y4, y5, y6, y7, y8, y9⟩ := Rw10.row HR2.out
  obtain ⟨d0, d1, d2, d3, d4, _⟩ := Rw5.row HM2.out
  go_wp2
  (try simp only [Exit.inBlock, Exit.then]); refine bodyPost_ret (results_row2 rfl _ _ (w.heap.size + 1) 31 _ (0, 0) _ rfl (Rw10.blk_set HR2.out _ _ _ _ _ _ _ _ _ _) Try.underlying31 rfl info_rw) rfl ?_
  exact ⟨rfl, (Rw10.below_set HB2.out (by omega) _ _ _ _ _ _ _ _ _ _)⟩
set_option maxRecDepth 100000 in
set_option maxHeartbeats 2000000 in
theorem rhear_form {mg : ByteArray} {mlo : Bool} {mp mc me : Nat} {gl : List UInt8} {r : Nat} (lv e p : Nat) (g : ByteArray) (iv hd nx now : Int) (sn : Nat) (lo fa : Bool) (s : ByteArray) (w : World) (h : openC s.data.toList lv = (⟨mlo, mp, mc, me, gl⟩, r)) (hm : (⟨gl.toArray⟩ : ByteArray) = mg) (hs : s.size ≤ maxLen) (hr : r = 0) (hg : mg.data.toList ≠ g.data.toList) :
    Calls Try.prog 10 #[wtV lv e p g iv hd nx sn lo fa, .int .i64 now, .string s] w fun x w' => x = .returned (.tuple #[wtV lv e p g iv hd nx sn lo fa, .int .i64 3]) ∧ Below w.heap.size w w' := by
  have HC := Lib.hid h
  have HM := Lib.hid hm
  have HS := Lib.hid hs
  clear h hm hs
  have q1 : ((r : Int) != 0) = false := by rw [hr]; rfl
  clear hr
  have q2 : (mg.toList == g.toList) = false := beq_eq_false_iff_ne.2 (by rw [Go.ByteArray.toList_eq, Go.ByteArray.toList_eq]; exact hg)
  have q3 : (mg.toList != g.toList) = true := by rw [bne, q2]; rfl
  have q4 : (mg.data.toList == g.data.toList) = false := beq_eq_false_iff_ne.2 hg
  have q5 : (mg.data.toList != g.data.toList) = true := by rw [bne, q4]; rfl
  clear hg
  go_enter Try.func10, Try.ntmps10
  go_upto_region 1 with (fail)
  have HA := Lib.hid (blk_two w 31 31 (wtC lv e p g iv hd nx sn lo fa) zeroWC)
  have HR := Lib.hid (fresh_second w (.cells (wtC lv e p g iv hd nx sn lo fa) 31) 31 zeroWC)
  have HB := Lib.hid (below_two w (.cells (wtC lv e p g iv hd nx sn lo fa) 31) (.cells zeroWC 31))
  generalize (w.alloc (.cells (wtC lv e p g iv hd nx sn lo fa) 31)).alloc (.cells zeroWC 31) = w0 at HA HR HB ⊢
  obtain ⟨c0, c1, c2, c3, c4, c5, c6, c7, c8, c9, z0, z1, z2, z3, z4, z5, z6, z7, z8, z9⟩ := Rw10.row HA.out
  go_wp2_with fail
  refine (Cc.ropen_at s lv w0 HC.out).mono ?_
  rintro x w1 ⟨rfl, hb⟩
  have hsz := HR.out.lt
  have HA1 := Lib.hid (HA.out.below hb HA.out.lt)
  have HR1 := Lib.hid (HR.out.below hb HR.out.lt)
  have HB1 := Lib.hid (HB.out.trans (hb.mono HB.out.size))
  have hs1 : w.heap.size + 1 < w1.heap.size := HR1.out.lt
  clear hb hsz c0 c1 c2 c3 c4 c5 c6 c7 c8 c9 z0 z1 z2 z3 z4 z5 z6 z7 z8 z9
  simp only [valC]
  rw [HM.out]
  go_upto_region 2 with (fail)
  have HM2 := Lib.hid (Blk.fresh w1 57 (cmC mlo mp mc me mg))
  have HA2 := Lib.hid (HA1.out.alloc (.cells (cmC mlo mp mc me mg) 57))
  have HR2 := Lib.hid (HR1.out.alloc (.cells (cmC mlo mp mc me mg) 57))
  have HB2 := Lib.hid (HB1.out.alloc HB1.out.size (.cells (cmC mlo mp mc me mg) 57))
  generalize w1.alloc (.cells (cmC mlo mp mc me mg) 57) = w2 at HM2 HA2 HR2 HB2 ⊢
  generalize w1.heap.size = m at HM2 hs1 ⊢
  obtain ⟨c0, c1, c2, c3, c4, c5, c6, c7, c8, c9, z0, z1, z2, z3, z4, z5, z6, z7, z8, z9⟩ := Rw10.row HA2.out
  obtain ⟨_, _, _, _, _, _, _, _, _, _, y0, y1, y2, y3, y4, y5, y6, y7, y8, y9⟩ := Rw10.row HR2.out
  obtain ⟨d0, d1, d2, d3, d4, _⟩ := Rw5.row HM2.out
  go_wp2
  (try simp only [Exit.inBlock, Exit.then]); refine bodyPost_ret (results_row2 rfl _ _ (w.heap.size + 1) 31 _ (0, 0) _ rfl (Rw10.blk_set HR2.out _ _ _ _ _ _ _ _ _ _) Try.underlying31 rfl info_rw) rfl ?_
  exact ⟨rfl, (Rw10.below_set HB2.out (by omega) _ _ _ _ _ _ _ _ _ _)⟩
set_option maxRecDepth 100000 in
set_option maxHeartbeats 2000000 in
theorem rhear_name {mg : ByteArray} {mlo : Bool} {mp mc me : Nat} {gl : List UInt8} {r : Nat} (lv e p : Nat) (g : ByteArray) (iv hd nx now : Int) (sn : Nat) (lo fa : Bool) (s : ByteArray) (w : World) (h : openC s.data.toList lv = (⟨mlo, mp, mc, me, gl⟩, r)) (hm : (⟨gl.toArray⟩ : ByteArray) = mg) (hs : s.size ≤ maxLen) (hr : r = 0) (hg : mg = g) (he : me = e) :
    Calls Try.prog 10 #[wtV lv e p g iv hd nx sn lo fa, .int .i64 now, .string s] w fun x w' => x = .returned (.tuple #[wtV lv e p g iv hd nx sn lo fa, .int .i64 10]) ∧ Below w.heap.size w w' := by
  have HC := Lib.hid h
  have HM := Lib.hid hm
  have HS := Lib.hid hs
  clear h hm hs
  have q1 : ((r : Int) != 0) = false := by rw [hr]; rfl
  clear hr
  subst hg
  have q2 : (mg.toList == mg.toList) = true := beq_iff_eq.2 rfl
  have q3 : (mg.toList != mg.toList) = false := by rw [bne, q2]; rfl
  have q4 : (mg.data.toList == mg.data.toList) = true := beq_iff_eq.2 rfl
  have q5 : (mg.data.toList != mg.data.toList) = false := by rw [bne, q4]; rfl
  have q6 : ((me : Int) == (e : Int)) = true := beq_iff_eq.2 (by omega)
  clear he
  go_enter Try.func10, Try.ntmps10
  go_upto_region 1 with (fail)
  have HA := Lib.hid (blk_two w 31 31 (wtC lv e p mg iv hd nx sn lo fa) zeroWC)
  have HR := Lib.hid (fresh_second w (.cells (wtC lv e p mg iv hd nx sn lo fa) 31) 31 zeroWC)
  have HB := Lib.hid (below_two w (.cells (wtC lv e p mg iv hd nx sn lo fa) 31) (.cells zeroWC 31))
  generalize (w.alloc (.cells (wtC lv e p mg iv hd nx sn lo fa) 31)).alloc (.cells zeroWC 31) = w0 at HA HR HB ⊢
  obtain ⟨c0, c1, c2, c3, c4, c5, c6, c7, c8, c9, z0, z1, z2, z3, z4, z5, z6, z7, z8, z9⟩ := Rw10.row HA.out
  go_wp2_with fail
  refine (Cc.ropen_at s lv w0 HC.out).mono ?_
  rintro x w1 ⟨rfl, hb⟩
  have hsz := HR.out.lt
  have HA1 := Lib.hid (HA.out.below hb HA.out.lt)
  have HR1 := Lib.hid (HR.out.below hb HR.out.lt)
  have HB1 := Lib.hid (HB.out.trans (hb.mono HB.out.size))
  have hs1 : w.heap.size + 1 < w1.heap.size := HR1.out.lt
  clear hb hsz c0 c1 c2 c3 c4 c5 c6 c7 c8 c9 z0 z1 z2 z3 z4 z5 z6 z7 z8 z9
  simp only [valC]
  rw [HM.out]
  go_upto_region 2 with (fail)
  have HM2 := Lib.hid (Blk.fresh w1 57 (cmC mlo mp mc me mg))
  have HA2 := Lib.hid (HA1.out.alloc (.cells (cmC mlo mp mc me mg) 57))
  have HR2 := Lib.hid (HR1.out.alloc (.cells (cmC mlo mp mc me mg) 57))
  have HB2 := Lib.hid (HB1.out.alloc HB1.out.size (.cells (cmC mlo mp mc me mg) 57))
  generalize w1.alloc (.cells (cmC mlo mp mc me mg) 57) = w2 at HM2 HA2 HR2 HB2 ⊢
  generalize w1.heap.size = m at HM2 hs1 ⊢
  obtain ⟨c0, c1, c2, c3, c4, c5, c6, c7, c8, c9, z0, z1, z2, z3, z4, z5, z6, z7, z8, z9⟩ := Rw10.row HA2.out
  obtain ⟨_, _, _, _, _, _, _, _, _, _, y0, y1, y2, y3, y4, y5, y6, y7, y8, y9⟩ := Rw10.row HR2.out
  obtain ⟨d0, d1, d2, d3, d4, _⟩ := Rw5.row HM2.out
  go_wp2
  (try simp only [Exit.inBlock, Exit.then]); refine bodyPost_ret (results_row2 rfl _ _ (w.heap.size + 1) 31 _ (0, 0) _ rfl (Rw10.blk_set HR2.out _ _ _ _ _ _ _ _ _ _) Try.underlying31 rfl info_rw) rfl ?_
  exact ⟨rfl, (Rw10.below_set HB2.out (by omega) _ _ _ _ _ _ _ _ _ _)⟩
set_option maxRecDepth 100000 in
set_option maxHeartbeats 2000000 in
theorem rhear_range {mg : ByteArray} {mlo : Bool} {mp mc me : Nat} {gl : List UInt8} {r : Nat} (lv e p : Nat) (g : ByteArray) (iv hd nx now : Int) (sn : Nat) (lo fa : Bool) (s : ByteArray) (w : World) (h : openC s.data.toList lv = (⟨mlo, mp, mc, me, gl⟩, r)) (hm : (⟨gl.toArray⟩ : ByteArray) = mg) (hs : s.size ≤ maxLen) (hr : r = 0) (hg : mg = g) (he : me ≠ e) (hp : mp ≠ p) :
    Calls Try.prog 10 #[wtV lv e p g iv hd nx sn lo fa, .int .i64 now, .string s] w fun x w' => x = .returned (.tuple #[wtV lv e p g iv hd nx sn lo fa, .int .i64 4]) ∧ Below w.heap.size w w' := by
  have HC := Lib.hid h
  have HM := Lib.hid hm
  have HS := Lib.hid hs
  clear h hm hs
  have q1 : ((r : Int) != 0) = false := by rw [hr]; rfl
  clear hr
  subst hg
  have q2 : (mg.toList == mg.toList) = true := beq_iff_eq.2 rfl
  have q3 : (mg.toList != mg.toList) = false := by rw [bne, q2]; rfl
  have q4 : (mg.data.toList == mg.data.toList) = true := beq_iff_eq.2 rfl
  have q5 : (mg.data.toList != mg.data.toList) = false := by rw [bne, q4]; rfl
  have q6 : ((me : Int) == (e : Int)) = false := beq_eq_false_iff_ne.2 (by omega)
  clear he
  have q7 : ((mp : Int) != (p : Int)) = true := bne_iff_ne.2 (by omega)
  clear hp
  go_enter Try.func10, Try.ntmps10
  go_upto_region 1 with (fail)
  have HA := Lib.hid (blk_two w 31 31 (wtC lv e p mg iv hd nx sn lo fa) zeroWC)
  have HR := Lib.hid (fresh_second w (.cells (wtC lv e p mg iv hd nx sn lo fa) 31) 31 zeroWC)
  have HB := Lib.hid (below_two w (.cells (wtC lv e p mg iv hd nx sn lo fa) 31) (.cells zeroWC 31))
  generalize (w.alloc (.cells (wtC lv e p mg iv hd nx sn lo fa) 31)).alloc (.cells zeroWC 31) = w0 at HA HR HB ⊢
  obtain ⟨c0, c1, c2, c3, c4, c5, c6, c7, c8, c9, z0, z1, z2, z3, z4, z5, z6, z7, z8, z9⟩ := Rw10.row HA.out
  go_wp2_with fail
  refine (Cc.ropen_at s lv w0 HC.out).mono ?_
  rintro x w1 ⟨rfl, hb⟩
  have hsz := HR.out.lt
  have HA1 := Lib.hid (HA.out.below hb HA.out.lt)
  have HR1 := Lib.hid (HR.out.below hb HR.out.lt)
  have HB1 := Lib.hid (HB.out.trans (hb.mono HB.out.size))
  have hs1 : w.heap.size + 1 < w1.heap.size := HR1.out.lt
  clear hb hsz c0 c1 c2 c3 c4 c5 c6 c7 c8 c9 z0 z1 z2 z3 z4 z5 z6 z7 z8 z9
  simp only [valC]
  rw [HM.out]
  go_upto_region 2 with (fail)
  have HM2 := Lib.hid (Blk.fresh w1 57 (cmC mlo mp mc me mg))
  have HA2 := Lib.hid (HA1.out.alloc (.cells (cmC mlo mp mc me mg) 57))
  have HR2 := Lib.hid (HR1.out.alloc (.cells (cmC mlo mp mc me mg) 57))
  have HB2 := Lib.hid (HB1.out.alloc HB1.out.size (.cells (cmC mlo mp mc me mg) 57))
  generalize w1.alloc (.cells (cmC mlo mp mc me mg) 57) = w2 at HM2 HA2 HR2 HB2 ⊢
  generalize w1.heap.size = m at HM2 hs1 ⊢
  obtain ⟨c0, c1, c2, c3, c4, c5, c6, c7, c8, c9, z0, z1, z2, z3, z4, z5, z6, z7, z8, z9⟩ := Rw10.row HA2.out
  obtain ⟨_, _, _, _, _, _, _, _, _, _, y0, y1, y2, y3, y4, y5, y6, y7, y8, y9⟩ := Rw10.row HR2.out
  obtain ⟨d0, d1, d2, d3, d4, _⟩ := Rw5.row HM2.out
  go_wp2
  (try simp only [Exit.inBlock, Exit.then]); refine bodyPost_ret (results_row2 rfl _ _ (w.heap.size + 1) 31 _ (0, 0) _ rfl (Rw10.blk_set HR2.out _ _ _ _ _ _ _ _ _ _) Try.underlying31 rfl info_rw) rfl ?_
  exact ⟨rfl, (Rw10.below_set HB2.out (by omega) _ _ _ _ _ _ _ _ _ _)⟩
set_option maxRecDepth 100000 in
set_option maxHeartbeats 2000000 in
theorem rhear_ok {mg : ByteArray} {mlo : Bool} {mp mc me : Nat} {gl : List UInt8} {r : Nat} (lv e p : Nat) (g : ByteArray) (iv hd nx now : Int) (sn : Nat) (lo fa : Bool) (s : ByteArray) (w : World) (h : openC s.data.toList lv = (⟨mlo, mp, mc, me, gl⟩, r)) (hm : (⟨gl.toArray⟩ : ByteArray) = mg) (hs : s.size ≤ maxLen) (hr : r = 0) (hg : mg = g) (he : me ≠ e) (hp : mp = p) :
    Calls Try.prog 10 #[wtV lv e p g iv hd nx sn lo fa, .int .i64 now, .string s] w fun x w' => x = .returned (.tuple #[wtV lv e p g iv now nx sn false mlo, .int .i64 0]) ∧ Below w.heap.size w w' := by
  have HC := Lib.hid h
  have HM := Lib.hid hm
  have HS := Lib.hid hs
  clear h hm hs
  have q1 : ((r : Int) != 0) = false := by rw [hr]; rfl
  clear hr
  subst hg
  have q2 : (mg.toList == mg.toList) = true := beq_iff_eq.2 rfl
  have q3 : (mg.toList != mg.toList) = false := by rw [bne, q2]; rfl
  have q4 : (mg.data.toList == mg.data.toList) = true := beq_iff_eq.2 rfl
  have q5 : (mg.data.toList != mg.data.toList) = false := by rw [bne, q4]; rfl
  have q6 : ((me : Int) == (e : Int)) = false := beq_eq_false_iff_ne.2 (by omega)
  clear he
  have q7 : ((mp : Int) != (p : Int)) = false := by rw [hp]; simp
  clear hp
  go_enter Try.func10, Try.ntmps10
  go_upto_region 1 with (fail)
  have HA := Lib.hid (blk_two w 31 31 (wtC lv e p mg iv hd nx sn lo fa) zeroWC)
  have HR := Lib.hid (fresh_second w (.cells (wtC lv e p mg iv hd nx sn lo fa) 31) 31 zeroWC)
  have HB := Lib.hid (below_two w (.cells (wtC lv e p mg iv hd nx sn lo fa) 31) (.cells zeroWC 31))
  generalize (w.alloc (.cells (wtC lv e p mg iv hd nx sn lo fa) 31)).alloc (.cells zeroWC 31) = w0 at HA HR HB ⊢
  obtain ⟨c0, c1, c2, c3, c4, c5, c6, c7, c8, c9, z0, z1, z2, z3, z4, z5, z6, z7, z8, z9⟩ := Rw10.row HA.out
  go_wp2_with fail
  refine (Cc.ropen_at s lv w0 HC.out).mono ?_
  rintro x w1 ⟨rfl, hb⟩
  have hsz := HR.out.lt
  have HA1 := Lib.hid (HA.out.below hb HA.out.lt)
  have HR1 := Lib.hid (HR.out.below hb HR.out.lt)
  have HB1 := Lib.hid (HB.out.trans (hb.mono HB.out.size))
  have hs1 : w.heap.size + 1 < w1.heap.size := HR1.out.lt
  clear hb hsz c0 c1 c2 c3 c4 c5 c6 c7 c8 c9 z0 z1 z2 z3 z4 z5 z6 z7 z8 z9
  simp only [valC]
  rw [HM.out]
  go_upto_region 2 with (fail)
  have HM2 := Lib.hid (Blk.fresh w1 57 (cmC mlo mp mc me mg))
  have HA2 := Lib.hid (HA1.out.alloc (.cells (cmC mlo mp mc me mg) 57))
  have HR2 := Lib.hid (HR1.out.alloc (.cells (cmC mlo mp mc me mg) 57))
  have HB2 := Lib.hid (HB1.out.alloc HB1.out.size (.cells (cmC mlo mp mc me mg) 57))
  generalize w1.alloc (.cells (cmC mlo mp mc me mg) 57) = w2 at HM2 HA2 HR2 HB2 ⊢
  generalize w1.heap.size = m at HM2 hs1 ⊢
  obtain ⟨c0, c1, c2, c3, c4, c5, c6, c7, c8, c9, z0, z1, z2, z3, z4, z5, z6, z7, z8, z9⟩ := Rw10.row HA2.out
  obtain ⟨_, _, _, _, _, _, _, _, _, _, y0, y1, y2, y3, y4, y5, y6, y7, y8, y9⟩ := Rw10.row HR2.out
  obtain ⟨d0, d1, d2, d3, d4, _⟩ := Rw5.row HM2.out
  have n1 : w.heap.size ≠ m := by omega
  have n2 : m ≠ w.heap.size := by omega
  go_wp2
  (try simp only [Exit.inBlock, Exit.then]); refine bodyPost_ret (results_row2 rfl _ _ (w.heap.size + 1) 31 _ (0, 0) _ rfl (Rw10.blk_set (((HR2.out.far (p := ⟨w.heap.size, 5, none⟩) (by simp) _).far (p := ⟨w.heap.size, 8, none⟩) (by simp) _).far (p := ⟨w.heap.size, 9, none⟩) (by simp) _) _ _ _ _ _ _ _ _ _ _) Try.underlying31 rfl info_rw) rfl ?_
  exact ⟨rfl, (Rw10.below_set (((HB2.out.setCell (p := ⟨w.heap.size, 5, none⟩) (Nat.le_refl _) _).setCell (p := ⟨w.heap.size, 8, none⟩) (Nat.le_refl _) _).setCell (p := ⟨w.heap.size, 9, none⟩) (Nat.le_refl _) _) (by omega) _ _ _ _ _ _ _ _ _ _)⟩
end Go.Proofs.Ytlbnigdindpnfaa.Wa
