/-
  Contract of raps' Open: behind the head.
-/
import Derived.Test.YtnapbmdkaldncaaRpE
namespace Go.Proofs.Ytnapbmdkaldncaa.Rp
open Go.RowKit Go.Proofs.Ytnapbmdkaldncaa.Bt Go.Proofs.Ytnapbmdkaldncaa.Mm Go.Proofs.Ytnapbmdkaldncaa.Fl Go.Proofs.Ytnapbmdkaldncaa.Lw Go.Proofs.Ytnapbmdkaldncaa.Hx Go.Proofs.Ytnapbmdkaldncaa.Mc Go.Proofs.Ytnapbmdkaldncaa.Tg Go.Proofs.Ytnapbmdkaldncaa.Oa

theorem bv_true (w : World) : Calls Try.prog 35 #[.bool true] w fun e w' => e = .returned (.int .u64 1) ∧ w = w' := bv_any true w
theorem noughts_at {z : Bool} (s : ByteArray) (w : World) (h : zeros s.data.toList = z) (hs : s.size ≤ maxLen) : Calls Try.prog 34 #[.string s] w fun e w' => e = .returned (.bool z) ∧ w = w' := by
  rw [← h]; exact noughts_any s w hs
set_option maxRecDepth 100000 in
set_option maxHeartbeats 4000000 in
theorem open_strayA (s cb tail : ByteArray) (l v c f o : Nat) (cs : List UInt8) (lv q z1 x2 x3 x4 z2 n : Nat) (zb : Bool) (w : World) (hs : s.size ≤ maxLen) (ho : openO s.data.toList = (⟨l, v, c, f, o⟩, cs, 0)) (hcb : (⟨cs.toArray⟩ : ByteArray) = cb) (hi : isO ⟨l, v, c, f, o⟩ lv 1 40 32 = 0) (hc2 : cb.size ≤ maxLen)
    (hsp : splitR cb widthsM = ([q, z1, x2, x3, x4, z2, n], tail, 0)) (hz : zeros tail.data.toList = zb) (ht : tail.size ≤ maxLen) (hf : f ≠ 0) :
    Calls Try.prog 13 #[.string s, .int .u8 (lv : Int)] w fun x w' => x = .returned (.tuple #[zeroMV, .int .i64 ((3 : Nat) : Int)]) ∧ Below w.heap.size w w' := by
  have HO := Lib.hid ho; clear ho
  have HS := Lib.hid hs; clear hs
  have HCB := Lib.hid hcb; clear hcb
  have HI := Lib.hid hi; clear hi
  have HC2 := Lib.hid hc2; clear hc2
  have HSP := Lib.hid hsp; clear hsp
  have HZ := Lib.hid hz; clear hz
  have HT := Lib.hid ht; clear ht
  have q1 : ((f : Int) != 0) = true := neq_t (by omega)
  clear hf
  go_enter Try.func13, Try.ntmps13
  go_wp2_with fail
  refine (Oa.open_at s _ HO.out HS.out).mono ?_
  rintro x w1 ⟨rfl, hb1⟩
  have HK := Lib.hid ((Blk.fresh w 26 zeroMC).below hb1 (by simp))
  have HB := Lib.hid (((Below.refl w.heap.size w).alloc (Nat.le_refl _) (.cells zeroMC 26)).trans (hb1.mono (by simp)))
  clear hb1
  simp only [valH]
  rw [HCB.out]
  go_upto_if 22 with (fail)
  have H6 := Lib.hid (HB.out.alloc HB.out.size (.cells (hdC l v c f o) 65))
  have H7 := Lib.hid (HK.out.alloc (.cells (hdC l v c f o) 65))
  have H8 := Lib.hid (Blk.fresh w1 65 (hdC l v c f o))
  generalize w1.alloc (.cells (hdC l v c f o) 65) = w2 at H6 H7 H8 ⊢
  obtain ⟨c0, c1, c2, c3, c4, z0, z1', z2', z3, z4⟩ := Rw5.row H7.out
  obtain ⟨d0, d1, d2, d3, d4, _⟩ := Rw5.row H8.out
  go_wp2_with fail
  refine (is_any l v c f o lv 1 40 32 _).mono ?_
  rintro x w3 ⟨rfl, hb2⟩
  have HB2 := Lib.hid (H6.out.trans (hb2.mono H6.out.size))
  have HK2 := Lib.hid (H7.out.below hb2 H7.out.lt)
  have HH2 := Lib.hid (H8.out.below hb2 H8.out.lt)
  rw [HI.out]
  clear hb2 c0 c1 c2 c3 c4 z0 z1' z2' z3 z4 d0 d1 d2 d3 d4
  go_wp2_with fail
  refine (split_blk cb widthsM _ _ 7 _ _ _ _ (Blk.fresh _ _ _) rfl HSP.out rfl rfl HC2.out (by simp)).mono ?_
  rintro x w4 ⟨A', c', rfl, hr, hb⟩
  have HB3 := Lib.hid ((HB2.out.alloc HB2.out.size _).trans (hb.mono (by have := HB2.out.size; simp; omega)))
  have HK3 := Lib.hid ((HK2.out.alloc _).below hb (HK2.out.alloc _).lt)
  have HH3 := Lib.hid ((HH2.out.alloc _).below hb (HH2.out.alloc _).lt)
  obtain ⟨ad, rfl, _, hcell⟩ := hr (by simp [nums])
  have e0 := hcell 0 _ rfl
  have e1 := hcell 1 _ rfl
  have e2 := hcell 2 _ rfl
  have e3 := hcell 3 _ rfl
  have e4 := hcell 4 _ rfl
  have e5 := hcell 5 _ rfl
  have e6 := hcell 6 _ rfl
  simp [Addr.add] at e0 e1 e2 e3 e4 e5 e6
  clear hb hr hcell
  obtain ⟨c0, c1, c2, c3, c4, zz0, zz1, zz2, zz3, zz4⟩ := Rw5.row HK3.out
  obtain ⟨d0, d1, d2, d3, d4, _⟩ := Rw5.row HH3.out
  go_wp2
  (try simp only [Exit.inBlock, Exit.then]); refine bodyPost_ret (results_row2 rfl _ _ w.heap.size 26 _ (0, 0) _ rfl (Rw5.blk_set HK3.out _ _ _ _ _) Try.underlying26 rfl info_msg) rfl ?_
  exact ⟨rfl, Rw5.below_set HB3.out (Nat.le_refl _) _ _ _ _ _⟩
set_option maxRecDepth 100000 in
set_option maxHeartbeats 4000000 in
theorem open_strayB (s cb tail : ByteArray) (l v c f o : Nat) (cs : List UInt8) (lv q z1 x2 x3 x4 z2 n : Nat) (zb : Bool) (w : World) (hs : s.size ≤ maxLen) (ho : openO s.data.toList = (⟨l, v, c, f, o⟩, cs, 0)) (hcb : (⟨cs.toArray⟩ : ByteArray) = cb) (hi : isO ⟨l, v, c, f, o⟩ lv 1 40 32 = 0) (hc2 : cb.size ≤ maxLen)
    (hsp : splitR cb widthsM = ([q, z1, x2, x3, x4, z2, n], tail, 0)) (hz : zeros tail.data.toList = zb) (ht : tail.size ≤ maxLen) (hf : f = 0) (h1 : z1 ≠ 0) :
    Calls Try.prog 13 #[.string s, .int .u8 (lv : Int)] w fun x w' => x = .returned (.tuple #[zeroMV, .int .i64 ((3 : Nat) : Int)]) ∧ Below w.heap.size w w' := by
  have HO := Lib.hid ho; clear ho
  have HS := Lib.hid hs; clear hs
  have HCB := Lib.hid hcb; clear hcb
  have HI := Lib.hid hi; clear hi
  have HC2 := Lib.hid hc2; clear hc2
  have HSP := Lib.hid hsp; clear hsp
  have HZ := Lib.hid hz; clear hz
  have HT := Lib.hid ht; clear ht
  have q1 : ((f : Int) != 0) = false := neq_f (by omega)
  have q2 : ((z1 : Int) != 0) = true := neq_t (by omega)
  clear hf h1
  go_enter Try.func13, Try.ntmps13
  go_wp2_with fail
  refine (Oa.open_at s _ HO.out HS.out).mono ?_
  rintro x w1 ⟨rfl, hb1⟩
  have HK := Lib.hid ((Blk.fresh w 26 zeroMC).below hb1 (by simp))
  have HB := Lib.hid (((Below.refl w.heap.size w).alloc (Nat.le_refl _) (.cells zeroMC 26)).trans (hb1.mono (by simp)))
  clear hb1
  simp only [valH]
  rw [HCB.out]
  go_upto_if 22 with (fail)
  have H6 := Lib.hid (HB.out.alloc HB.out.size (.cells (hdC l v c f o) 65))
  have H7 := Lib.hid (HK.out.alloc (.cells (hdC l v c f o) 65))
  have H8 := Lib.hid (Blk.fresh w1 65 (hdC l v c f o))
  generalize w1.alloc (.cells (hdC l v c f o) 65) = w2 at H6 H7 H8 ⊢
  obtain ⟨c0, c1, c2, c3, c4, z0, z1', z2', z3, z4⟩ := Rw5.row H7.out
  obtain ⟨d0, d1, d2, d3, d4, _⟩ := Rw5.row H8.out
  go_wp2_with fail
  refine (is_any l v c f o lv 1 40 32 _).mono ?_
  rintro x w3 ⟨rfl, hb2⟩
  have HB2 := Lib.hid (H6.out.trans (hb2.mono H6.out.size))
  have HK2 := Lib.hid (H7.out.below hb2 H7.out.lt)
  have HH2 := Lib.hid (H8.out.below hb2 H8.out.lt)
  rw [HI.out]
  clear hb2 c0 c1 c2 c3 c4 z0 z1' z2' z3 z4 d0 d1 d2 d3 d4
  go_wp2_with fail
  refine (split_blk cb widthsM _ _ 7 _ _ _ _ (Blk.fresh _ _ _) rfl HSP.out rfl rfl HC2.out (by simp)).mono ?_
  rintro x w4 ⟨A', c', rfl, hr, hb⟩
  have HB3 := Lib.hid ((HB2.out.alloc HB2.out.size _).trans (hb.mono (by have := HB2.out.size; simp; omega)))
  have HK3 := Lib.hid ((HK2.out.alloc _).below hb (HK2.out.alloc _).lt)
  have HH3 := Lib.hid ((HH2.out.alloc _).below hb (HH2.out.alloc _).lt)
  obtain ⟨ad, rfl, _, hcell⟩ := hr (by simp [nums])
  have e0 := hcell 0 _ rfl
  have e1 := hcell 1 _ rfl
  have e2 := hcell 2 _ rfl
  have e3 := hcell 3 _ rfl
  have e4 := hcell 4 _ rfl
  have e5 := hcell 5 _ rfl
  have e6 := hcell 6 _ rfl
  simp [Addr.add] at e0 e1 e2 e3 e4 e5 e6
  clear hb hr hcell
  obtain ⟨c0, c1, c2, c3, c4, zz0, zz1, zz2, zz3, zz4⟩ := Rw5.row HK3.out
  obtain ⟨d0, d1, d2, d3, d4, _⟩ := Rw5.row HH3.out
  go_wp2
  (try simp only [Exit.inBlock, Exit.then]); refine bodyPost_ret (results_row2 rfl _ _ w.heap.size 26 _ (0, 0) _ rfl (Rw5.blk_set HK3.out _ _ _ _ _) Try.underlying26 rfl info_msg) rfl ?_
  exact ⟨rfl, Rw5.below_set HB3.out (Nat.le_refl _) _ _ _ _ _⟩
set_option maxRecDepth 100000 in
set_option maxHeartbeats 4000000 in
theorem open_strayC (s cb tail : ByteArray) (l v c f o : Nat) (cs : List UInt8) (lv q z1 x2 x3 x4 z2 n : Nat) (zb : Bool) (w : World) (hs : s.size ≤ maxLen) (ho : openO s.data.toList = (⟨l, v, c, f, o⟩, cs, 0)) (hcb : (⟨cs.toArray⟩ : ByteArray) = cb) (hi : isO ⟨l, v, c, f, o⟩ lv 1 40 32 = 0) (hc2 : cb.size ≤ maxLen)
    (hsp : splitR cb widthsM = ([q, z1, x2, x3, x4, z2, n], tail, 0)) (hz : zeros tail.data.toList = zb) (ht : tail.size ≤ maxLen) (hf : f = 0) (h1 : z1 = 0) (h2 : z2 ≠ 0) :
    Calls Try.prog 13 #[.string s, .int .u8 (lv : Int)] w fun x w' => x = .returned (.tuple #[zeroMV, .int .i64 ((3 : Nat) : Int)]) ∧ Below w.heap.size w w' := by
  have HO := Lib.hid ho; clear ho
  have HS := Lib.hid hs; clear hs
  have HCB := Lib.hid hcb; clear hcb
  have HI := Lib.hid hi; clear hi
  have HC2 := Lib.hid hc2; clear hc2
  have HSP := Lib.hid hsp; clear hsp
  have HZ := Lib.hid hz; clear hz
  have HT := Lib.hid ht; clear ht
  have q1 : ((f : Int) != 0) = false := neq_f (by omega)
  have q2 : ((z1 : Int) != 0) = false := neq_f (by omega)
  have q3 : ((z2 : Int) != 0) = true := neq_t (by omega)
  clear hf h1 h2
  go_enter Try.func13, Try.ntmps13
  go_wp2_with fail
  refine (Oa.open_at s _ HO.out HS.out).mono ?_
  rintro x w1 ⟨rfl, hb1⟩
  have HK := Lib.hid ((Blk.fresh w 26 zeroMC).below hb1 (by simp))
  have HB := Lib.hid (((Below.refl w.heap.size w).alloc (Nat.le_refl _) (.cells zeroMC 26)).trans (hb1.mono (by simp)))
  clear hb1
  simp only [valH]
  rw [HCB.out]
  go_upto_if 22 with (fail)
  have H6 := Lib.hid (HB.out.alloc HB.out.size (.cells (hdC l v c f o) 65))
  have H7 := Lib.hid (HK.out.alloc (.cells (hdC l v c f o) 65))
  have H8 := Lib.hid (Blk.fresh w1 65 (hdC l v c f o))
  generalize w1.alloc (.cells (hdC l v c f o) 65) = w2 at H6 H7 H8 ⊢
  obtain ⟨c0, c1, c2, c3, c4, z0, z1', z2', z3, z4⟩ := Rw5.row H7.out
  obtain ⟨d0, d1, d2, d3, d4, _⟩ := Rw5.row H8.out
  go_wp2_with fail
  refine (is_any l v c f o lv 1 40 32 _).mono ?_
  rintro x w3 ⟨rfl, hb2⟩
  have HB2 := Lib.hid (H6.out.trans (hb2.mono H6.out.size))
  have HK2 := Lib.hid (H7.out.below hb2 H7.out.lt)
  have HH2 := Lib.hid (H8.out.below hb2 H8.out.lt)
  rw [HI.out]
  clear hb2 c0 c1 c2 c3 c4 z0 z1' z2' z3 z4 d0 d1 d2 d3 d4
  go_wp2_with fail
  refine (split_blk cb widthsM _ _ 7 _ _ _ _ (Blk.fresh _ _ _) rfl HSP.out rfl rfl HC2.out (by simp)).mono ?_
  rintro x w4 ⟨A', c', rfl, hr, hb⟩
  have HB3 := Lib.hid ((HB2.out.alloc HB2.out.size _).trans (hb.mono (by have := HB2.out.size; simp; omega)))
  have HK3 := Lib.hid ((HK2.out.alloc _).below hb (HK2.out.alloc _).lt)
  have HH3 := Lib.hid ((HH2.out.alloc _).below hb (HH2.out.alloc _).lt)
  obtain ⟨ad, rfl, _, hcell⟩ := hr (by simp [nums])
  have e0 := hcell 0 _ rfl
  have e1 := hcell 1 _ rfl
  have e2 := hcell 2 _ rfl
  have e3 := hcell 3 _ rfl
  have e4 := hcell 4 _ rfl
  have e5 := hcell 5 _ rfl
  have e6 := hcell 6 _ rfl
  simp [Addr.add] at e0 e1 e2 e3 e4 e5 e6
  clear hb hr hcell
  obtain ⟨c0, c1, c2, c3, c4, zz0, zz1, zz2, zz3, zz4⟩ := Rw5.row HK3.out
  obtain ⟨d0, d1, d2, d3, d4, _⟩ := Rw5.row HH3.out
  go_wp2
  (try simp only [Exit.inBlock, Exit.then]); refine bodyPost_ret (results_row2 rfl _ _ w.heap.size 26 _ (0, 0) _ rfl (Rw5.blk_set HK3.out _ _ _ _ _) Try.underlying26 rfl info_msg) rfl ?_
  exact ⟨rfl, Rw5.below_set HB3.out (Nat.le_refl _) _ _ _ _ _⟩
set_option maxRecDepth 100000 in
set_option maxHeartbeats 4000000 in
theorem open_strayD (s cb tail : ByteArray) (l v c f o : Nat) (cs : List UInt8) (lv q z1 x2 x3 x4 z2 n : Nat) (zb : Bool) (w : World) (hs : s.size ≤ maxLen) (ho : openO s.data.toList = (⟨l, v, c, f, o⟩, cs, 0)) (hcb : (⟨cs.toArray⟩ : ByteArray) = cb) (hi : isO ⟨l, v, c, f, o⟩ lv 1 40 32 = 0) (hc2 : cb.size ≤ maxLen)
    (hsp : splitR cb widthsM = ([q, z1, x2, x3, x4, z2, n], tail, 0)) (hz : zeros tail.data.toList = zb) (ht : tail.size ≤ maxLen) (hf : f = 0) (h1 : z1 = 0) (h2 : z2 = 0) (hzb : zb = false) :
    Calls Try.prog 13 #[.string s, .int .u8 (lv : Int)] w fun x w' => x = .returned (.tuple #[zeroMV, .int .i64 ((3 : Nat) : Int)]) ∧ Below w.heap.size w w' := by
  have HO := Lib.hid ho; clear ho
  have HS := Lib.hid hs; clear hs
  have HCB := Lib.hid hcb; clear hcb
  have HI := Lib.hid hi; clear hi
  have HC2 := Lib.hid hc2; clear hc2
  have HSP := Lib.hid hsp; clear hsp
  have HZ := Lib.hid hz; clear hz
  have HT := Lib.hid ht; clear ht
  have q1 : ((f : Int) != 0) = false := neq_f (by omega)
  have q2 : ((z1 : Int) != 0) = false := neq_f (by omega)
  have q3 : ((z2 : Int) != 0) = false := neq_f (by omega)
  subst hzb
  clear hf h1 h2
  go_enter Try.func13, Try.ntmps13
  go_wp2_with fail
  refine (Oa.open_at s _ HO.out HS.out).mono ?_
  rintro x w1 ⟨rfl, hb1⟩
  have HK := Lib.hid ((Blk.fresh w 26 zeroMC).below hb1 (by simp))
  have HB := Lib.hid (((Below.refl w.heap.size w).alloc (Nat.le_refl _) (.cells zeroMC 26)).trans (hb1.mono (by simp)))
  clear hb1
  simp only [valH]
  rw [HCB.out]
  go_upto_if 22 with (fail)
  have H6 := Lib.hid (HB.out.alloc HB.out.size (.cells (hdC l v c f o) 65))
  have H7 := Lib.hid (HK.out.alloc (.cells (hdC l v c f o) 65))
  have H8 := Lib.hid (Blk.fresh w1 65 (hdC l v c f o))
  generalize w1.alloc (.cells (hdC l v c f o) 65) = w2 at H6 H7 H8 ⊢
  obtain ⟨c0, c1, c2, c3, c4, z0, z1', z2', z3, z4⟩ := Rw5.row H7.out
  obtain ⟨d0, d1, d2, d3, d4, _⟩ := Rw5.row H8.out
  go_wp2_with fail
  refine (is_any l v c f o lv 1 40 32 _).mono ?_
  rintro x w3 ⟨rfl, hb2⟩
  have HB2 := Lib.hid (H6.out.trans (hb2.mono H6.out.size))
  have HK2 := Lib.hid (H7.out.below hb2 H7.out.lt)
  have HH2 := Lib.hid (H8.out.below hb2 H8.out.lt)
  rw [HI.out]
  clear hb2 c0 c1 c2 c3 c4 z0 z1' z2' z3 z4 d0 d1 d2 d3 d4
  go_wp2_with fail
  refine (split_blk cb widthsM _ _ 7 _ _ _ _ (Blk.fresh _ _ _) rfl HSP.out rfl rfl HC2.out (by simp)).mono ?_
  rintro x w4 ⟨A', c', rfl, hr, hb⟩
  have HB3 := Lib.hid ((HB2.out.alloc HB2.out.size _).trans (hb.mono (by have := HB2.out.size; simp; omega)))
  have HK3 := Lib.hid ((HK2.out.alloc _).below hb (HK2.out.alloc _).lt)
  have HH3 := Lib.hid ((HH2.out.alloc _).below hb (HH2.out.alloc _).lt)
  obtain ⟨ad, rfl, _, hcell⟩ := hr (by simp [nums])
  have e0 := hcell 0 _ rfl
  have e1 := hcell 1 _ rfl
  have e2 := hcell 2 _ rfl
  have e3 := hcell 3 _ rfl
  have e4 := hcell 4 _ rfl
  have e5 := hcell 5 _ rfl
  have e6 := hcell 6 _ rfl
  simp [Addr.add] at e0 e1 e2 e3 e4 e5 e6
  clear hb hr hcell
  obtain ⟨c0, c1, c2, c3, c4, zz0, zz1, zz2, zz3, zz4⟩ := Rw5.row HK3.out
  obtain ⟨d0, d1, d2, d3, d4, _⟩ := Rw5.row HH3.out
  go_wp2_with fail
  refine (noughts_at tail w4 HZ.out HT.out).mono ?_
  rintro x w5 ⟨rfl, rfl⟩
  go_wp2
  (try simp only [Exit.inBlock, Exit.then]); refine bodyPost_ret (results_row2 rfl _ _ w.heap.size 26 _ (0, 0) _ rfl (Rw5.blk_set HK3.out _ _ _ _ _) Try.underlying26 rfl info_msg) rfl ?_
  exact ⟨rfl, Rw5.below_set HB3.out (Nat.le_refl _) _ _ _ _ _⟩
end Go.Proofs.Ytnapbmdkaldncaa.Rp
