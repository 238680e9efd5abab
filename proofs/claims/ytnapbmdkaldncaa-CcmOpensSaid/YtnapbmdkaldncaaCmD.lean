/-
  Contract of ccm's Open.
-/
import Derived.Test.YtnapbmdkaldncaaCmC
import Derived.Test.YtnapbmdkaldncaaRpF
namespace Go.Proofs.Ytnapbmdkaldncaa.Cc
open Go.RowKit Go.Proofs.Ytnapbmdkaldncaa.Bt Go.Proofs.Ytnapbmdkaldncaa.Mm Go.Proofs.Ytnapbmdkaldncaa.Fl Go.Proofs.Ytnapbmdkaldncaa.Lw Go.Proofs.Ytnapbmdkaldncaa.Hx Go.Proofs.Ytnapbmdkaldncaa.Mc Go.Proofs.Ytnapbmdkaldncaa.Tg Go.Proofs.Ytnapbmdkaldncaa.Oa Go.Proofs.Ytnapbmdkaldncaa.Rp
set_option linter.unusedSimpArgs false
set_option linter.unusedVariables false

abbrev zeroCC : Array Value := #[.bool false, .int .u8 0, .int .u32 0, .int .u16 0, .string ⟨#[]⟩]
abbrev zeroCV : Value := .agg zeroCC
theorem info_cmsg : (Try.prog.info? 46).map (·.size) = some 5 := by kernel_rfl
theorem info_rcmsg : (Try.prog.info? 49).map (·.size) = some 5 := by kernel_rfl
abbrev widthsF : List Int := [1, 4, 3]
abbrev widthsC : List Int := [32, 3, 13]
theorem split_flags (c : ByteArray) (h : c.size = 1) : splitR c widthsF = ([byteAt c.data.toList 0 / 128, byteAt c.data.toList 0 / 8 % 16, byteAt c.data.toList 0 % 8], c.extract 1 c.size, 0) := by
  have e1 : widthsF.all okW = true := by decide
  have e2 : tot widthsF = 8 := by decide
  have ev : valsOf c widthsF = [getB c 0 1, getB c 1 4, getB c 5 3] := rfl
  have j0 := getB_join c 0 1 7 (by omega)
  have j1 := getB_join c 1 4 3 (by omega)
  have b0 := byte_get c 0 (by omega)
  have l0 := getB_lt c 0 1
  have l1 := getB_lt c 1 4
  have l2 := getB_lt c 5 3
  simp only [Nat.reduceAdd, Nat.reduceMul, Nat.reducePow, Nat.zero_add, Nat.mul_zero, Nat.mul_one] at j0 j1 b0 l0 l1 l2
  have p0 : getB c 0 1 = byteAt c.data.toList 0 / 128 := by omega
  have p1 : getB c 1 4 = byteAt c.data.toList 0 / 8 % 16 := by omega
  have p2 : getB c 5 3 = byteAt c.data.toList 0 % 8 := by omega
  unfold splitR
  rw [if_pos e1, e2, if_pos (by decide), if_pos (by omega), ev, p0, p1, p2]
theorem split_cont (c : ByteArray) (h : c.size = 70) : splitR c widthsC = ([getN c.data.toList 0 4, getN c.data.toList 4 2 / 8192, getN c.data.toList 4 2 % 8192], c.extract 6 c.size, 0) := by
  have e1 : widthsC.all okW = true := by decide
  have e2 : tot widthsC = 48 := by decide
  have ev : valsOf c widthsC = [getB c 0 32, getB c 32 3, getB c 35 13] := rfl
  have j0 := getB_join c 32 3 13 (by omega)
  have g0 := getB_getN c 0 4
  have g1 := getB_getN c 4 2
  have l2 := getB_lt c 35 13
  simp only [Nat.reduceAdd, Nat.reduceMul, Nat.reducePow, Nat.zero_add, Nat.mul_zero, Nat.mul_one] at j0 g0 g1 l2
  have p1 : getB c 32 3 = getN c.data.toList 4 2 / 8192 := by omega
  have p2 : getB c 35 13 = getN c.data.toList 4 2 % 8192 := by omega
  unfold splitR
  rw [if_pos e1, e2, if_pos (by decide), if_pos (by omega), ev, g0, p1, p2]
/-- cells of two slices that were read -/
def St4 (B : Nat) (a1 a2 : Addr) (x0 x2 y0 y2 : Nat) (w : World) : Prop :=
  B ≤ w.heap.size ∧ a1.block < B ∧ a2.block < B ∧ w.cell? a1 = some (.int .u64 (x0 : Int)) ∧ w.cell? ⟨a1.block, a1.off + 2, none⟩ = some (.int .u64 (x2 : Int)) ∧ w.cell? a2 = some (.int .u64 (y0 : Int)) ∧ w.cell? ⟨a2.block, a2.off + 2, none⟩ = some (.int .u64 (y2 : Int))
theorem st4_keeps (B : Nat) (a1 a2 : Addr) (x0 x2 y0 y2 : Nat) : Rg.Keeps (St4 B a1 a2 x0 x2 y0 y2) := by
  rintro w w' ⟨h0, h1, h2, c0, c1, c2, c3⟩ hb
  exact ⟨Nat.le_trans h0 hb.size, h1, h2, (hb.cell (Nat.lt_of_lt_of_le h1 h0)).trans c0, (hb.cell (p := ⟨a1.block, a1.off + 2, none⟩) (Nat.lt_of_lt_of_le h1 h0)).trans c1, (hb.cell (Nat.lt_of_lt_of_le h2 h0)).trans c2, (hb.cell (p := ⟨a2.block, a2.off + 2, none⟩) (Nat.lt_of_lt_of_le h2 h0)).trans c3⟩
theorem st4_set {B : Nat} {a1 a2 : Addr} {x0 x2 y0 y2 : Nat} {w : World} (h : St4 B a1 a2 x0 x2 y0 y2 w) {g : Nat} (hg : B ≤ g) (v0 v1 v2 v3 v4 : Value) : St4 B a1 a2 x0 x2 y0 y2 (Rw5.set w g v0 v1 v2 v3 v4) := by
  obtain ⟨h0, h1, h2, c0, c1, c2, c3⟩ := h
  have hb : Below B w (Rw5.set w g v0 v1 v2 v3 v4) := Rw5.below_set ((Below.refl w.heap.size w).mono h0) hg _ _ _ _ _
  exact ⟨Nat.le_trans h0 hb.size, h1, h2, (hb.cell h1).trans c0, (hb.cell (p := ⟨a1.block, a1.off + 2, none⟩) h1).trans c1, (hb.cell h2).trans c2, (hb.cell (p := ⟨a2.block, a2.off + 2, none⟩) h2).trans c3⟩
theorem lv_true (w : World) : Calls Try.prog 40 #[.bool true] w fun e w' => e = .returned (.int .u64 1) ∧ w = w' := lv_any true w

set_option maxRecDepth 100000 in
set_option maxHeartbeats 2000000 in
theorem open_err (s cb : ByteArray) (l v c f o : Nat) (cs : List UInt8) (k lv : Nat) (w : World) (hs : s.size ≤ maxLen) (ho : openO s.data.toList = (⟨l, v, c, f, o⟩, cs, k)) (hcb : (⟨cs.toArray⟩ : ByteArray) = cb) (hk : k ≠ 0) :
    Calls Try.prog 20 #[.string s, .int .u8 (lv : Int)] w fun x w' => x = .returned (.tuple #[zeroCV, .int .i64 (k : Int)]) ∧ Below w.heap.size w w' := by
  have HO := Lib.hid ho; clear ho
  have HS := Lib.hid hs; clear hs
  have HCB := Lib.hid hcb; clear hcb
  have q1 : ((k : Int) != 0) = true := neq_t (by omega)
  clear hk
  go_enter Try.func20, Try.ntmps20
  go_wp2_with fail
  refine (Oa.open_at s _ HO.out HS.out).mono ?_
  rintro x w1 ⟨rfl, hb1⟩
  have HK := Lib.hid ((Blk.fresh w 46 zeroCC).below hb1 (by simp))
  have HB := Lib.hid (((Below.refl w.heap.size w).alloc (Nat.le_refl _) (.cells zeroCC 46)).trans (hb1.mono (by simp)))
  clear hb1
  simp only [valH]
  rw [HCB.out]
  go_upto_if 25 with (fail)
  have H6 := Lib.hid (HB.out.alloc HB.out.size (.cells (hdC l v c f o) 65))
  have H7 := Lib.hid (HK.out.alloc (.cells (hdC l v c f o) 65))
  have H8 := Lib.hid (Blk.fresh w1 65 (hdC l v c f o))
  generalize w1.alloc (.cells (hdC l v c f o) 65) = w2 at H6 H7 H8 ⊢
  obtain ⟨c0, c1, c2, c3, c4, y0, y1, y2, y3, y4⟩ := Rw5.row H7.out
  obtain ⟨d0, d1, d2, d3, d4, _⟩ := Rw5.row H8.out
  go_wp2
  (try simp only [Exit.inBlock, Exit.then]); refine bodyPost_ret (results_row2 rfl _ _ w.heap.size 46 _ (0, 0) _ rfl (Rw5.blk_set H7.out _ _ _ _ _) Try.underlying46 rfl info_cmsg) rfl ?_
  exact ⟨rfl, Rw5.below_set H6.out (Nat.le_refl _) _ _ _ _ _⟩
set_option maxRecDepth 100000 in
set_option maxHeartbeats 2000000 in
theorem open_is (s cb : ByteArray) (l v c f o : Nat) (cs : List UInt8) (k lv r : Nat) (w : World) (hs : s.size ≤ maxLen) (ho : openO s.data.toList = (⟨l, v, c, f, o⟩, cs, k)) (hcb : (⟨cs.toArray⟩ : ByteArray) = cb) (hk : k = 0) (hi : isO ⟨l, v, c, f, o⟩ lv 0 1 70 = r) (hr : r ≠ 0) :
    Calls Try.prog 20 #[.string s, .int .u8 (lv : Int)] w fun x w' => x = .returned (.tuple #[zeroCV, .int .i64 (r : Int)]) ∧ Below w.heap.size w w' := by
  have HO := Lib.hid ho; clear ho
  have HS := Lib.hid hs; clear hs
  have HCB := Lib.hid hcb; clear hcb
  obtain rfl := hk
  have q2 : ((r : Int) != 0) = true := neq_t (by omega)
  have HI := Lib.hid hi
  clear hr hi
  go_enter Try.func20, Try.ntmps20
  go_wp2_with fail
  refine (Oa.open_at s _ HO.out HS.out).mono ?_
  rintro x w1 ⟨rfl, hb1⟩
  have HK := Lib.hid ((Blk.fresh w 46 zeroCC).below hb1 (by simp))
  have HB := Lib.hid (((Below.refl w.heap.size w).alloc (Nat.le_refl _) (.cells zeroCC 46)).trans (hb1.mono (by simp)))
  clear hb1
  simp only [valH]
  rw [HCB.out]
  go_upto_if 25 with (fail)
  have H6 := Lib.hid (HB.out.alloc HB.out.size (.cells (hdC l v c f o) 65))
  have H7 := Lib.hid (HK.out.alloc (.cells (hdC l v c f o) 65))
  have H8 := Lib.hid (Blk.fresh w1 65 (hdC l v c f o))
  generalize w1.alloc (.cells (hdC l v c f o) 65) = w2 at H6 H7 H8 ⊢
  obtain ⟨c0, c1, c2, c3, c4, y0, y1, y2, y3, y4⟩ := Rw5.row H7.out
  obtain ⟨d0, d1, d2, d3, d4, _⟩ := Rw5.row H8.out
  go_wp2_with fail
  refine (is_any l v c f o lv 0 1 70 _).mono ?_
  rintro x w3 ⟨rfl, hbb⟩
  have HB2 := Lib.hid (H6.out.trans (hbb.mono H6.out.size))
  have HK2 := Lib.hid (H7.out.below hbb H7.out.lt)
  have HH2 := Lib.hid (H8.out.below hbb H8.out.lt)
  rw [HI.out]
  clear hbb c0 c1 c2 c3 c4 y0 y1 y2 y3 y4 d0 d1 d2 d3 d4
  obtain ⟨c0, c1, c2, c3, c4, y0, y1, y2, y3, y4⟩ := Rw5.row HK2.out
  go_wp2
  (try simp only [Exit.inBlock, Exit.then]); refine bodyPost_ret (results_row2 rfl _ _ w.heap.size 46 _ (0, 0) _ rfl (Rw5.blk_set HK2.out _ _ _ _ _) Try.underlying46 rfl info_cmsg) rfl ?_
  exact ⟨rfl, Rw5.below_set HB2.out (Nat.le_refl _) _ _ _ _ _⟩
set_option maxRecDepth 100000 in
set_option maxHeartbeats 4000000 in
theorem open_strayA (s cb fb fr rest tl : ByteArray) (l v c f o : Nat) (cs : List UInt8) (lv x0 z1 x2 y0 z2 y2 : Nat) (zb : Bool) (w : World) (hs : s.size ≤ maxLen) (ho : openO s.data.toList = (⟨l, v, c, f, o⟩, cs, 0)) (hcb : (⟨cs.toArray⟩ : ByteArray) = cb) (hi : isO ⟨l, v, c, f, o⟩ lv 0 1 70 = 0) (hcz : cb.size ≤ maxLen)
    (hfb : (⟨[UInt8.ofNat f].toArray⟩ : ByteArray) = fb) (hfs : fb.size ≤ maxLen) (hf2 : f < 256) (hsf : splitR fb widthsF = ([x0, z1, x2], fr, 0)) (hsc : splitR cb widthsC = ([y0, z2, y2], rest, 0)) (hrs : 48 ≤ rest.size) (hrm : rest.size ≤ 1000) (htl : rest.extract 48 rest.size = tl) (hz : zeros tl.data.toList = zb) (htm : tl.size ≤ maxLen) (h1 : z1 ≠ 0) :
    Calls Try.prog 20 #[.string s, .int .u8 (lv : Int)] w fun x w' => x = .returned (.tuple #[zeroCV, .int .i64 ((3 : Nat) : Int)]) ∧ Below w.heap.size w w' := by
  have HO := Lib.hid ho; clear ho
  have HS := Lib.hid hs; clear hs
  have HCB := Lib.hid hcb; clear hcb
  have HI := Lib.hid hi; clear hi
  have HCZ := Lib.hid hcz; clear hcz
  have HFB := Lib.hid hfb; clear hfb
  have HFS := Lib.hid hfs; clear hfs
  have HF2 := Lib.hid hf2; clear hf2
  have HSF := Lib.hid hsf; clear hsf
  have HSC := Lib.hid hsc; clear hsc
  have HZ := Lib.hid hz; clear hz
  have HTM := Lib.hid htm; clear htm
  have m1 : (48 : Int) ≤ (rest.size : Int) := by omega
  have q2 : ((z1 : Int) != 0) = true := neq_t (by omega)
  clear h1
  go_enter Try.func20, Try.ntmps20
  go_wp2_with fail
  refine (Oa.open_at s _ HO.out HS.out).mono ?_
  rintro x w1 ⟨rfl, hb1⟩
  have HK := Lib.hid ((Blk.fresh w 46 zeroCC).below hb1 (by simp))
  have HB := Lib.hid (((Below.refl w.heap.size w).alloc (Nat.le_refl _) (.cells zeroCC 46)).trans (hb1.mono (by simp)))
  clear hb1
  simp only [valH]
  rw [HCB.out]
  go_upto_if 25 with (fail)
  have H6 := Lib.hid (HB.out.alloc HB.out.size (.cells (hdC l v c f o) 65))
  have H7 := Lib.hid (HK.out.alloc (.cells (hdC l v c f o) 65))
  have H8 := Lib.hid (Blk.fresh w1 65 (hdC l v c f o))
  generalize w1.alloc (.cells (hdC l v c f o) 65) = w2 at H6 H7 H8 ⊢
  obtain ⟨c0, c1, c2, c3, c4, y0, y1, y2, y3, y4⟩ := Rw5.row H7.out
  obtain ⟨d0, d1, d2, d3, d4, _⟩ := Rw5.row H8.out
  go_wp2_with fail
  refine (is_any l v c f o lv 0 1 70 _).mono ?_
  rintro x w3 ⟨rfl, hbb⟩
  have HB2 := Lib.hid (H6.out.trans (hbb.mono H6.out.size))
  have HK2 := Lib.hid (H7.out.below hbb H7.out.lt)
  have HH2 := Lib.hid (H8.out.below hbb H8.out.lt)
  rw [HI.out]
  clear hbb c0 c1 c2 c3 c4 y0 y1 y2 y3 y4 d0 d1 d2 d3 d4
  obtain ⟨d0, d1, d2, d3, d4, _⟩ := Rw5.row HH2.out
  have hcv := back_new (P := Try.prog) (src := 62) (dst := 9) (e := 5) w3 #[.int .u8 (f : Int)] [UInt8.ofNat f] 1 1 (by simp only [byteVals, List.map_cons, List.map_nil]; rw [ofNat_toNat _ HF2.out]) rfl Try.underlying62 Try.underlying5 Try.underlying9
  rw [HFB.out] at hcv
  go_wp2_with fail
  refine (split_blk fb widthsF _ _ 3 _ _ _ _ (fresh_second _ _ _ _) rfl HSF.out rfl rfl HFS.out (by simp)).mono ?_
  rintro x w4 ⟨A1, k1, rfl, hr1, hb4⟩
  have HB4 := Lib.hid (((HB2.out.alloc HB2.out.size (.cells #[.int .u8 (f : Int)] 5)).alloc (by have := HB2.out.size; simp; omega) (.cells #[.int .i64 1, .int .i64 4, .int .i64 3] 3)).trans (hb4.mono (by have := HB2.out.size; simp; omega)))
  have HK4 := Lib.hid (((HK2.out.alloc (.cells #[.int .u8 (f : Int)] 5)).alloc (.cells #[.int .i64 1, .int .i64 4, .int .i64 3] 3)).below hb4 ((HK2.out.alloc _).alloc _).lt)
  have HR1 := Lib.hid hr1
  clear hb4 hr1 hcv d0 d1 d2 d3 d4
  go_wp2_with fail
  refine (split_blk cb widthsC _ _ 3 _ _ _ _ (Blk.fresh _ _ _) rfl HSC.out rfl rfl HCZ.out (by simp)).mono ?_
  rintro x w5 ⟨A2, k2, rfl, hr2, hb5⟩
  have HB5 := Lib.hid ((HB4.out.alloc HB4.out.size (.cells #[.int .i64 32, .int .i64 3, .int .i64 13] 3)).trans (hb5.mono (by have := HB4.out.size; simp; omega)))
  have HK5 := Lib.hid ((HK4.out.alloc (.cells #[.int .i64 32, .int .i64 3, .int .i64 13] 3)).below hb5 (HK4.out.alloc _).lt)
  obtain ⟨a2, rfl, l2, hcell2⟩ := hr2 (by simp [nums])
  have hr1' := (HR1.out.below ((Below.refl w4.heap.size w4).alloc (Nat.le_refl _) (.cells #[.int .i64 32, .int .i64 3, .int .i64 13] 3))).below (hb5.mono (by simp))
  obtain ⟨a1, rfl, l1, hcell1⟩ := hr1' (by simp [nums])
  have l1' : a1.block < w5.heap.size := Nat.lt_of_lt_of_le l1 (by have := hb5.size; simp at this; omega)
  have e0 := hcell1 0 _ rfl
  have e1 := hcell1 1 _ rfl
  have e2 := hcell1 2 _ rfl
  have f0 := hcell2 0 _ rfl
  have f1 := hcell2 1 _ rfl
  have f2 := hcell2 2 _ rfl
  simp [Addr.add] at e0 e1 e2 f0 f1 f2
  have L1 := Lib.hid l1'
  have L2 := Lib.hid l2
  clear hb5 hr1' hcell1 hcell2 l1 l1' l2
  obtain ⟨c0, c1, c2, c3, c4, w0', w1', w2', w3', w4'⟩ := Rw5.row HK5.out
  go_wp2
  (try simp only [Exit.inBlock, Exit.then]); refine bodyPost_ret (results_row2 rfl _ _ w.heap.size 46 _ (0, 0) _ rfl (Rw5.blk_set HK5.out _ _ _ _ _) Try.underlying46 rfl info_cmsg) rfl ?_
  exact ⟨rfl, Rw5.below_set HB5.out (Nat.le_refl _) _ _ _ _ _⟩
set_option maxRecDepth 100000 in
set_option maxHeartbeats 4000000 in
theorem open_strayB (s cb fb fr rest tl : ByteArray) (l v c f o : Nat) (cs : List UInt8) (lv x0 z1 x2 y0 z2 y2 : Nat) (zb : Bool) (w : World) (hs : s.size ≤ maxLen) (ho : openO s.data.toList = (⟨l, v, c, f, o⟩, cs, 0)) (hcb : (⟨cs.toArray⟩ : ByteArray) = cb) (hi : isO ⟨l, v, c, f, o⟩ lv 0 1 70 = 0) (hcz : cb.size ≤ maxLen)
    (hfb : (⟨[UInt8.ofNat f].toArray⟩ : ByteArray) = fb) (hfs : fb.size ≤ maxLen) (hf2 : f < 256) (hsf : splitR fb widthsF = ([x0, z1, x2], fr, 0)) (hsc : splitR cb widthsC = ([y0, z2, y2], rest, 0)) (hrs : 48 ≤ rest.size) (hrm : rest.size ≤ 1000) (htl : rest.extract 48 rest.size = tl) (hz : zeros tl.data.toList = zb) (htm : tl.size ≤ maxLen) (h1 : z1 = 0) (h2 : z2 ≠ 0) :
    Calls Try.prog 20 #[.string s, .int .u8 (lv : Int)] w fun x w' => x = .returned (.tuple #[zeroCV, .int .i64 ((3 : Nat) : Int)]) ∧ Below w.heap.size w w' := by
  have HO := Lib.hid ho; clear ho
  have HS := Lib.hid hs; clear hs
  have HCB := Lib.hid hcb; clear hcb
  have HI := Lib.hid hi; clear hi
  have HCZ := Lib.hid hcz; clear hcz
  have HFB := Lib.hid hfb; clear hfb
  have HFS := Lib.hid hfs; clear hfs
  have HF2 := Lib.hid hf2; clear hf2
  have HSF := Lib.hid hsf; clear hsf
  have HSC := Lib.hid hsc; clear hsc
  have HZ := Lib.hid hz; clear hz
  have HTM := Lib.hid htm; clear htm
  have m1 : (48 : Int) ≤ (rest.size : Int) := by omega
  have q2 : ((z1 : Int) != 0) = false := neq_f (by omega)
  have q3 : ((z2 : Int) != 0) = true := neq_t (by omega)
  clear h1 h2
  go_enter Try.func20, Try.ntmps20
  go_wp2_with fail
  refine (Oa.open_at s _ HO.out HS.out).mono ?_
  rintro x w1 ⟨rfl, hb1⟩
  have HK := Lib.hid ((Blk.fresh w 46 zeroCC).below hb1 (by simp))
  have HB := Lib.hid (((Below.refl w.heap.size w).alloc (Nat.le_refl _) (.cells zeroCC 46)).trans (hb1.mono (by simp)))
  clear hb1
  simp only [valH]
  rw [HCB.out]
  go_upto_if 25 with (fail)
  have H6 := Lib.hid (HB.out.alloc HB.out.size (.cells (hdC l v c f o) 65))
  have H7 := Lib.hid (HK.out.alloc (.cells (hdC l v c f o) 65))
  have H8 := Lib.hid (Blk.fresh w1 65 (hdC l v c f o))
  generalize w1.alloc (.cells (hdC l v c f o) 65) = w2 at H6 H7 H8 ⊢
  obtain ⟨c0, c1, c2, c3, c4, y0, y1, y2, y3, y4⟩ := Rw5.row H7.out
  obtain ⟨d0, d1, d2, d3, d4, _⟩ := Rw5.row H8.out
  go_wp2_with fail
  refine (is_any l v c f o lv 0 1 70 _).mono ?_
  rintro x w3 ⟨rfl, hbb⟩
  have HB2 := Lib.hid (H6.out.trans (hbb.mono H6.out.size))
  have HK2 := Lib.hid (H7.out.below hbb H7.out.lt)
  have HH2 := Lib.hid (H8.out.below hbb H8.out.lt)
  rw [HI.out]
  clear hbb c0 c1 c2 c3 c4 y0 y1 y2 y3 y4 d0 d1 d2 d3 d4
  obtain ⟨d0, d1, d2, d3, d4, _⟩ := Rw5.row HH2.out
  have hcv := back_new (P := Try.prog) (src := 62) (dst := 9) (e := 5) w3 #[.int .u8 (f : Int)] [UInt8.ofNat f] 1 1 (by simp only [byteVals, List.map_cons, List.map_nil]; rw [ofNat_toNat _ HF2.out]) rfl Try.underlying62 Try.underlying5 Try.underlying9
  rw [HFB.out] at hcv
  go_wp2_with fail
  refine (split_blk fb widthsF _ _ 3 _ _ _ _ (fresh_second _ _ _ _) rfl HSF.out rfl rfl HFS.out (by simp)).mono ?_
  rintro x w4 ⟨A1, k1, rfl, hr1, hb4⟩
  have HB4 := Lib.hid (((HB2.out.alloc HB2.out.size (.cells #[.int .u8 (f : Int)] 5)).alloc (by have := HB2.out.size; simp; omega) (.cells #[.int .i64 1, .int .i64 4, .int .i64 3] 3)).trans (hb4.mono (by have := HB2.out.size; simp; omega)))
  have HK4 := Lib.hid (((HK2.out.alloc (.cells #[.int .u8 (f : Int)] 5)).alloc (.cells #[.int .i64 1, .int .i64 4, .int .i64 3] 3)).below hb4 ((HK2.out.alloc _).alloc _).lt)
  have HR1 := Lib.hid hr1
  clear hb4 hr1 hcv d0 d1 d2 d3 d4
  go_wp2_with fail
  refine (split_blk cb widthsC _ _ 3 _ _ _ _ (Blk.fresh _ _ _) rfl HSC.out rfl rfl HCZ.out (by simp)).mono ?_
  rintro x w5 ⟨A2, k2, rfl, hr2, hb5⟩
  have HB5 := Lib.hid ((HB4.out.alloc HB4.out.size (.cells #[.int .i64 32, .int .i64 3, .int .i64 13] 3)).trans (hb5.mono (by have := HB4.out.size; simp; omega)))
  have HK5 := Lib.hid ((HK4.out.alloc (.cells #[.int .i64 32, .int .i64 3, .int .i64 13] 3)).below hb5 (HK4.out.alloc _).lt)
  obtain ⟨a2, rfl, l2, hcell2⟩ := hr2 (by simp [nums])
  have hr1' := (HR1.out.below ((Below.refl w4.heap.size w4).alloc (Nat.le_refl _) (.cells #[.int .i64 32, .int .i64 3, .int .i64 13] 3))).below (hb5.mono (by simp))
  obtain ⟨a1, rfl, l1, hcell1⟩ := hr1' (by simp [nums])
  have l1' : a1.block < w5.heap.size := Nat.lt_of_lt_of_le l1 (by have := hb5.size; simp at this; omega)
  have e0 := hcell1 0 _ rfl
  have e1 := hcell1 1 _ rfl
  have e2 := hcell1 2 _ rfl
  have f0 := hcell2 0 _ rfl
  have f1 := hcell2 1 _ rfl
  have f2 := hcell2 2 _ rfl
  simp [Addr.add] at e0 e1 e2 f0 f1 f2
  have L1 := Lib.hid l1'
  have L2 := Lib.hid l2
  clear hb5 hr1' hcell1 hcell2 l1 l1' l2
  obtain ⟨c0, c1, c2, c3, c4, w0', w1', w2', w3', w4'⟩ := Rw5.row HK5.out
  go_wp2
  (try simp only [Exit.inBlock, Exit.then]); refine bodyPost_ret (results_row2 rfl _ _ w.heap.size 46 _ (0, 0) _ rfl (Rw5.blk_set HK5.out _ _ _ _ _) Try.underlying46 rfl info_cmsg) rfl ?_
  exact ⟨rfl, Rw5.below_set HB5.out (Nat.le_refl _) _ _ _ _ _⟩
set_option maxRecDepth 100000 in
set_option maxHeartbeats 4000000 in
theorem open_strayC (s cb fb fr rest tl : ByteArray) (l v c f o : Nat) (cs : List UInt8) (lv x0 z1 x2 y0 z2 y2 : Nat) (zb : Bool) (w : World) (hs : s.size ≤ maxLen) (ho : openO s.data.toList = (⟨l, v, c, f, o⟩, cs, 0)) (hcb : (⟨cs.toArray⟩ : ByteArray) = cb) (hi : isO ⟨l, v, c, f, o⟩ lv 0 1 70 = 0) (hcz : cb.size ≤ maxLen)
    (hfb : (⟨[UInt8.ofNat f].toArray⟩ : ByteArray) = fb) (hfs : fb.size ≤ maxLen) (hf2 : f < 256) (hsf : splitR fb widthsF = ([x0, z1, x2], fr, 0)) (hsc : splitR cb widthsC = ([y0, z2, y2], rest, 0)) (hrs : 48 ≤ rest.size) (hrm : rest.size ≤ 1000) (htl : rest.extract 48 rest.size = tl) (hz : zeros tl.data.toList = zb) (htm : tl.size ≤ maxLen) (h1 : z1 = 0) (h2 : z2 = 0) (hzb : zb = false) :
    Calls Try.prog 20 #[.string s, .int .u8 (lv : Int)] w fun x w' => x = .returned (.tuple #[zeroCV, .int .i64 ((3 : Nat) : Int)]) ∧ Below w.heap.size w w' := by
  have HO := Lib.hid ho; clear ho
  have HS := Lib.hid hs; clear hs
  have HCB := Lib.hid hcb; clear hcb
  have HI := Lib.hid hi; clear hi
  have HCZ := Lib.hid hcz; clear hcz
  have HFB := Lib.hid hfb; clear hfb
  have HFS := Lib.hid hfs; clear hfs
  have HF2 := Lib.hid hf2; clear hf2
  have HSF := Lib.hid hsf; clear hsf
  have HSC := Lib.hid hsc; clear hsc
  have HZ := Lib.hid hz; clear hz
  have HTM := Lib.hid htm; clear htm
  have m1 : (48 : Int) ≤ (rest.size : Int) := by omega
  have q2 : ((z1 : Int) != 0) = false := neq_f (by omega)
  have q3 : ((z2 : Int) != 0) = false := neq_f (by omega)
  subst hzb
  clear h1 h2
  go_enter Try.func20, Try.ntmps20
  go_wp2_with fail
  refine (Oa.open_at s _ HO.out HS.out).mono ?_
  rintro x w1 ⟨rfl, hb1⟩
  have HK := Lib.hid ((Blk.fresh w 46 zeroCC).below hb1 (by simp))
  have HB := Lib.hid (((Below.refl w.heap.size w).alloc (Nat.le_refl _) (.cells zeroCC 46)).trans (hb1.mono (by simp)))
  clear hb1
  simp only [valH]
  rw [HCB.out]
  go_upto_if 25 with (fail)
  have H6 := Lib.hid (HB.out.alloc HB.out.size (.cells (hdC l v c f o) 65))
  have H7 := Lib.hid (HK.out.alloc (.cells (hdC l v c f o) 65))
  have H8 := Lib.hid (Blk.fresh w1 65 (hdC l v c f o))
  generalize w1.alloc (.cells (hdC l v c f o) 65) = w2 at H6 H7 H8 ⊢
  obtain ⟨c0, c1, c2, c3, c4, y0, y1, y2, y3, y4⟩ := Rw5.row H7.out
  obtain ⟨d0, d1, d2, d3, d4, _⟩ := Rw5.row H8.out
  go_wp2_with fail
  refine (is_any l v c f o lv 0 1 70 _).mono ?_
  rintro x w3 ⟨rfl, hbb⟩
  have HB2 := Lib.hid (H6.out.trans (hbb.mono H6.out.size))
  have HK2 := Lib.hid (H7.out.below hbb H7.out.lt)
  have HH2 := Lib.hid (H8.out.below hbb H8.out.lt)
  rw [HI.out]
  clear hbb c0 c1 c2 c3 c4 y0 y1 y2 y3 y4 d0 d1 d2 d3 d4
  obtain ⟨d0, d1, d2, d3, d4, _⟩ := Rw5.row HH2.out
  have hcv := back_new (P := Try.prog) (src := 62) (dst := 9) (e := 5) w3 #[.int .u8 (f : Int)] [UInt8.ofNat f] 1 1 (by simp only [byteVals, List.map_cons, List.map_nil]; rw [ofNat_toNat _ HF2.out]) rfl Try.underlying62 Try.underlying5 Try.underlying9
  rw [HFB.out] at hcv
  go_wp2_with fail
  refine (split_blk fb widthsF _ _ 3 _ _ _ _ (fresh_second _ _ _ _) rfl HSF.out rfl rfl HFS.out (by simp)).mono ?_
  rintro x w4 ⟨A1, k1, rfl, hr1, hb4⟩
  have HB4 := Lib.hid (((HB2.out.alloc HB2.out.size (.cells #[.int .u8 (f : Int)] 5)).alloc (by have := HB2.out.size; simp; omega) (.cells #[.int .i64 1, .int .i64 4, .int .i64 3] 3)).trans (hb4.mono (by have := HB2.out.size; simp; omega)))
  have HK4 := Lib.hid (((HK2.out.alloc (.cells #[.int .u8 (f : Int)] 5)).alloc (.cells #[.int .i64 1, .int .i64 4, .int .i64 3] 3)).below hb4 ((HK2.out.alloc _).alloc _).lt)
  have HR1 := Lib.hid hr1
  clear hb4 hr1 hcv d0 d1 d2 d3 d4
  go_wp2_with fail
  refine (split_blk cb widthsC _ _ 3 _ _ _ _ (Blk.fresh _ _ _) rfl HSC.out rfl rfl HCZ.out (by simp)).mono ?_
  rintro x w5 ⟨A2, k2, rfl, hr2, hb5⟩
  have HB5 := Lib.hid ((HB4.out.alloc HB4.out.size (.cells #[.int .i64 32, .int .i64 3, .int .i64 13] 3)).trans (hb5.mono (by have := HB4.out.size; simp; omega)))
  have HK5 := Lib.hid ((HK4.out.alloc (.cells #[.int .i64 32, .int .i64 3, .int .i64 13] 3)).below hb5 (HK4.out.alloc _).lt)
  obtain ⟨a2, rfl, l2, hcell2⟩ := hr2 (by simp [nums])
  have hr1' := (HR1.out.below ((Below.refl w4.heap.size w4).alloc (Nat.le_refl _) (.cells #[.int .i64 32, .int .i64 3, .int .i64 13] 3))).below (hb5.mono (by simp))
  obtain ⟨a1, rfl, l1, hcell1⟩ := hr1' (by simp [nums])
  have l1' : a1.block < w5.heap.size := Nat.lt_of_lt_of_le l1 (by have := hb5.size; simp at this; omega)
  have e0 := hcell1 0 _ rfl
  have e1 := hcell1 1 _ rfl
  have e2 := hcell1 2 _ rfl
  have f0 := hcell2 0 _ rfl
  have f1 := hcell2 1 _ rfl
  have f2 := hcell2 2 _ rfl
  simp [Addr.add] at e0 e1 e2 f0 f1 f2
  have L1 := Lib.hid l1'
  have L2 := Lib.hid l2
  clear hb5 hr1' hcell1 hcell2 l1 l1' l2
  obtain ⟨c0, c1, c2, c3, c4, w0', w1', w2', w3', w4'⟩ := Rw5.row HK5.out
  go_wp2_with fail
  refine (noughts_at tl w5 HZ.out HTM.out).mono ?_
  rintro x w6 ⟨rfl, rfl⟩
  go_wp2
  (try simp only [Exit.inBlock, Exit.then]); refine bodyPost_ret (results_row2 rfl _ _ w.heap.size 46 _ (0, 0) _ rfl (Rw5.blk_set HK5.out _ _ _ _ _) Try.underlying46 rfl info_cmsg) rfl ?_
  exact ⟨rfl, Rw5.below_set HB5.out (Nat.le_refl _) _ _ _ _ _⟩
end Go.Proofs.Ytnapbmdkaldncaa.Cc
