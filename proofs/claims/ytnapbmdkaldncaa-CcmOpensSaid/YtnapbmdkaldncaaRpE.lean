/-
  Contract of raps' Open.
-/
import Derived.Test.YtnapbmdkaldncaaRpD
import Derived.Test.YtnapbmdkaldncaaOamB
namespace Go.Proofs.Ytnapbmdkaldncaa.Rp
open Go.RowKit Go.Proofs.Ytnapbmdkaldncaa.Bt Go.Proofs.Ytnapbmdkaldncaa.Mm Go.Proofs.Ytnapbmdkaldncaa.Fl Go.Proofs.Ytnapbmdkaldncaa.Lw Go.Proofs.Ytnapbmdkaldncaa.Hx Go.Proofs.Ytnapbmdkaldncaa.Mc Go.Proofs.Ytnapbmdkaldncaa.Tg Go.Proofs.Ytnapbmdkaldncaa.Oa

theorem rclose_hi (q : Nat) (b k e : Bool) (n l : Nat) (w : World) (h : 7 < l) :
    Calls Try.prog 10 #[msV q b k e n, .int .u8 (l : Int)] w fun x w' => x = .returned (.tuple #[.string ⟨#[]⟩, .int .i64 4]) ∧ Below w.heap.size w w' := by
  have h1 : decide ((7 : Int) < (l : Int)) = true := gt_t (by omega)
  have HB := Lib.hid ((Below.refl w.heap.size w).alloc (Nat.le_refl _) (.cells (msC q b k e n) 33))
  clear h
  go_enter Try.func10, Try.ntmps10
  go_wp2
  go_ret2
  exact ⟨rfl, HB.out⟩
set_option maxHeartbeats 1000000 in
theorem rclose_wrong (q : Nat) (b k e : Bool) (n l r : Nat) (w : World) (h : ¬ 7 < l) (hr : wrongM ⟨q, b, k, e, n⟩ = r) (h0 : r ≠ 0) (hn : n < 18446744073709551616) :
    Calls Try.prog 10 #[msV q b k e n, .int .u8 (l : Int)] w fun x w' => x = .returned (.tuple #[.string ⟨#[]⟩, .int .i64 (r : Int)]) ∧ Below w.heap.size w w' := by
  have h1 : decide ((7 : Int) < (l : Int)) = false := gt_f (by omega)
  have h2 : ((r : Int) != 0) = true := neq_t (by omega)
  have HR := Lib.hid hr
  have HN := Lib.hid hn
  have HB := Lib.hid ((Below.refl w.heap.size w).alloc (Nat.le_refl _) (.cells (msC q b k e n) 33))
  clear h h0 hr hn
  go_enter Try.func10, Try.ntmps10
  go_wp2_with fail
  refine (rwrong_at q b k e n _ HR.out HN.out).mono ?_
  rintro x w1 ⟨rfl, hb1⟩
  have HB1 := Lib.hid (HB.out.trans (hb1.mono HB.out.size))
  clear hb1
  go_wp2
  go_ret2
  exact ⟨rfl, HB1.out⟩
theorem rclose_at {bs : List UInt8} {r : Nat} (q : Nat) (b k e : Bool) (n l : Nat) (w : World) (h : closeM ⟨q, b, k, e, n⟩ l = (bs, r)) (hn : n < 18446744073709551616) :
    Calls Try.prog 10 #[msV q b k e n, .int .u8 (l : Int)] w fun x w' => x = .returned (.tuple #[.string ⟨bs.toArray⟩, .int .i64 (r : Int)]) ∧ Below w.heap.size w w' := by
  unfold closeM at h
  by_cases h1 : 7 < l
  · rw [if_pos h1] at h
    simp only [Prod.mk.injEq] at h
    obtain ⟨rfl, rfl⟩ := h
    exact rclose_hi q b k e n l w h1
  rw [if_neg h1] at h
  by_cases h2 : wrongM ⟨q, b, k, e, n⟩ ≠ 0
  · rw [if_pos h2] at h
    simp only [Prod.mk.injEq] at h
    obtain ⟨rfl, rfl⟩ := h
    exact rclose_wrong q b k e n l _ w h1 rfl h2 hn
  rw [if_neg h2] at h
  have hw : wrongM ⟨q, b, k, e, n⟩ = 0 := by simpa using h2
  obtain ⟨hk, _, hnn, _⟩ := wrongM_zero hw
  have hq4 := kind_lt hk
  simp only at hq4 hnn
  have hl6 := length_bytesM hnn
  refine rclose_ok q b k e n l _ w h1 hw hq4 hnn rfl (marks_lt _).1 bs r _ rfl (by rw [size_mk]; exact hl6) ?_
  rw [← h]
  congr 1

abbrev widthsM : List Int := [4, 4, 1, 1, 1, 5, 48]
theorem split_msg (c : ByteArray) (h : c.size = 32) : splitR c widthsM = ([byteAt c.data.toList 0 / 16, byteAt c.data.toList 0 % 16, byteAt c.data.toList 1 / 128, byteAt c.data.toList 1 / 64 % 2, byteAt c.data.toList 1 / 32 % 2, byteAt c.data.toList 1 % 32, getN c.data.toList 2 6], c.extract 8 c.size, 0) := by
  have e1 : widthsM.all okW = true := by decide
  have e2 : tot widthsM = 64 := by decide
  have ev : valsOf c widthsM = [getB c 0 4, getB c 4 4, getB c 8 1, getB c 9 1, getB c 10 1, getB c 11 5, getB c 16 48] := rfl
  have j0 := getB_join c 0 4 4 (by omega)
  have j1 := getB_join c 8 1 7 (by omega)
  have j2 := getB_join c 9 1 6 (by omega)
  have j3 := getB_join c 10 1 5 (by omega)
  have b0 := byte_get c 0 (by omega)
  have b1 := byte_get c 1 (by omega)
  have g := getB_getN c 2 6
  have l0 := getB_lt c 4 4
  have l1 := getB_lt c 9 1
  have l2 := getB_lt c 10 1
  have l3 := getB_lt c 11 5
  simp only [Nat.reduceAdd, Nat.reduceMul, Nat.reducePow, Nat.zero_add, Nat.mul_zero, Nat.mul_one] at j0 j1 j2 j3 b0 b1 g l0 l1 l2 l3
  have p0 : getB c 0 4 = byteAt c.data.toList 0 / 16 := by omega
  have p1 : getB c 4 4 = byteAt c.data.toList 0 % 16 := by omega
  have p2 : getB c 8 1 = byteAt c.data.toList 1 / 128 := by omega
  have p3 : getB c 9 1 = byteAt c.data.toList 1 / 64 % 2 := by omega
  have p4 : getB c 10 1 = byteAt c.data.toList 1 / 32 % 2 := by omega
  have p5 : getB c 11 5 = byteAt c.data.toList 1 % 32 := by omega
  unfold splitR
  rw [if_pos e1, e2, if_pos (by decide), if_pos (by omega), ev, p0, p1, p2, p3, p4, p5, g]
abbrev zeroMC : Array Value := #[.int .u8 0, .bool false, .bool false, .bool false, .int .u64 0]
theorem info_msg : (Try.prog.info? 26).map (·.size) = some 5 := by kernel_rfl
theorem info_rmsg : (Try.prog.info? 33).map (·.size) = some 5 := by kernel_rfl
abbrev zeroMV : Value := .agg zeroMC

set_option maxRecDepth 100000 in
set_option maxHeartbeats 2000000 in
theorem open_err (s cb : ByteArray) (l v c f o : Nat) (cs : List UInt8) (k lv : Nat) (w : World) (hs : s.size ≤ maxLen) (ho : openO s.data.toList = (⟨l, v, c, f, o⟩, cs, k)) (hcb : (⟨cs.toArray⟩ : ByteArray) = cb) (hk : k ≠ 0) :
    Calls Try.prog 13 #[.string s, .int .u8 (lv : Int)] w fun x w' => x = .returned (.tuple #[zeroMV, .int .i64 (k : Int)]) ∧ Below w.heap.size w w' := by
  have HO := Lib.hid ho; clear ho
  have HS := Lib.hid hs; clear hs
  have HCB := Lib.hid hcb; clear hcb
  have q1 : ((k : Int) != 0) = true := neq_t (by omega)
  clear hk
  go_enter Try.func13, Try.ntmps13
  go_wp2_with fail
  refine (Oa.open_at s _ HO.out HS.out).mono ?_
  rintro x w1 ⟨rfl, hb1⟩
  have HK := Lib.hid ((Blk.fresh w 26 zeroMC).below hb1 (by simp))
  have HB := Lib.hid (((Below.refl w.heap.size w).alloc (Nat.le_refl _) (.cells zeroMC 26)).trans (hb1.mono (by simp)))
  clear hb1
  simp only [valH]
  rw [HCB.out]
  go_upto_if 22 with (fail)
  have H6 := Lib.hid (HB.out.alloc HB.out.size (.cells (hdC l v c f o) 65))
  have H7 := Lib.hid (HK.out.alloc (.cells (hdC l v c f o) 65))
  have H8 := Lib.hid (Blk.fresh w1 65 (hdC l v c f o))
  generalize w1.alloc (.cells (hdC l v c f o) 65) = w2 at H6 H7 H8 ⊢
  obtain ⟨c0, c1, c2, c3, c4, z0, z1, z2, z3, z4⟩ := Rw5.row H7.out
  obtain ⟨d0, d1, d2, d3, d4, _⟩ := Rw5.row H8.out
  go_wp2
  (try simp only [Exit.inBlock, Exit.then]); refine bodyPost_ret (results_row2 rfl _ _ w.heap.size 26 _ (0, 0) _ rfl (Rw5.blk_set H7.out _ _ _ _ _) Try.underlying26 rfl info_msg) rfl ?_
  exact ⟨rfl, Rw5.below_set H6.out (Nat.le_refl _) _ _ _ _ _⟩
set_option maxRecDepth 100000 in
set_option maxHeartbeats 2000000 in
theorem open_is (s cb : ByteArray) (l v c f o : Nat) (cs : List UInt8) (k lv r : Nat) (w : World) (hs : s.size ≤ maxLen) (ho : openO s.data.toList = (⟨l, v, c, f, o⟩, cs, k)) (hcb : (⟨cs.toArray⟩ : ByteArray) = cb) (hk : k = 0) (hi : isO ⟨l, v, c, f, o⟩ lv 1 40 32 = r) (hr : r ≠ 0) :
    Calls Try.prog 13 #[.string s, .int .u8 (lv : Int)] w fun x w' => x = .returned (.tuple #[zeroMV, .int .i64 (r : Int)]) ∧ Below w.heap.size w w' := by
  have HO := Lib.hid ho; clear ho
  have HS := Lib.hid hs; clear hs
  have HCB := Lib.hid hcb; clear hcb
  obtain rfl := hk
  have q2 : ((r : Int) != 0) = true := neq_t (by omega)
  have HI := Lib.hid hi
  clear hr hi
  go_enter Try.func13, Try.ntmps13
  go_wp2_with fail
  refine (Oa.open_at s _ HO.out HS.out).mono ?_
  rintro x w1 ⟨rfl, hb1⟩
  have HK := Lib.hid ((Blk.fresh w 26 zeroMC).below hb1 (by simp))
  have HB := Lib.hid (((Below.refl w.heap.size w).alloc (Nat.le_refl _) (.cells zeroMC 26)).trans (hb1.mono (by simp)))
  clear hb1
  simp only [valH]
  rw [HCB.out]
  go_upto_if 22 with (fail)
  have H6 := Lib.hid (HB.out.alloc HB.out.size (.cells (hdC l v c f o) 65))
  have H7 := Lib.hid (HK.out.alloc (.cells (hdC l v c f o) 65))
  have H8 := Lib.hid (Blk.fresh w1 65 (hdC l v c f o))
  generalize w1.alloc (.cells (hdC l v c f o) 65) = w2 at H6 H7 H8 ⊢
  obtain ⟨c0, c1, c2, c3, c4, z0, z1, z2, z3, z4⟩ := Rw5.row H7.out
  obtain ⟨d0, d1, d2, d3, d4, _⟩ := Rw5.row H8.out
  go_wp2_with fail
  refine (is_any l v c f o lv 1 40 32 _).mono ?_
  rintro x w3 ⟨rfl, hb2⟩
  have HB2 := Lib.hid (H6.out.trans (hb2.mono H6.out.size))
  have HK2 := Lib.hid (H7.out.below hb2 H7.out.lt)
  rw [HI.out]
  clear hb2 c0 c1 c2 c3 c4 z0 z1 z2 z3 z4 d0 d1 d2 d3 d4
  obtain ⟨c0, c1, c2, c3, c4, z0, z1, z2, z3, z4⟩ := Rw5.row HK2.out
  go_wp2
  (try simp only [Exit.inBlock, Exit.then]); refine bodyPost_ret (results_row2 rfl _ _ w.heap.size 26 _ (0, 0) _ rfl (Rw5.blk_set HK2.out _ _ _ _ _) Try.underlying26 rfl info_msg) rfl ?_
  exact ⟨rfl, Rw5.below_set HB2.out (Nat.le_refl _) _ _ _ _ _⟩
end Go.Proofs.Ytnapbmdkaldncaa.Rp
