/-
  Contract of raps' Open: behind the head.
-/
import Derived.Test.YtnapbmdkaldncaaRpF
namespace Go.Proofs.Ytnapbmdkaldncaa.Rp
open Go.RowKit Go.Proofs.Ytnapbmdkaldncaa.Bt Go.Proofs.Ytnapbmdkaldncaa.Mm Go.Proofs.Ytnapbmdkaldncaa.Fl Go.Proofs.Ytnapbmdkaldncaa.Lw Go.Proofs.Ytnapbmdkaldncaa.Hx Go.Proofs.Ytnapbmdkaldncaa.Mc Go.Proofs.Ytnapbmdkaldncaa.Tg Go.Proofs.Ytnapbmdkaldncaa.Oa

set_option maxRecDepth 100000 in
set_option maxHeartbeats 4000000 in
theorem open_wrongW (s cb tail : ByteArray) (l v c f o : Nat) (cs : List UInt8) (lv q z1 x2 x3 x4 z2 n : Nat) (zb : Bool) (b2 b3 b4 : Bool) (r : Nat) (w : World) (hs : s.size ≤ maxLen) (ho : openO s.data.toList = (⟨l, v, c, f, o⟩, cs, 0)) (hcb : (⟨cs.toArray⟩ : ByteArray) = cb) (hi : isO ⟨l, v, c, f, o⟩ lv 1 40 32 = 0) (hc2 : cb.size ≤ maxLen)
    (hsp : splitR cb widthsM = ([q, z1, x2, x3, x4, z2, n], tail, 0)) (hz : zeros tail.data.toList = zb) (ht : tail.size ≤ maxLen) (hf : f = 0) (h1 : z1 = 0) (h2 : z2 = 0) (hzb : zb = true) (hb2 : ((x2 : Int) == 1) = b2) (hb3 : ((x3 : Int) == 1) = b3) (hb4 : ((x4 : Int) == 1) = b4) (hq : q < 16) (hn : n < 18446744073709551616) (hw : wrongM ⟨q, b2, b3, b4, n⟩ = r) (hr : r ≠ 0) :
    Calls Try.prog 13 #[.string s, .int .u8 (lv : Int)] w fun x w' => x = .returned (.tuple #[zeroMV, .int .i64 (r : Int)]) ∧ Below w.heap.size w w' := by
  have HO := Lib.hid ho; clear ho
  have HS := Lib.hid hs; clear hs
  have HCB := Lib.hid hcb; clear hcb
  have HI := Lib.hid hi; clear hi
  have HC2 := Lib.hid hc2; clear hc2
  have HSP := Lib.hid hsp; clear hsp
  have HZ := Lib.hid hz; clear hz
  have HT := Lib.hid ht; clear ht
  have q1 : ((f : Int) != 0) = false := neq_f (by omega)
  have q2 : ((z1 : Int) != 0) = false := neq_f (by omega)
  have q3 : ((z2 : Int) != 0) = false := neq_f (by omega)
  subst hzb
  have wq : IntKind.u8.wrap (q : Int) = (q : Int) := IntWalk.u8_in _ ⟨by omega, by omega⟩
  have HN := Lib.hid hn
  have HW := Lib.hid hw
  clear hf h1 h2 hn hw
  have q4 : ((r : Int) != 0) = true := neq_t (by omega)
  clear hr
  go_enter Try.func13, Try.ntmps13
  go_wp2_with fail
  refine (Oa.open_at s _ HO.out HS.out).mono ?_
  rintro x w1 ⟨rfl, hb1⟩
  have HK := Lib.hid ((Blk.fresh w 26 zeroMC).below hb1 (by simp))
  have HB := Lib.hid (((Below.refl w.heap.size w).alloc (Nat.le_refl _) (.cells zeroMC 26)).trans (hb1.mono (by simp)))
  clear hb1
  simp only [valH]
  rw [HCB.out]
  go_upto_if 22 with (fail)
  have H6 := Lib.hid (HB.out.alloc HB.out.size (.cells (hdC l v c f o) 65))
  have H7 := Lib.hid (HK.out.alloc (.cells (hdC l v c f o) 65))
  have H8 := Lib.hid (Blk.fresh w1 65 (hdC l v c f o))
  generalize w1.alloc (.cells (hdC l v c f o) 65) = w2 at H6 H7 H8 ⊢
  obtain ⟨c0, c1, c2, c3, c4, z0, z1', z2', z3, z4⟩ := Rw5.row H7.out
  obtain ⟨d0, d1, d2, d3, d4, _⟩ := Rw5.row H8.out
  go_wp2_with fail
  refine (is_any l v c f o lv 1 40 32 _).mono ?_
  rintro x w3 ⟨rfl, hbb⟩
  have HB2 := Lib.hid (H6.out.trans (hbb.mono H6.out.size))
  have HK2 := Lib.hid (H7.out.below hbb H7.out.lt)
  have HH2 := Lib.hid (H8.out.below hbb H8.out.lt)
  rw [HI.out]
  clear hbb c0 c1 c2 c3 c4 z0 z1' z2' z3 z4 d0 d1 d2 d3 d4
  go_wp2_with fail
  refine (split_blk cb widthsM _ _ 7 _ _ _ _ (Blk.fresh _ _ _) rfl HSP.out rfl rfl HC2.out (by simp)).mono ?_
  rintro x w4 ⟨A', c', rfl, hr, hb⟩
  have HB3 := Lib.hid ((HB2.out.alloc HB2.out.size _).trans (hb.mono (by have := HB2.out.size; simp; omega)))
  have HK3 := Lib.hid ((HK2.out.alloc _).below hb (HK2.out.alloc _).lt)
  have HH3 := Lib.hid ((HH2.out.alloc _).below hb (HH2.out.alloc _).lt)
  obtain ⟨ad, rfl, _, hcell⟩ := hr (by simp [nums])
  have e0 := hcell 0 _ rfl
  have e1 := hcell 1 _ rfl
  have e2 := hcell 2 _ rfl
  have e3 := hcell 3 _ rfl
  have e4 := hcell 4 _ rfl
  have e5 := hcell 5 _ rfl
  have e6 := hcell 6 _ rfl
  simp [Addr.add] at e0 e1 e2 e3 e4 e5 e6
  clear hb hr hcell
  obtain ⟨c0, c1, c2, c3, c4, zz0, zz1, zz2, zz3, zz4⟩ := Rw5.row HK3.out
  obtain ⟨d0, d1, d2, d3, d4, _⟩ := Rw5.row HH3.out
  go_wp2_with fail
  refine (noughts_at tail w4 HZ.out HT.out).mono ?_
  rintro x w5 ⟨rfl, rfl⟩
  go_wp2_with fail
  go_region_held3 (fun w' => w'.cell? ad = some (.int .u64 (q : Int)) ∧ w'.cell? ⟨ad.block, ad.off + 2, none⟩ = some (.int .u64 (x2 : Int)) ∧ w'.cell? ⟨ad.block, ad.off + 3, none⟩ = some (.int .u64 (x3 : Int)) ∧ w'.cell? ⟨ad.block, ad.off + 4, none⟩ = some (.int .u64 (x4 : Int)) ∧ w'.cell? ⟨ad.block, ad.off + 6, none⟩ = some (.int .u64 (n : Int))) (first | exact ⟨e0, e2, e3, e4, e6⟩ | go_keep)
    (first | (go_at_call 35; refine (bv_true _).mono ?_; rintro e w' ⟨rfl, rfl⟩))
  all_goals
    have HX := Lib.hid (Blk.fresh w4 26 (msC q b2 b3 b4 n)).drew
    have HK4 := Lib.hid (HK3.out.alloc (.cells (msC q b2 b3 b4 n) 26)).drew
    have HB4 := Lib.hid (HB3.out.alloc HB3.out.size (.cells (msC q b2 b3 b4 n) 26)).drew
    clear c0 c1 c2 c3 c4 zz0 zz1 zz2 zz3 zz4 e0 e1 e2 e3 e4 e5 e6 d0 d1 d2 d3 d4 hb2 hb3 hb4 wq
    generalize (w4.alloc (.cells (msC q b2 b3 b4 n) 26)).drew = w5 at HX HK4 HB4 ⊢
    obtain ⟨i0, i1, i2, i3, i4, _⟩ := Rw5.row HX.out
    go_wp2_with fail
    refine (wrong_at q b2 b3 b4 n _ HW.out HN.out).mono ?_
    rintro x w6 ⟨rfl, hb6⟩
    have HX6 := Lib.hid (HX.out.below hb6 HX.out.lt)
    have HK6 := Lib.hid (HK4.out.below hb6 HK4.out.lt)
    have HB6 := Lib.hid (HB4.out.trans (hb6.mono HB4.out.size))
    clear hb6 i0 i1 i2 i3 i4
    obtain ⟨i0, i1, i2, i3, i4, _⟩ := Rw5.row HX6.out
    obtain ⟨c0, c1, c2, c3, c4, zz0, zz1, zz2, zz3, zz4⟩ := Rw5.row HK6.out
    go_wp2
    (try simp only [Exit.inBlock, Exit.then]); refine bodyPost_ret (results_row2 rfl _ _ w.heap.size 26 _ (0, 0) _ rfl (Rw5.blk_set HK6.out _ _ _ _ _) Try.underlying26 rfl info_msg) rfl ?_
    exact ⟨rfl, Rw5.below_set HB6.out (Nat.le_refl _) _ _ _ _ _⟩
set_option maxRecDepth 100000 in
set_option maxHeartbeats 4000000 in
theorem open_ok (s cb tail : ByteArray) (l v c f o : Nat) (cs : List UInt8) (lv q z1 x2 x3 x4 z2 n : Nat) (zb : Bool) (b2 b3 b4 : Bool) (r : Nat) (w : World) (hs : s.size ≤ maxLen) (ho : openO s.data.toList = (⟨l, v, c, f, o⟩, cs, 0)) (hcb : (⟨cs.toArray⟩ : ByteArray) = cb) (hi : isO ⟨l, v, c, f, o⟩ lv 1 40 32 = 0) (hc2 : cb.size ≤ maxLen)
    (hsp : splitR cb widthsM = ([q, z1, x2, x3, x4, z2, n], tail, 0)) (hz : zeros tail.data.toList = zb) (ht : tail.size ≤ maxLen) (hf : f = 0) (h1 : z1 = 0) (h2 : z2 = 0) (hzb : zb = true) (hb2 : ((x2 : Int) == 1) = b2) (hb3 : ((x3 : Int) == 1) = b3) (hb4 : ((x4 : Int) == 1) = b4) (hq : q < 16) (hn : n < 18446744073709551616) (hw : wrongM ⟨q, b2, b3, b4, n⟩ = r) (hr : r = 0) :
    Calls Try.prog 13 #[.string s, .int .u8 (lv : Int)] w fun x w' => x = .returned (.tuple #[msV q b2 b3 b4 n, .int .i64 ((0 : Nat) : Int)]) ∧ Below w.heap.size w w' := by
  have HO := Lib.hid ho; clear ho
  have HS := Lib.hid hs; clear hs
  have HCB := Lib.hid hcb; clear hcb
  have HI := Lib.hid hi; clear hi
  have HC2 := Lib.hid hc2; clear hc2
  have HSP := Lib.hid hsp; clear hsp
  have HZ := Lib.hid hz; clear hz
  have HT := Lib.hid ht; clear ht
  have q1 : ((f : Int) != 0) = false := neq_f (by omega)
  have q2 : ((z1 : Int) != 0) = false := neq_f (by omega)
  have q3 : ((z2 : Int) != 0) = false := neq_f (by omega)
  subst hzb
  have wq : IntKind.u8.wrap (q : Int) = (q : Int) := IntWalk.u8_in _ ⟨by omega, by omega⟩
  have HN := Lib.hid hn
  have HW := Lib.hid hw
  clear hf h1 h2 hn hw
  subst hr
  go_enter Try.func13, Try.ntmps13
  go_wp2_with fail
  refine (Oa.open_at s _ HO.out HS.out).mono ?_
  rintro x w1 ⟨rfl, hb1⟩
  have HK := Lib.hid ((Blk.fresh w 26 zeroMC).below hb1 (by simp))
  have HB := Lib.hid (((Below.refl w.heap.size w).alloc (Nat.le_refl _) (.cells zeroMC 26)).trans (hb1.mono (by simp)))
  clear hb1
  simp only [valH]
  rw [HCB.out]
  go_upto_if 22 with (fail)
  have H6 := Lib.hid (HB.out.alloc HB.out.size (.cells (hdC l v c f o) 65))
  have H7 := Lib.hid (HK.out.alloc (.cells (hdC l v c f o) 65))
  have H8 := Lib.hid (Blk.fresh w1 65 (hdC l v c f o))
  generalize w1.alloc (.cells (hdC l v c f o) 65) = w2 at H6 H7 H8 ⊢
  obtain ⟨c0, c1, c2, c3, c4, z0, z1', z2', z3, z4⟩ := Rw5.row H7.out
  obtain ⟨d0, d1, d2, d3, d4, _⟩ := Rw5.row H8.out
  go_wp2_with fail
  refine (is_any l v c f o lv 1 40 32 _).mono ?_
  rintro x w3 ⟨rfl, hbb⟩
  have HB2 := Lib.hid (H6.out.trans (hbb.mono H6.out.size))
  have HK2 := Lib.hid (H7.out.below hbb H7.out.lt)
  have HH2 := Lib.hid (H8.out.below hbb H8.out.lt)
  rw [HI.out]
  clear hbb c0 c1 c2 c3 c4 z0 z1' z2' z3 z4 d0 d1 d2 d3 d4
  go_wp2_with fail
  refine (split_blk cb widthsM _ _ 7 _ _ _ _ (Blk.fresh _ _ _) rfl HSP.out rfl rfl HC2.out (by simp)).mono ?_
  rintro x w4 ⟨A', c', rfl, hr, hb⟩
  have HB3 := Lib.hid ((HB2.out.alloc HB2.out.size _).trans (hb.mono (by have := HB2.out.size; simp; omega)))
  have HK3 := Lib.hid ((HK2.out.alloc _).below hb (HK2.out.alloc _).lt)
  have HH3 := Lib.hid ((HH2.out.alloc _).below hb (HH2.out.alloc _).lt)
  obtain ⟨ad, rfl, _, hcell⟩ := hr (by simp [nums])
  have e0 := hcell 0 _ rfl
  have e1 := hcell 1 _ rfl
  have e2 := hcell 2 _ rfl
  have e3 := hcell 3 _ rfl
  have e4 := hcell 4 _ rfl
  have e5 := hcell 5 _ rfl
  have e6 := hcell 6 _ rfl
  simp [Addr.add] at e0 e1 e2 e3 e4 e5 e6
  clear hb hr hcell
  obtain ⟨c0, c1, c2, c3, c4, zz0, zz1, zz2, zz3, zz4⟩ := Rw5.row HK3.out
  obtain ⟨d0, d1, d2, d3, d4, _⟩ := Rw5.row HH3.out
  go_wp2_with fail
  refine (noughts_at tail w4 HZ.out HT.out).mono ?_
  rintro x w5 ⟨rfl, rfl⟩
  go_wp2_with fail
  go_region_held3 (fun w' => w'.cell? ad = some (.int .u64 (q : Int)) ∧ w'.cell? ⟨ad.block, ad.off + 2, none⟩ = some (.int .u64 (x2 : Int)) ∧ w'.cell? ⟨ad.block, ad.off + 3, none⟩ = some (.int .u64 (x3 : Int)) ∧ w'.cell? ⟨ad.block, ad.off + 4, none⟩ = some (.int .u64 (x4 : Int)) ∧ w'.cell? ⟨ad.block, ad.off + 6, none⟩ = some (.int .u64 (n : Int))) (first | exact ⟨e0, e2, e3, e4, e6⟩ | go_keep)
    (first | (go_at_call 35; refine (bv_true _).mono ?_; rintro e w' ⟨rfl, rfl⟩))
  all_goals
    have HX := Lib.hid (Blk.fresh w4 26 (msC q b2 b3 b4 n)).drew
    have HK4 := Lib.hid (HK3.out.alloc (.cells (msC q b2 b3 b4 n) 26)).drew
    have HB4 := Lib.hid (HB3.out.alloc HB3.out.size (.cells (msC q b2 b3 b4 n) 26)).drew
    clear c0 c1 c2 c3 c4 zz0 zz1 zz2 zz3 zz4 e0 e1 e2 e3 e4 e5 e6 d0 d1 d2 d3 d4 hb2 hb3 hb4 wq
    generalize (w4.alloc (.cells (msC q b2 b3 b4 n) 26)).drew = w5 at HX HK4 HB4 ⊢
    obtain ⟨i0, i1, i2, i3, i4, _⟩ := Rw5.row HX.out
    go_wp2_with fail
    refine (wrong_at q b2 b3 b4 n _ HW.out HN.out).mono ?_
    rintro x w6 ⟨rfl, hb6⟩
    have HX6 := Lib.hid (HX.out.below hb6 HX.out.lt)
    have HK6 := Lib.hid (HK4.out.below hb6 HK4.out.lt)
    have HB6 := Lib.hid (HB4.out.trans (hb6.mono HB4.out.size))
    clear hb6 i0 i1 i2 i3 i4
    obtain ⟨i0, i1, i2, i3, i4, _⟩ := Rw5.row HX6.out
    obtain ⟨c0, c1, c2, c3, c4, zz0, zz1, zz2, zz3, zz4⟩ := Rw5.row HK6.out
    go_wp2
    (try simp only [Exit.inBlock, Exit.then]); refine bodyPost_ret (results_row2 rfl _ _ w.heap.size 26 _ (0, 0) _ rfl (Rw5.blk_set HK6.out _ _ _ _ _) Try.underlying26 rfl info_msg) rfl ?_
    exact ⟨rfl, Rw5.below_set HB6.out (Nat.le_refl _) _ _ _ _ _⟩
theorem msgOf_bits (l : List UInt8) : (((byteAt l 1 / 128 : Nat) : Int) == 1) = decide (128 ≤ byteAt l 1) ∧ (((byteAt l 1 / 64 % 2 : Nat) : Int) == 1) = (byteAt l 1 / 64 % 2 == 1) ∧ (((byteAt l 1 / 32 % 2 : Nat) : Int) == 1) = (byteAt l 1 / 32 % 2 == 1) := by
  have h := byte_lt l 1
  refine ⟨?_, ?_, ?_⟩
  · rw [Bool.eq_iff_iff]; simp; omega
  · rw [Bool.eq_iff_iff]; simp; omega
  · rw [Bool.eq_iff_iff]; simp; omega
theorem zeros_iff (l : List UInt8) (n : Nat) (h : l.length = n) : zeros l = true ↔ l = noughts n := by
  unfold zeros noughts
  rw [List.all_eq_true, List.eq_replicate_iff]
  simp [h]
abbrev valM (m : Ms) : Value := msV m.req m.block m.keep m.east m.node
theorem openO_size {s : List UInt8} {h : Hd} {c : List UInt8} (ho : openO s = (h, c, 0)) : c.length = h.offset := by
  unfold openO at ho
  split at ho
  · simp at ho
  rename_i h1
  split at ho
  · simp at ho
  simp only [Prod.mk.injEq] at ho
  obtain ⟨rfl, rfl, _⟩ := ho
  rw [List.length_take, List.length_drop]
  have : (headOf s).offset = byteAt s 3 := rfl
  omega
theorem open_at {m : Ms} {r : Nat} (s : ByteArray) (lv : Nat) (w : World) (h : openM s.data.toList lv = (m, r)) (hs : s.size ≤ maxLen) :
    Calls Try.prog 13 #[.string s, .int .u8 (lv : Int)] w fun x w' => x = .returned (.tuple #[valM m, .int .i64 (r : Int)]) ∧ Below w.heap.size w w' := by
  obtain ⟨⟨l, v, c, f, o⟩, cs, k, ho⟩ : ∃ hd cs k, openO s.data.toList = (hd, cs, k) := ⟨_, _, _, rfl⟩
  unfold openM at h
  rw [ho] at h
  simp only at h
  by_cases hk : k ≠ 0
  · rw [if_pos hk] at h
    simp only [Prod.mk.injEq] at h
    obtain ⟨rfl, rfl⟩ := h
    exact open_err s _ l v c f o cs k lv w hs ho rfl hk
  obtain rfl : k = 0 := by simpa using hk
  rw [if_neg hk] at h
  unfold openA at h
  by_cases hi : isO ⟨l, v, c, f, o⟩ lv 1 40 32 ≠ 0
  · rw [if_pos hi] at h
    simp only [Prod.mk.injEq] at h
    obtain ⟨rfl, rfl⟩ := h
    exact open_is s _ l v c f o cs 0 lv _ w hs ho rfl rfl rfl hi
  rw [if_neg hi] at h
  have hi0 : isO ⟨l, v, c, f, o⟩ lv 1 40 32 = 0 := by simpa using hi
  have ho32 := (isO_zero hi0).2.2.2
  simp only at ho32
  have hcl := openO_size ho
  simp only at hcl
  have hsz : (⟨cs.toArray⟩ : ByteArray).size = 32 := by rw [size_mk, hcl, ho32]
  have hsp := split_msg ⟨cs.toArray⟩ hsz
  have hm : (⟨cs.toArray⟩ : ByteArray).size ≤ maxLen := by rw [hsz]; unfold maxLen; omega
  generalize htl : (⟨cs.toArray⟩ : ByteArray).extract 8 (⟨cs.toArray⟩ : ByteArray).size = tail at hsp
  have htd : tail.data.toList = cs.drop 8 := by rw [← htl, extract_list]
  have htm : tail.size ≤ maxLen := by rw [← size_list, htd, List.length_drop, hcl, ho32]; unfold maxLen; omega
  have hzi := zeros_iff (cs.drop 8) 24 (by rw [List.length_drop, hcl, ho32])
  obtain ⟨zb, hz⟩ : ∃ zb, zeros tail.data.toList = zb := ⟨_, rfl⟩
  rw [htd] at hz
  have hz' : zeros tail.data.toList = zb := by rw [htd]; exact hz
  by_cases hst : stray ⟨l, v, c, f, o⟩ cs
  · rw [if_pos hst] at h
    simp only [Prod.mk.injEq] at h
    obtain ⟨rfl, rfl⟩ := h
    by_cases hf : f ≠ 0
    · exact open_strayA s _ tail l v c f o cs lv _ _ _ _ _ _ _ zb w hs ho rfl hi0 hm hsp hz' htm hf
    by_cases h1 : byteAt cs 0 % 16 ≠ 0
    · exact open_strayB s _ tail l v c f o cs lv _ _ _ _ _ _ _ zb w hs ho rfl hi0 hm hsp hz' htm (by simpa using hf) h1
    by_cases h2 : byteAt cs 1 % 32 ≠ 0
    · exact open_strayC s _ tail l v c f o cs lv _ _ _ _ _ _ _ zb w hs ho rfl hi0 hm hsp hz' htm (by simpa using hf) (by simpa using h1) h2
    refine open_strayD s _ tail l v c f o cs lv _ _ _ _ _ _ _ zb w hs ho rfl hi0 hm hsp hz' htm (by simpa using hf) (by simpa using h1) (by simpa using h2) ?_
    unfold stray at hst
    simp only at hst
    have h8 : cs.drop 8 ≠ noughts 24 := by
      rcases hst with h | h | h | h
      · exact absurd h hf
      · exact absurd h h1
      · exact absurd h h2
      · exact h
    cases zb with
    | false => rfl
    | true => exact absurd (hzi.1 hz) h8
  rw [if_neg hst] at h
  unfold stray at hst
  simp only at hst
  have hf : f = 0 := by
    by_cases e : f = 0
    · exact e
    · exact absurd (.inl e) hst
  have h1 : byteAt cs 0 % 16 = 0 := by
    by_cases e : byteAt cs 0 % 16 = 0
    · exact e
    · exact absurd (.inr (.inl e)) hst
  have h2 : byteAt cs 1 % 32 = 0 := by
    by_cases e : byteAt cs 1 % 32 = 0
    · exact e
    · exact absurd (.inr (.inr (.inl e))) hst
  have h8 : zb = true := by
    by_cases e : cs.drop 8 = noughts 24
    · rw [← hz]; exact hzi.2 e
    · exact absurd (.inr (.inr (.inr e))) hst
  obtain ⟨m2, m3, m4⟩ := msgOf_bits cs
  have hq : byteAt cs 0 / 16 < 16 := by have := byte_lt cs 0; omega
  have hn : getN cs 2 6 < 18446744073709551616 := by have := getN_lt cs 2 6; simp at this; omega
  by_cases hw : wrongM (msgOf cs) ≠ 0
  · rw [if_pos hw] at h
    simp only [Prod.mk.injEq] at h
    obtain ⟨rfl, rfl⟩ := h
    exact open_wrongW s _ tail l v c f o cs lv _ _ _ _ _ _ _ zb _ _ _ _ w hs ho rfl hi0 hm hsp hz' htm hf h1 h2 h8 m2 m3 m4 hq hn rfl hw
  rw [if_neg hw] at h
  simp only [Prod.mk.injEq] at h
  obtain ⟨rfl, rfl⟩ := h
  exact open_ok s _ tail l v c f o cs lv _ _ _ _ _ _ _ zb _ _ _ _ w hs ho rfl hi0 hm hsp hz' htm hf h1 h2 h8 m2 m3 m4 hq hn rfl (by simpa using hw)
end Go.Proofs.Ytnapbmdkaldncaa.Rp
