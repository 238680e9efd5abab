/-
  ccm's Open answers openC. Contract of the document's Open of a line's message.
  ccm's Open answers openC. Contract of the document's Open of a line's message.
-/
import Derived.Test.YtlbnigdindpnfaaCcmC
import Derived.Test.YtlbnigdindpnfaaRapC
namespace Go.Proofs.Ytlbnigdindpnfaa.Cc
open Go.RowKit Go.Proofs.Ytlbnigdindpnfaa.Bt Go.Proofs.Ytlbnigdindpnfaa.Mm Go.Proofs.Ytlbnigdindpnfaa.Fl Go.Proofs.Ytlbnigdindpnfaa.Lw Go.Proofs.Ytlbnigdindpnfaa.Hx Go.Proofs.Ytlbnigdindpnfaa.Mc Go.Proofs.Ytlbnigdindpnfaa.Tg Go.Proofs.Ytlbnigdindpnfaa.Oa Go.Proofs.Ytlbnigdindpnfaa.Rp
set_option linter.unusedSimpArgs false
set_option linter.unusedVariables false

abbrev valC (m : Cm) : Value := cmV m.lost m.period m.count m.fin ⟨m.group.toArray⟩
theorem flag_bit {f : Nat} (h : f < 256) : (((f / 128 : Nat) : Int) == 1) = decide (128 ≤ f) := by
  rw [Bool.eq_iff_iff]; simp; omega
theorem byteAt_one {f : Nat} (h : f < 256) : byteAt [UInt8.ofNat f] 0 = f := ofNat_toNat _ h
theorem name_full (l : List UInt8) (h : 48 ≤ l.length) : nameC l = l.take 48 := by
  unfold nameC noughts
  rw [show 48 - l.length = 0 by omega]
  simp
/-- what is known of a message that was read -/
theorem read_facts {s : List UInt8} {l v c f o lv : Nat} {cs : List UInt8} (ho : openO s = (⟨l, v, c, f, o⟩, cs, 0)) (hi : isO ⟨l, v, c, f, o⟩ lv 0 1 70 = 0) : lv ≤ 7 ∧ f < 256 ∧ cs.length = 70 := by
  have h1 := isO_zero hi
  have h2 := openO_size ho
  have h3 := openO_small (s := s) (by rw [ho])
  rw [ho] at h3
  have e1 : l = byteAt s 0 / 32 := congrArg Hd.level h3
  have e2 : f = byteAt s 2 := congrArg Hd.flags h3
  have b0 := byte_lt s 0
  have b2 := byte_lt s 2
  simp only at h1 h2
  omega
theorem wrong_read {lv f e : Nat} {b : Bool} {c : Nat} {g : List UInt8} (hl : lv ≤ 7) (he : e < 8192) (hg : g.length = 48) : wrongC ⟨b, f % 8, c, e % 8192, g⟩ lv = if f % 8 = 0 ∨ e = 0 then 4 else 0 := by
  by_cases h : f % 8 = 0 ∨ e = 0
  · rw [if_pos h]
    exact wrongC_bad (by omega)
  · rw [if_neg h]
    unfold wrongC
    rw [if_neg (show ¬ badC _ _ by unfold badC; simp only; omega), if_neg (by simpa using hg)]
theorem open_at {m : Cm} {r : Nat} (s : ByteArray) (lv : Nat) (w : World) (h : openC s.data.toList lv = (m, r)) (hs : s.size ≤ maxLen) :
    Calls Try.prog 14 #[.string s, .int .u8 (lv : Int)] w fun x w' => x = .returned (.tuple #[valC m, .int .i64 (r : Int)]) ∧ Below w.heap.size w w' := by
  obtain ⟨⟨l, v, c, f, o⟩, cs, k, ho⟩ : ∃ hd cs k, openO s.data.toList = (hd, cs, k) := ⟨_, _, _, rfl⟩
  unfold openC at h
  rw [ho] at h
  simp only at h
  by_cases hk : k ≠ 0
  · rw [if_pos hk] at h
    simp only [Prod.mk.injEq] at h
    obtain ⟨rfl, rfl⟩ := h
    exact open_err s _ l v c f o cs k lv w hs ho rfl hk
  obtain rfl : k = 0 := by simpa using hk
  rw [if_neg hk] at h
  unfold openA at h
  by_cases hi : isO ⟨l, v, c, f, o⟩ lv 0 1 70 ≠ 0
  · rw [if_pos hi] at h
    simp only [Prod.mk.injEq] at h
    obtain ⟨rfl, rfl⟩ := h
    exact open_is s _ l v c f o cs 0 lv _ w hs ho rfl rfl rfl hi
  rw [if_neg hi] at h
  have hi0 : isO ⟨l, v, c, f, o⟩ lv 0 1 70 = 0 := by simpa using hi
  obtain ⟨hlv, hf, hcl⟩ := read_facts ho hi0
  have hsz : (⟨cs.toArray⟩ : ByteArray).size = 70 := by rw [size_mk, hcl]
  have hm : (⟨cs.toArray⟩ : ByteArray).size ≤ maxLen := by rw [hsz]; unfold maxLen; omega
  have hsc := split_cont ⟨cs.toArray⟩ hsz
  have hsf := split_flags ⟨[UInt8.ofNat f].toArray⟩ rfl
  simp only [byteAt_one hf] at hsf hsc
  generalize hre : (⟨cs.toArray⟩ : ByteArray).extract 6 (⟨cs.toArray⟩ : ByteArray).size = rest at hsc
  have hrd : rest.data.toList = cs.drop 6 := by rw [← hre, extract_list]
  have hrs : rest.size = 64 := by rw [← size_list, hrd, List.length_drop, hcl]
  generalize htl : rest.extract 48 rest.size = tl
  have htd : tl.data.toList = cs.drop 54 := by rw [← htl, extract_list, hrd, List.drop_drop]
  have htm : tl.size ≤ maxLen := by rw [← size_list, htd, List.length_drop, hcl]; unfold maxLen; omega
  have hzi := zeros_iff (cs.drop 54) 16 (by rw [List.length_drop, hcl])
  obtain ⟨zb, hz⟩ : ∃ zb, zeros tl.data.toList = zb := ⟨_, rfl⟩
  have hz' := hz
  rw [htd] at hz'
  have hnm : nameC rest.data.toList = (cs.drop 6).take 48 := by rw [hrd]; exact name_full _ (by rw [List.length_drop, hcl]; omega)
  have hc4 : getN cs 0 4 < 4294967296 := by have := getN_lt cs 0 4; simpa using this
  have hfs : (⟨[UInt8.ofNat f].toArray⟩ : ByteArray).size ≤ maxLen := by rw [size_mk]; unfold maxLen; simp
  by_cases hst : stray ⟨l, v, c, f, o⟩ cs
  · rw [if_pos hst] at h
    simp only [Prod.mk.injEq] at h
    obtain ⟨rfl, rfl⟩ := h
    by_cases h1 : f / 8 % 16 ≠ 0
    · exact open_strayA s _ _ _ rest tl l v c f o cs lv _ _ _ _ _ _ zb w hs ho rfl hi0 hm rfl hfs hf hsf hsc (by omega) (by omega) htl hz htm h1
    by_cases h2 : getN cs 4 2 / 8192 ≠ 0
    · exact open_strayB s _ _ _ rest tl l v c f o cs lv _ _ _ _ _ _ zb w hs ho rfl hi0 hm rfl hfs hf hsf hsc (by omega) (by omega) htl hz htm (by simpa using h1) h2
    refine open_strayC s _ _ _ rest tl l v c f o cs lv _ _ _ _ _ _ zb w hs ho rfl hi0 hm rfl hfs hf hsf hsc (by omega) (by omega) htl hz htm (by simpa using h1) (by simpa using h2) ?_
    unfold stray at hst
    simp only at hst
    have h8 : cs.drop 54 ≠ noughts 16 := by
      rcases hst with h | h | h
      · omega
      · exact absurd h h1
      · exact h
    cases zb with
    | false => rfl
    | true => exact absurd (hzi.1 hz') h8
  rw [if_neg hst] at h
  unfold stray at hst
  simp only at hst
  have h1 : f / 8 % 16 = 0 := by omega
  have h2 : getN cs 4 2 < 8192 := by omega
  have h8 : zb = true := by
    by_cases e : cs.drop 54 = noughts 16
    · rw [← hz']; exact hzi.2 e
    · exact absurd (.inr (.inr e)) hst
  have hw := wrong_read (b := decide (128 ≤ f)) (c := getN cs 0 4) (f := f) hlv h2 (show ((cs.drop 6).take 48).length = 48 by rw [List.length_take, List.length_drop, hcl]; rfl)
  have h22 : getN cs 4 2 / 8192 = 0 := by omega
  by_cases hp : f % 8 = 0 ∨ getN cs 4 2 = 0
  · rw [if_pos hp] at h hw
    simp only [Prod.mk.injEq] at h
    obtain ⟨rfl, rfl⟩ := h
    exact open_wrongW s _ _ _ rest tl l v c f o cs lv _ _ _ _ _ _ zb _ 4 ⟨((cs.drop 6).take 48).toArray⟩ w hs ho rfl hi0 hm rfl hfs hf hsf hsc (by omega) (by omega) htl hz htm h1 h22 h8 (flag_bit hf) (by omega) hc4 (by omega) (by rw [hnm]) hw (by omega)
  rw [if_neg hp] at h hw
  simp only [Prod.mk.injEq] at h
  obtain ⟨rfl, rfl⟩ := h
  have hk := open_ok s _ _ _ rest tl l v c f o cs lv _ _ _ _ _ _ zb _ 0 ⟨((cs.drop 6).take 48).toArray⟩ w hs ho rfl hi0 hm rfl hfs hf hsf hsc (by omega) (by omega) htl hz htm h1 h22 h8 (flag_bit hf) (by omega) hc4 (by omega) (by rw [hnm]) hw rfl
  rw [Nat.mod_eq_of_lt h2] at hk
  exact hk

theorem get_at {v : Nat} (s : ByteArray) (a n : Nat) (w : World) (h : getN s.data.toList a n = v) (hs : s.size ≤ maxLen) (hn : 1 ≤ n) (hn8 : n ≤ 8) (h2 : a + n ≤ s.size) :
    Calls Try.prog 33 #[.string s, .int .i64 (a : Int), .int .i64 (n : Int)] w fun e w' => e = .returned (.int .u64 (v : Int)) ∧ Below w.heap.size w w' := by
  rw [← h]; exact get_any s a n w hs hn hn8 h2
set_option maxRecDepth 100000 in
set_option maxHeartbeats 2000000 in
theorem ropen_err (s cb : ByteArray) (l v c f o : Nat) (cs : List UInt8) (k lv : Nat) (w : World) (ho : openO s.data.toList = (⟨l, v, c, f, o⟩, cs, k)) (hcb : (⟨cs.toArray⟩ : ByteArray) = cb) (hk : k ≠ 0) :
    Calls Try.prog 20 #[.string s, .int .u8 (lv : Int)] w fun x w' => x = .returned (.tuple #[zeroCV, .int .i64 (k : Int)]) ∧ Below w.heap.size w w' := by
  have HO := Lib.hid ho; clear ho
  have HCB := Lib.hid hcb; clear hcb
  have q1 : ((k : Int) != 0) = true := neq_t (by omega)
  clear hk
  go_enter Try.func20, Try.ntmps20
  go_wp2_with fail
  refine (Oa.ropen_at s _ HO.out).mono ?_
  rintro x w1 ⟨rfl, hb1⟩
  have HK := Lib.hid ((Blk.fresh w 57 zeroCC).below hb1 (by simp))
  have HNE := Lib.hid (show w.heap.size < w1.heap.size by have := hb1.size; simp at this; omega)
  have HB := Lib.hid (((Below.refl w.heap.size w).alloc (Nat.le_refl _) (.cells zeroCC 57)).trans (hb1.mono (by simp)))
  clear hb1
  simp only [valH]
  rw [HCB.out]
  go_upto_if 18 with (fail)
  have H6 := Lib.hid (HB.out.alloc HB.out.size (.cells (hdC l v c f o) 74))
  have H7 := Lib.hid (HK.out.alloc (.cells (hdC l v c f o) 74))
  have H8 := Lib.hid (Blk.fresh w1 74 (hdC l v c f o))
  generalize w1.alloc (.cells (hdC l v c f o) 74) = w2 at H6 H7 H8 ⊢
  obtain ⟨c0, c1, c2, c3, c4, y0, y1, y2, y3, y4⟩ := Rw5.row H7.out
  obtain ⟨d0, d1, d2, d3, d4, _⟩ := Rw5.row H8.out
  go_wp2
  (try simp only [Exit.inBlock, Exit.then]); refine bodyPost_ret (results_row2 rfl _ _ w.heap.size 57 _ (0, 0) _ rfl (Rw5.blk_set H7.out _ _ _ _ _) Try.underlying57 rfl info_rcmsg) rfl ?_
  exact ⟨rfl, Rw5.below_set H6.out (Nat.le_refl _) _ _ _ _ _⟩
set_option maxRecDepth 100000 in
set_option maxHeartbeats 2000000 in
theorem ropen_is (s cb : ByteArray) (l v c f o : Nat) (cs : List UInt8) (k lv r : Nat) (w : World) (ho : openO s.data.toList = (⟨l, v, c, f, o⟩, cs, k)) (hcb : (⟨cs.toArray⟩ : ByteArray) = cb) (hk : k = 0) (hi : isO ⟨l, v, c, f, o⟩ lv 0 1 70 = r) (hr : r ≠ 0) :
    Calls Try.prog 20 #[.string s, .int .u8 (lv : Int)] w fun x w' => x = .returned (.tuple #[zeroCV, .int .i64 (r : Int)]) ∧ Below w.heap.size w w' := by
  have HO := Lib.hid ho; clear ho
  have HCB := Lib.hid hcb; clear hcb
  obtain rfl := hk
  have q2 : ((r : Int) != 0) = true := neq_t (by omega)
  have HI := Lib.hid hi
  clear hr hi
  go_enter Try.func20, Try.ntmps20
  go_wp2_with fail
  refine (Oa.ropen_at s _ HO.out).mono ?_
  rintro x w1 ⟨rfl, hb1⟩
  have HK := Lib.hid ((Blk.fresh w 57 zeroCC).below hb1 (by simp))
  have HNE := Lib.hid (show w.heap.size < w1.heap.size by have := hb1.size; simp at this; omega)
  have HB := Lib.hid (((Below.refl w.heap.size w).alloc (Nat.le_refl _) (.cells zeroCC 57)).trans (hb1.mono (by simp)))
  clear hb1
  simp only [valH]
  rw [HCB.out]
  go_upto_if 18 with (fail)
  have H6 := Lib.hid (HB.out.alloc HB.out.size (.cells (hdC l v c f o) 74))
  have H7 := Lib.hid (HK.out.alloc (.cells (hdC l v c f o) 74))
  have H8 := Lib.hid (Blk.fresh w1 74 (hdC l v c f o))
  generalize w1.alloc (.cells (hdC l v c f o) 74) = w2 at H6 H7 H8 ⊢
  obtain ⟨c0, c1, c2, c3, c4, y0, y1, y2, y3, y4⟩ := Rw5.row H7.out
  obtain ⟨d0, d1, d2, d3, d4, _⟩ := Rw5.row H8.out
  go_wp2_with fail
  refine (ris_any l v c f o lv 0 1 70 _).mono ?_
  rintro x w3 ⟨rfl, hbb⟩
  have HB2 := Lib.hid (H6.out.trans (hbb.mono H6.out.size))
  have HK2 := Lib.hid (H7.out.below hbb H7.out.lt)
  have HH2 := Lib.hid (H8.out.below hbb H8.out.lt)
  rw [HI.out]
  clear hbb c0 c1 c2 c3 c4 y0 y1 y2 y3 y4 d0 d1 d2 d3 d4
  obtain ⟨c0, c1, c2, c3, c4, y0, y1, y2, y3, y4⟩ := Rw5.row HK2.out
  go_wp2
  (try simp only [Exit.inBlock, Exit.then]); refine bodyPost_ret (results_row2 rfl _ _ w.heap.size 57 _ (0, 0) _ rfl (Rw5.blk_set HK2.out _ _ _ _ _) Try.underlying57 rfl info_rcmsg) rfl ?_
  exact ⟨rfl, Rw5.below_set HB2.out (Nat.le_refl _) _ _ _ _ _⟩
set_option maxRecDepth 100000 in
set_option maxHeartbeats 4000000 in
theorem ropen_strayA (s cb tl sZ nm : ByteArray) (l v c f o : Nat) (cs : List UInt8) (lv e z1 x2 n4 : Nat) (zb b2 : Bool) (w : World) (ho : openO s.data.toList = (⟨l, v, c, f, o⟩, cs, 0)) (hcb : (⟨cs.toArray⟩ : ByteArray) = cb) (hi : isO ⟨l, v, c, f, o⟩ lv 0 1 70 = 0) (hc1 : 70 ≤ cb.size) (hc2 : cb.size ≤ 70) (hf : f < 256)
    (he : getN cb.data.toList 4 2 = e) (hn4 : getN cb.data.toList 0 4 = n4) (hz1 : f / 8 % 16 = z1) (hx2 : f % 8 = x2) (hb2 : decide ((128 : Int) ≤ (f : Int)) = b2) (ht : cb.extract 54 cb.size = tl) (hnm : cb.extract 6 54 = nm) (hsz : (⟨(noughts 16).toArray⟩ : ByteArray) = sZ) (hz : (tl.toList == sZ.toList) = zb) (hz' : (tl.toList != sZ.toList) = !zb) (he16 : e < 65536) (hn32 : n4 < 4294967296) (h1 : 8192 ≤ e) :
    Calls Try.prog 20 #[.string s, .int .u8 (lv : Int)] w fun x w' => x = .returned (.tuple #[zeroCV, .int .i64 ((3 : Nat) : Int)]) ∧ Below w.heap.size w w' := by
  have HO := Lib.hid ho; clear ho
  have HCB := Lib.hid hcb; clear hcb
  have HI := Lib.hid hi; clear hi
  have HE := Lib.hid he; clear he
  have HN4 := Lib.hid hn4; clear hn4
  have HSZ := Lib.hid hsz; clear hsz
  have HCM := Lib.hid (show cb.size ≤ maxLen by unfold maxLen; omega)
  have HC6 := Lib.hid (show 4 + 2 ≤ cb.size by omega)
  have HC4 := Lib.hid (show 0 + 4 ≤ cb.size by omega)
  have m1 : (54 : Int) ≤ (cb.size : Int) := by omega
  have m2 : 54 ≤ cb.size := by omega
  obtain ⟨e8, t1, le8⟩ : ∃ e8 : Nat, (f : Int).tdiv 8 = (e8 : Int) ∧ e8 < 256 := ⟨f / 8, by rw [Int.tdiv_eq_ediv_of_nonneg (by omega)]; omega, by omega⟩
  have t2 : (e8 : Int).tmod 16 = (z1 : Int) := by rw [← t1, Int.tdiv_eq_ediv_of_nonneg (by omega), Int.tmod_eq_emod_of_nonneg (by omega)]; omega
  have t3 : (f : Int).tmod 8 = (x2 : Int) := by rw [Int.tmod_eq_emod_of_nonneg (by omega)]; omega
  have k1 : IntKind.u8.wrap (e8 : Int) = (e8 : Int) := IntWalk.u8_in _ ⟨by omega, by omega⟩
  have k2 : IntKind.u32.wrap (n4 : Int) = (n4 : Int) := IntWalk.u32_in _ ⟨by omega, by omega⟩
  have k3 : IntKind.u16.wrap (e : Int) = (e : Int) := IntWalk.u16_in _ ⟨by omega, by omega⟩
  clear hz1 hx2
  have q1 : decide ((8192 : Int) ≤ (e : Int)) = true := by simp; omega
  clear h1
  go_enter Try.func20, Try.ntmps20
  go_wp2_with fail
  refine (Oa.ropen_at s _ HO.out).mono ?_
  rintro x w1 ⟨rfl, hb1⟩
  have HK := Lib.hid ((Blk.fresh w 57 zeroCC).below hb1 (by simp))
  have HNE := Lib.hid (show w.heap.size < w1.heap.size by have := hb1.size; simp at this; omega)
  have HB := Lib.hid (((Below.refl w.heap.size w).alloc (Nat.le_refl _) (.cells zeroCC 57)).trans (hb1.mono (by simp)))
  clear hb1
  simp only [valH]
  rw [HCB.out]
  go_upto_if 18 with (fail)
  have H6 := Lib.hid (HB.out.alloc HB.out.size (.cells (hdC l v c f o) 74))
  have H7 := Lib.hid (HK.out.alloc (.cells (hdC l v c f o) 74))
  have H8 := Lib.hid (Blk.fresh w1 74 (hdC l v c f o))
  generalize w1.alloc (.cells (hdC l v c f o) 74) = w2 at H6 H7 H8 ⊢
  obtain ⟨c0, c1, c2, c3, c4, y0, y1, y2, y3, y4⟩ := Rw5.row H7.out
  obtain ⟨d0, d1, d2, d3, d4, _⟩ := Rw5.row H8.out
  go_wp2_with fail
  refine (ris_any l v c f o lv 0 1 70 _).mono ?_
  rintro x w3 ⟨rfl, hbb⟩
  have HB2 := Lib.hid (H6.out.trans (hbb.mono H6.out.size))
  have HK2 := Lib.hid (H7.out.below hbb H7.out.lt)
  have HH2 := Lib.hid (H8.out.below hbb H8.out.lt)
  rw [HI.out]
  clear hbb c0 c1 c2 c3 c4 y0 y1 y2 y3 y4 d0 d1 d2 d3 d4
  obtain ⟨d0, d1, d2, d3, d4, _⟩ := Rw5.row HH2.out
  go_wp2_with fail
  refine (get_at cb 4 2 _ HE.out HCM.out (by omega) (by omega) HC6.out).mono ?_
  rintro x w4 ⟨rfl, hbb⟩
  have HB4 := Lib.hid (HB2.out.trans (hbb.mono HB2.out.size))
  have HK4 := Lib.hid (HK2.out.below hbb HK2.out.lt)
  have HH4 := Lib.hid (HH2.out.below hbb HH2.out.lt)
  clear hbb d0 d1 d2 d3 d4
  go_upto_region 8 with (fail)
  obtain ⟨wa, hwa⟩ : ∃ wa, wa = w4.drew := ⟨_, rfl⟩
  have HBR := Lib.hid (show Below w.heap.size w wa by rw [hwa]; exact HB4.out.drew)
  have KS := Lib.hid ((Rg.Keeps.one w.heap.size 57 zeroCC).blk w1.heap.size 74 (hdC l v c f o))
  refine wp_region_held_drew (S := fun wx => Blk wx w.heap.size 57 zeroCC ∧ Blk wx w1.heap.size 74 (hdC l v c f o)) (by kernel_rfl) ⟨HK4.out, HH4.out⟩ (fun hHeld => ?_)
  rw [← hwa] at hHeld ⊢
  have HWA := Lib.hid hwa
  clear hwa
  refine Rg.tk 0 (v := ?_) ?_ ?_
  rotate_left
  · (intro wx hSx; go_simp; all_goals with_reducible rfl)
  simp only [Act.put, Rg.e1, Rg.e2, Rg.e3, Rg.e4, Rg.e5, Rg.e6]
  refine Rg.tk 1 (v := ?_) ?_ ?_
  rotate_left
  · (intro wx hSx; go_simp; all_goals with_reducible rfl)
  simp only [Act.put, Rg.e1, Rg.e2, Rg.e3, Rg.e4, Rg.e5, Rg.e6]
  refine Rg.tk 2 (v := ?_) ?_ ?_
  rotate_left
  · (intro wx hSx; go_simp; all_goals with_reducible rfl)
  simp only [Act.put, Rg.e1, Rg.e2, Rg.e3, Rg.e4, Rg.e5, Rg.e6]
  refine Rg.sk 3 ?_
  simp only [Act.put, Rg.e1, Rg.e2, Rg.e3, Rg.e4, Rg.e5, Rg.e6]
  refine Rg.sk 4 ?_
  simp only [Act.put, Rg.e1, Rg.e2, Rg.e3, Rg.e4, Rg.e5, Rg.e6]
  refine Rg.sk 5 ?_
  simp only [Act.put, Rg.e1, Rg.e2, Rg.e3, Rg.e4, Rg.e5, Rg.e6]
  refine Rg.sk 6 ?_
  simp only [Act.put, Rg.e1, Rg.e2, Rg.e3, Rg.e4, Rg.e5, Rg.e6]
  refine Rg.sk 7 ?_
  simp only [Act.put, Rg.e1, Rg.e2, Rg.e3, Rg.e4, Rg.e5, Rg.e6]
  refine Rg.tk 8 (v := ?_) ?_ ?_
  rotate_left
  · (intro wx hSx; go_simp; all_goals with_reducible rfl)
  simp only [Act.put, Rg.e1, Rg.e2, Rg.e3, Rg.e4, Rg.e5, Rg.e6]
  refine Rg.tk 9 (v := ?_) ?_ ?_
  rotate_left
  · (intro wx hSx; go_simp; all_goals with_reducible rfl)
  simp only [Act.put, Rg.e1, Rg.e2, Rg.e3, Rg.e4, Rg.e5, Rg.e6]
  refine Rg.sk 10 ?_
  simp only [Act.put, Rg.e1, Rg.e2, Rg.e3, Rg.e4, Rg.e5, Rg.e6]
  refine Rg.sk 11 ?_
  simp only [Act.put, Rg.e1, Rg.e2, Rg.e3, Rg.e4, Rg.e5, Rg.e6]
  refine Rg.sk 12 ?_
  simp only [Act.put, Rg.e1, Rg.e2, Rg.e3, Rg.e4, Rg.e5, Rg.e6]
  refine Rg.sk 13 ?_
  simp only [Act.put, Rg.e1, Rg.e2, Rg.e3, Rg.e4, Rg.e5, Rg.e6]
  refine Rg.sk 14 ?_
  simp only [Act.put, Rg.e1, Rg.e2, Rg.e3, Rg.e4, Rg.e5, Rg.e6]
  refine Rg.tk 15 (v := ?_) ?_ ?_
  rotate_left
  · (intro wx hSx; go_simp; all_goals with_reducible rfl)
  simp only [Act.put, Rg.e1, Rg.e2, Rg.e3, Rg.e4, Rg.e5, Rg.e6]
  refine wpAnyH_done (by kernel_rfl) ?_ _
  have HKB := Lib.hid hHeld.1
  have HHB := Lib.hid hHeld.2
  clear hHeld
  obtain ⟨c0, c1, c2, c3, c4, y0, y1, y2, y3, y4⟩ := Rw5.row HKB.out
  obtain ⟨d0, d1, d2, d3, d4, _⟩ := Rw5.row HHB.out
  go_wp2
  (try simp only [Exit.inBlock, Exit.then]); refine bodyPost_ret (results_row2 rfl _ _ w.heap.size 57 _ (0, 0) _ rfl (Rw5.blk_set HKB.out _ _ _ _ _) Try.underlying57 rfl info_rcmsg) rfl ?_
  exact ⟨rfl, Rw5.below_set HBR.out (Nat.le_refl _) _ _ _ _ _⟩
set_option maxRecDepth 100000 in
set_option maxHeartbeats 4000000 in
theorem ropen_strayB (s cb tl sZ nm : ByteArray) (l v c f o : Nat) (cs : List UInt8) (lv e z1 x2 n4 : Nat) (zb b2 : Bool) (w : World) (ho : openO s.data.toList = (⟨l, v, c, f, o⟩, cs, 0)) (hcb : (⟨cs.toArray⟩ : ByteArray) = cb) (hi : isO ⟨l, v, c, f, o⟩ lv 0 1 70 = 0) (hc1 : 70 ≤ cb.size) (hc2 : cb.size ≤ 70) (hf : f < 256)
    (he : getN cb.data.toList 4 2 = e) (hn4 : getN cb.data.toList 0 4 = n4) (hz1 : f / 8 % 16 = z1) (hx2 : f % 8 = x2) (hb2 : decide ((128 : Int) ≤ (f : Int)) = b2) (ht : cb.extract 54 cb.size = tl) (hnm : cb.extract 6 54 = nm) (hsz : (⟨(noughts 16).toArray⟩ : ByteArray) = sZ) (hz : (tl.toList == sZ.toList) = zb) (hz' : (tl.toList != sZ.toList) = !zb) (he16 : e < 65536) (hn32 : n4 < 4294967296) (h1 : e < 8192) (h2 : z1 ≠ 0) :
    Calls Try.prog 20 #[.string s, .int .u8 (lv : Int)] w fun x w' => x = .returned (.tuple #[zeroCV, .int .i64 ((3 : Nat) : Int)]) ∧ Below w.heap.size w w' := by
  have HO := Lib.hid ho; clear ho
  have HCB := Lib.hid hcb; clear hcb
  have HI := Lib.hid hi; clear hi
  have HE := Lib.hid he; clear he
  have HN4 := Lib.hid hn4; clear hn4
  have HSZ := Lib.hid hsz; clear hsz
  have HCM := Lib.hid (show cb.size ≤ maxLen by unfold maxLen; omega)
  have HC6 := Lib.hid (show 4 + 2 ≤ cb.size by omega)
  have HC4 := Lib.hid (show 0 + 4 ≤ cb.size by omega)
  have m1 : (54 : Int) ≤ (cb.size : Int) := by omega
  have m2 : 54 ≤ cb.size := by omega
  obtain ⟨e8, t1, le8⟩ : ∃ e8 : Nat, (f : Int).tdiv 8 = (e8 : Int) ∧ e8 < 256 := ⟨f / 8, by rw [Int.tdiv_eq_ediv_of_nonneg (by omega)]; omega, by omega⟩
  have t2 : (e8 : Int).tmod 16 = (z1 : Int) := by rw [← t1, Int.tdiv_eq_ediv_of_nonneg (by omega), Int.tmod_eq_emod_of_nonneg (by omega)]; omega
  have t3 : (f : Int).tmod 8 = (x2 : Int) := by rw [Int.tmod_eq_emod_of_nonneg (by omega)]; omega
  have k1 : IntKind.u8.wrap (e8 : Int) = (e8 : Int) := IntWalk.u8_in _ ⟨by omega, by omega⟩
  have k2 : IntKind.u32.wrap (n4 : Int) = (n4 : Int) := IntWalk.u32_in _ ⟨by omega, by omega⟩
  have k3 : IntKind.u16.wrap (e : Int) = (e : Int) := IntWalk.u16_in _ ⟨by omega, by omega⟩
  clear hz1 hx2
  have q1 : decide ((8192 : Int) ≤ (e : Int)) = false := by simp; omega
  have q2 : ((z1 : Int) != 0) = true := neq_t (by omega)
  clear h1 h2
  go_enter Try.func20, Try.ntmps20
  go_wp2_with fail
  refine (Oa.ropen_at s _ HO.out).mono ?_
  rintro x w1 ⟨rfl, hb1⟩
  have HK := Lib.hid ((Blk.fresh w 57 zeroCC).below hb1 (by simp))
  have HNE := Lib.hid (show w.heap.size < w1.heap.size by have := hb1.size; simp at this; omega)
  have HB := Lib.hid (((Below.refl w.heap.size w).alloc (Nat.le_refl _) (.cells zeroCC 57)).trans (hb1.mono (by simp)))
  clear hb1
  simp only [valH]
  rw [HCB.out]
  go_upto_if 18 with (fail)
  have H6 := Lib.hid (HB.out.alloc HB.out.size (.cells (hdC l v c f o) 74))
  have H7 := Lib.hid (HK.out.alloc (.cells (hdC l v c f o) 74))
  have H8 := Lib.hid (Blk.fresh w1 74 (hdC l v c f o))
  generalize w1.alloc (.cells (hdC l v c f o) 74) = w2 at H6 H7 H8 ⊢
  obtain ⟨c0, c1, c2, c3, c4, y0, y1, y2, y3, y4⟩ := Rw5.row H7.out
  obtain ⟨d0, d1, d2, d3, d4, _⟩ := Rw5.row H8.out
  go_wp2_with fail
  refine (ris_any l v c f o lv 0 1 70 _).mono ?_
  rintro x w3 ⟨rfl, hbb⟩
  have HB2 := Lib.hid (H6.out.trans (hbb.mono H6.out.size))
  have HK2 := Lib.hid (H7.out.below hbb H7.out.lt)
  have HH2 := Lib.hid (H8.out.below hbb H8.out.lt)
  rw [HI.out]
  clear hbb c0 c1 c2 c3 c4 y0 y1 y2 y3 y4 d0 d1 d2 d3 d4
  obtain ⟨d0, d1, d2, d3, d4, _⟩ := Rw5.row HH2.out
  go_wp2_with fail
  refine (get_at cb 4 2 _ HE.out HCM.out (by omega) (by omega) HC6.out).mono ?_
  rintro x w4 ⟨rfl, hbb⟩
  have HB4 := Lib.hid (HB2.out.trans (hbb.mono HB2.out.size))
  have HK4 := Lib.hid (HK2.out.below hbb HK2.out.lt)
  have HH4 := Lib.hid (HH2.out.below hbb HH2.out.lt)
  clear hbb d0 d1 d2 d3 d4
  go_upto_region 8 with (fail)
  obtain ⟨wa, hwa⟩ : ∃ wa, wa = w4.drew := ⟨_, rfl⟩
  have HBR := Lib.hid (show Below w.heap.size w wa by rw [hwa]; exact HB4.out.drew)
  have KS := Lib.hid ((Rg.Keeps.one w.heap.size 57 zeroCC).blk w1.heap.size 74 (hdC l v c f o))
  refine wp_region_held_drew (S := fun wx => Blk wx w.heap.size 57 zeroCC ∧ Blk wx w1.heap.size 74 (hdC l v c f o)) (by kernel_rfl) ⟨HK4.out, HH4.out⟩ (fun hHeld => ?_)
  rw [← hwa] at hHeld ⊢
  have HWA := Lib.hid hwa
  clear hwa
  refine Rg.tk 0 (v := ?_) ?_ ?_
  rotate_left
  · (intro wx hSx; go_simp; all_goals with_reducible rfl)
  simp only [Act.put, Rg.e1, Rg.e2, Rg.e3, Rg.e4, Rg.e5, Rg.e6]
  refine Rg.tk 1 (v := ?_) ?_ ?_
  rotate_left
  · (intro wx hSx; go_simp; all_goals with_reducible rfl)
  simp only [Act.put, Rg.e1, Rg.e2, Rg.e3, Rg.e4, Rg.e5, Rg.e6]
  refine Rg.tk 2 (v := ?_) ?_ ?_
  rotate_left
  · (intro wx hSx; go_simp; all_goals with_reducible rfl)
  simp only [Act.put, Rg.e1, Rg.e2, Rg.e3, Rg.e4, Rg.e5, Rg.e6]
  refine Rg.tk 3 (v := ?_) ?_ ?_
  rotate_left
  · (intro wx hSx; go_simp; all_goals with_reducible rfl)
  simp only [Act.put, Rg.e1, Rg.e2, Rg.e3, Rg.e4, Rg.e5, Rg.e6]
  refine Rg.tk 4 (v := ?_) ?_ ?_
  rotate_left
  · intro wx hSx
    obtain ⟨d0, d1, d2, d3, d4, _⟩ := Rw5.row hSx.2; go_simp
    all_goals with_reducible rfl
  simp only [Act.put, Rg.e1, Rg.e2, Rg.e3, Rg.e4, Rg.e5, Rg.e6]
  refine Rg.tk 5 (v := ?_) ?_ ?_
  rotate_left
  · (intro wx hSx; go_simp; all_goals with_reducible rfl)
  simp only [Act.put, Rg.e1, Rg.e2, Rg.e3, Rg.e4, Rg.e5, Rg.e6]
  refine Rg.tk 6 (v := ?_) ?_ ?_
  rotate_left
  · (intro wx hSx; go_simp; all_goals with_reducible rfl)
  simp only [Act.put, Rg.e1, Rg.e2, Rg.e3, Rg.e4, Rg.e5, Rg.e6]
  refine Rg.tk 7 (v := ?_) ?_ ?_
  rotate_left
  · (intro wx hSx; go_simp; all_goals with_reducible rfl)
  simp only [Act.put, Rg.e1, Rg.e2, Rg.e3, Rg.e4, Rg.e5, Rg.e6]
  refine Rg.tk 8 (v := ?_) ?_ ?_
  rotate_left
  · (intro wx hSx; go_simp; all_goals with_reducible rfl)
  simp only [Act.put, Rg.e1, Rg.e2, Rg.e3, Rg.e4, Rg.e5, Rg.e6]
  refine Rg.tk 9 (v := ?_) ?_ ?_
  rotate_left
  · (intro wx hSx; go_simp; all_goals with_reducible rfl)
  simp only [Act.put, Rg.e1, Rg.e2, Rg.e3, Rg.e4, Rg.e5, Rg.e6]
  refine Rg.sk 10 ?_
  simp only [Act.put, Rg.e1, Rg.e2, Rg.e3, Rg.e4, Rg.e5, Rg.e6]
  refine Rg.sk 11 ?_
  simp only [Act.put, Rg.e1, Rg.e2, Rg.e3, Rg.e4, Rg.e5, Rg.e6]
  refine Rg.sk 12 ?_
  simp only [Act.put, Rg.e1, Rg.e2, Rg.e3, Rg.e4, Rg.e5, Rg.e6]
  refine Rg.sk 13 ?_
  simp only [Act.put, Rg.e1, Rg.e2, Rg.e3, Rg.e4, Rg.e5, Rg.e6]
  refine Rg.sk 14 ?_
  simp only [Act.put, Rg.e1, Rg.e2, Rg.e3, Rg.e4, Rg.e5, Rg.e6]
  refine Rg.tk 15 (v := ?_) ?_ ?_
  rotate_left
  · (intro wx hSx; go_simp; all_goals with_reducible rfl)
  simp only [Act.put, Rg.e1, Rg.e2, Rg.e3, Rg.e4, Rg.e5, Rg.e6]
  refine wpAnyH_done (by kernel_rfl) ?_ _
  have HKB := Lib.hid hHeld.1
  have HHB := Lib.hid hHeld.2
  clear hHeld
  obtain ⟨c0, c1, c2, c3, c4, y0, y1, y2, y3, y4⟩ := Rw5.row HKB.out
  obtain ⟨d0, d1, d2, d3, d4, _⟩ := Rw5.row HHB.out
  go_wp2
  (try simp only [Exit.inBlock, Exit.then]); refine bodyPost_ret (results_row2 rfl _ _ w.heap.size 57 _ (0, 0) _ rfl (Rw5.blk_set HKB.out _ _ _ _ _) Try.underlying57 rfl info_rcmsg) rfl ?_
  exact ⟨rfl, Rw5.below_set HBR.out (Nat.le_refl _) _ _ _ _ _⟩
set_option maxRecDepth 100000 in
set_option maxHeartbeats 4000000 in
theorem ropen_strayC (s cb tl sZ nm : ByteArray) (l v c f o : Nat) (cs : List UInt8) (lv e z1 x2 n4 : Nat) (zb b2 : Bool) (w : World) (ho : openO s.data.toList = (⟨l, v, c, f, o⟩, cs, 0)) (hcb : (⟨cs.toArray⟩ : ByteArray) = cb) (hi : isO ⟨l, v, c, f, o⟩ lv 0 1 70 = 0) (hc1 : 70 ≤ cb.size) (hc2 : cb.size ≤ 70) (hf : f < 256)
    (he : getN cb.data.toList 4 2 = e) (hn4 : getN cb.data.toList 0 4 = n4) (hz1 : f / 8 % 16 = z1) (hx2 : f % 8 = x2) (hb2 : decide ((128 : Int) ≤ (f : Int)) = b2) (ht : cb.extract 54 cb.size = tl) (hnm : cb.extract 6 54 = nm) (hsz : (⟨(noughts 16).toArray⟩ : ByteArray) = sZ) (hz : (tl.toList == sZ.toList) = zb) (hz' : (tl.toList != sZ.toList) = !zb) (he16 : e < 65536) (hn32 : n4 < 4294967296) (h1 : e < 8192) (h2 : z1 = 0) (hzb : zb = false) :
    Calls Try.prog 20 #[.string s, .int .u8 (lv : Int)] w fun x w' => x = .returned (.tuple #[zeroCV, .int .i64 ((3 : Nat) : Int)]) ∧ Below w.heap.size w w' := by
  have HO := Lib.hid ho; clear ho
  have HCB := Lib.hid hcb; clear hcb
  have HI := Lib.hid hi; clear hi
  have HE := Lib.hid he; clear he
  have HN4 := Lib.hid hn4; clear hn4
  have HSZ := Lib.hid hsz; clear hsz
  have HCM := Lib.hid (show cb.size ≤ maxLen by unfold maxLen; omega)
  have HC6 := Lib.hid (show 4 + 2 ≤ cb.size by omega)
  have HC4 := Lib.hid (show 0 + 4 ≤ cb.size by omega)
  have m1 : (54 : Int) ≤ (cb.size : Int) := by omega
  have m2 : 54 ≤ cb.size := by omega
  obtain ⟨e8, t1, le8⟩ : ∃ e8 : Nat, (f : Int).tdiv 8 = (e8 : Int) ∧ e8 < 256 := ⟨f / 8, by rw [Int.tdiv_eq_ediv_of_nonneg (by omega)]; omega, by omega⟩
  have t2 : (e8 : Int).tmod 16 = (z1 : Int) := by rw [← t1, Int.tdiv_eq_ediv_of_nonneg (by omega), Int.tmod_eq_emod_of_nonneg (by omega)]; omega
  have t3 : (f : Int).tmod 8 = (x2 : Int) := by rw [Int.tmod_eq_emod_of_nonneg (by omega)]; omega
  have k1 : IntKind.u8.wrap (e8 : Int) = (e8 : Int) := IntWalk.u8_in _ ⟨by omega, by omega⟩
  have k2 : IntKind.u32.wrap (n4 : Int) = (n4 : Int) := IntWalk.u32_in _ ⟨by omega, by omega⟩
  have k3 : IntKind.u16.wrap (e : Int) = (e : Int) := IntWalk.u16_in _ ⟨by omega, by omega⟩
  clear hz1 hx2
  have q1 : decide ((8192 : Int) ≤ (e : Int)) = false := by simp; omega
  have q2 : ((z1 : Int) != 0) = false := neq_f (by omega)
  subst hzb
  clear h1 h2
  go_enter Try.func20, Try.ntmps20
  go_wp2_with fail
  refine (Oa.ropen_at s _ HO.out).mono ?_
  rintro x w1 ⟨rfl, hb1⟩
  have HK := Lib.hid ((Blk.fresh w 57 zeroCC).below hb1 (by simp))
  have HNE := Lib.hid (show w.heap.size < w1.heap.size by have := hb1.size; simp at this; omega)
  have HB := Lib.hid (((Below.refl w.heap.size w).alloc (Nat.le_refl _) (.cells zeroCC 57)).trans (hb1.mono (by simp)))
  clear hb1
  simp only [valH]
  rw [HCB.out]
  go_upto_if 18 with (fail)
  have H6 := Lib.hid (HB.out.alloc HB.out.size (.cells (hdC l v c f o) 74))
  have H7 := Lib.hid (HK.out.alloc (.cells (hdC l v c f o) 74))
  have H8 := Lib.hid (Blk.fresh w1 74 (hdC l v c f o))
  generalize w1.alloc (.cells (hdC l v c f o) 74) = w2 at H6 H7 H8 ⊢
  obtain ⟨c0, c1, c2, c3, c4, y0, y1, y2, y3, y4⟩ := Rw5.row H7.out
  obtain ⟨d0, d1, d2, d3, d4, _⟩ := Rw5.row H8.out
  go_wp2_with fail
  refine (ris_any l v c f o lv 0 1 70 _).mono ?_
  rintro x w3 ⟨rfl, hbb⟩
  have HB2 := Lib.hid (H6.out.trans (hbb.mono H6.out.size))
  have HK2 := Lib.hid (H7.out.below hbb H7.out.lt)
  have HH2 := Lib.hid (H8.out.below hbb H8.out.lt)
  rw [HI.out]
  clear hbb c0 c1 c2 c3 c4 y0 y1 y2 y3 y4 d0 d1 d2 d3 d4
  obtain ⟨d0, d1, d2, d3, d4, _⟩ := Rw5.row HH2.out
  go_wp2_with fail
  refine (get_at cb 4 2 _ HE.out HCM.out (by omega) (by omega) HC6.out).mono ?_
  rintro x w4 ⟨rfl, hbb⟩
  have HB4 := Lib.hid (HB2.out.trans (hbb.mono HB2.out.size))
  have HK4 := Lib.hid (HK2.out.below hbb HK2.out.lt)
  have HH4 := Lib.hid (HH2.out.below hbb HH2.out.lt)
  clear hbb d0 d1 d2 d3 d4
  go_upto_region 8 with (fail)
  obtain ⟨wa, hwa⟩ : ∃ wa, wa = w4.drew := ⟨_, rfl⟩
  have HBR := Lib.hid (show Below w.heap.size w wa by rw [hwa]; exact HB4.out.drew)
  have KS := Lib.hid ((Rg.Keeps.one w.heap.size 57 zeroCC).blk w1.heap.size 74 (hdC l v c f o))
  refine wp_region_held_drew (S := fun wx => Blk wx w.heap.size 57 zeroCC ∧ Blk wx w1.heap.size 74 (hdC l v c f o)) (by kernel_rfl) ⟨HK4.out, HH4.out⟩ (fun hHeld => ?_)
  rw [← hwa] at hHeld ⊢
  have HWA := Lib.hid hwa
  clear hwa
  refine Rg.tk 0 (v := ?_) ?_ ?_
  rotate_left
  · (intro wx hSx; go_simp; all_goals with_reducible rfl)
  simp only [Act.put, Rg.e1, Rg.e2, Rg.e3, Rg.e4, Rg.e5, Rg.e6]
  refine Rg.tk 1 (v := ?_) ?_ ?_
  rotate_left
  · (intro wx hSx; go_simp; all_goals with_reducible rfl)
  simp only [Act.put, Rg.e1, Rg.e2, Rg.e3, Rg.e4, Rg.e5, Rg.e6]
  refine Rg.tk 2 (v := ?_) ?_ ?_
  rotate_left
  · (intro wx hSx; go_simp; all_goals with_reducible rfl)
  simp only [Act.put, Rg.e1, Rg.e2, Rg.e3, Rg.e4, Rg.e5, Rg.e6]
  refine Rg.tk 3 (v := ?_) ?_ ?_
  rotate_left
  · (intro wx hSx; go_simp; all_goals with_reducible rfl)
  simp only [Act.put, Rg.e1, Rg.e2, Rg.e3, Rg.e4, Rg.e5, Rg.e6]
  refine Rg.tk 4 (v := ?_) ?_ ?_
  rotate_left
  · intro wx hSx
    obtain ⟨d0, d1, d2, d3, d4, _⟩ := Rw5.row hSx.2; go_simp
    all_goals with_reducible rfl
  simp only [Act.put, Rg.e1, Rg.e2, Rg.e3, Rg.e4, Rg.e5, Rg.e6]
  refine Rg.tk 5 (v := ?_) ?_ ?_
  rotate_left
  · (intro wx hSx; go_simp; all_goals with_reducible rfl)
  simp only [Act.put, Rg.e1, Rg.e2, Rg.e3, Rg.e4, Rg.e5, Rg.e6]
  refine Rg.tk 6 (v := ?_) ?_ ?_
  rotate_left
  · (intro wx hSx; go_simp; all_goals with_reducible rfl)
  simp only [Act.put, Rg.e1, Rg.e2, Rg.e3, Rg.e4, Rg.e5, Rg.e6]
  refine Rg.tk 7 (v := ?_) ?_ ?_
  rotate_left
  · (intro wx hSx; go_simp; all_goals with_reducible rfl)
  simp only [Act.put, Rg.e1, Rg.e2, Rg.e3, Rg.e4, Rg.e5, Rg.e6]
  refine Rg.tk 8 (v := ?_) ?_ ?_
  rotate_left
  · (intro wx hSx; go_simp; all_goals with_reducible rfl)
  simp only [Act.put, Rg.e1, Rg.e2, Rg.e3, Rg.e4, Rg.e5, Rg.e6]
  refine Rg.tk 9 (v := ?_) ?_ ?_
  rotate_left
  · (intro wx hSx; go_simp; all_goals with_reducible rfl)
  simp only [Act.put, Rg.e1, Rg.e2, Rg.e3, Rg.e4, Rg.e5, Rg.e6]
  refine Rg.tk 10 (v := ?_) ?_ ?_
  rotate_left
  · (intro wx hSx; go_simp; all_goals with_reducible rfl)
  simp only [Act.put, Rg.e1, Rg.e2, Rg.e3, Rg.e4, Rg.e5, Rg.e6]
  refine Rg.tk 11 (v := ?_) ?_ ?_
  rotate_left
  · (intro wx hSx; go_simp; all_goals with_reducible rfl)
  simp only [Act.put, Rg.e1, Rg.e2, Rg.e3, Rg.e4, Rg.e5, Rg.e6]
  refine wpAnyH_ready (rs := [12]) (by kernel_rfl) (by simp) ?_
  refine .cons (o := _) rfl (fun K hK => ?_) ?_
  · have hmk := make16 wa
    go_simp
    refine Rg.st_alloc hK hHeld KS.out HBR.out ?_
    clear hK K
    intro wr1 hlt hHeld ks hbr
    have HBR := Lib.hid hbr
    have KS := Lib.hid ks
    clear hbr ks hlt
    try simp only [Rg.e1, Rg.e2, Rg.e3]
    refine Rg.tk 13 (v := ?_) ?_ ?_
    rotate_left
    · intro wx hSx
      have hcv := Rg.back_blk (P := Try.prog) (src := 60) (dst := 9) sZ (noughts 16) 16 16 hSx.2 rfl rfl HSZ.out Try.underlying60 Try.underlying5 Try.underlying9; go_simp
      all_goals with_reducible rfl
    simp only [Act.put, Rg.e1, Rg.e2, Rg.e3, Rg.e4, Rg.e5, Rg.e6]
    refine Rg.tk 14 (v := ?_) ?_ ?_
    rotate_left
    · (intro wx hSx; go_simp; all_goals with_reducible rfl)
    simp only [Act.put, Rg.e1, Rg.e2, Rg.e3, Rg.e4, Rg.e5, Rg.e6]
    refine Rg.tk 15 (v := ?_) ?_ ?_
    rotate_left
    · (intro wx hSx; go_simp; all_goals with_reducible rfl)
    simp only [Act.put, Rg.e1, Rg.e2, Rg.e3, Rg.e4, Rg.e5, Rg.e6]
    refine wpAnyH_done (by kernel_rfl) ?_ _
    have HKB := Lib.hid hHeld.1.1
    have HHB := Lib.hid hHeld.1.2
    clear hHeld
    obtain ⟨c0, c1, c2, c3, c4, y0, y1, y2, y3, y4⟩ := Rw5.row HKB.out
    obtain ⟨d0, d1, d2, d3, d4, _⟩ := Rw5.row HHB.out
    go_wp2
    (try simp only [Exit.inBlock, Exit.then]); refine bodyPost_ret (results_row2 rfl _ _ w.heap.size 57 _ (0, 0) _ rfl (Rw5.blk_set HKB.out _ _ _ _ _) Try.underlying57 rfl info_rcmsg) rfl ?_
    exact ⟨rfl, Rw5.below_set HBR.out (Nat.le_refl _) _ _ _ _ _⟩
  exact AllReadyH.nil
set_option maxRecDepth 100000 in
set_option maxHeartbeats 4000000 in
theorem ropen_noP (s cb tl sZ nm : ByteArray) (l v c f o : Nat) (cs : List UInt8) (lv e z1 x2 n4 : Nat) (zb b2 : Bool) (w : World) (ho : openO s.data.toList = (⟨l, v, c, f, o⟩, cs, 0)) (hcb : (⟨cs.toArray⟩ : ByteArray) = cb) (hi : isO ⟨l, v, c, f, o⟩ lv 0 1 70 = 0) (hc1 : 70 ≤ cb.size) (hc2 : cb.size ≤ 70) (hf : f < 256)
    (he : getN cb.data.toList 4 2 = e) (hn4 : getN cb.data.toList 0 4 = n4) (hz1 : f / 8 % 16 = z1) (hx2 : f % 8 = x2) (hb2 : decide ((128 : Int) ≤ (f : Int)) = b2) (ht : cb.extract 54 cb.size = tl) (hnm : cb.extract 6 54 = nm) (hsz : (⟨(noughts 16).toArray⟩ : ByteArray) = sZ) (hz : (tl.toList == sZ.toList) = zb) (hz' : (tl.toList != sZ.toList) = !zb) (he16 : e < 65536) (hn32 : n4 < 4294967296) (h1 : e < 8192) (h2 : z1 = 0) (hzb : zb = true) (h3 : x2 = 0) :
    Calls Try.prog 20 #[.string s, .int .u8 (lv : Int)] w fun x w' => x = .returned (.tuple #[zeroCV, .int .i64 ((4 : Nat) : Int)]) ∧ Below w.heap.size w w' := by
  have HO := Lib.hid ho; clear ho
  have HCB := Lib.hid hcb; clear hcb
  have HI := Lib.hid hi; clear hi
  have HE := Lib.hid he; clear he
  have HN4 := Lib.hid hn4; clear hn4
  have HSZ := Lib.hid hsz; clear hsz
  have HCM := Lib.hid (show cb.size ≤ maxLen by unfold maxLen; omega)
  have HC6 := Lib.hid (show 4 + 2 ≤ cb.size by omega)
  have HC4 := Lib.hid (show 0 + 4 ≤ cb.size by omega)
  have m1 : (54 : Int) ≤ (cb.size : Int) := by omega
  have m2 : 54 ≤ cb.size := by omega
  obtain ⟨e8, t1, le8⟩ : ∃ e8 : Nat, (f : Int).tdiv 8 = (e8 : Int) ∧ e8 < 256 := ⟨f / 8, by rw [Int.tdiv_eq_ediv_of_nonneg (by omega)]; omega, by omega⟩
  have t2 : (e8 : Int).tmod 16 = (z1 : Int) := by rw [← t1, Int.tdiv_eq_ediv_of_nonneg (by omega), Int.tmod_eq_emod_of_nonneg (by omega)]; omega
  have t3 : (f : Int).tmod 8 = (x2 : Int) := by rw [Int.tmod_eq_emod_of_nonneg (by omega)]; omega
  have k1 : IntKind.u8.wrap (e8 : Int) = (e8 : Int) := IntWalk.u8_in _ ⟨by omega, by omega⟩
  have k2 : IntKind.u32.wrap (n4 : Int) = (n4 : Int) := IntWalk.u32_in _ ⟨by omega, by omega⟩
  have k3 : IntKind.u16.wrap (e : Int) = (e : Int) := IntWalk.u16_in _ ⟨by omega, by omega⟩
  clear hz1 hx2
  have q1 : decide ((8192 : Int) ≤ (e : Int)) = false := by simp; omega
  have q2 : ((z1 : Int) != 0) = false := neq_f (by omega)
  subst hzb
  clear h1 h2
  have q3 : ((x2 : Int) == 0) = true := nat_eq_t h3
  clear h3
  go_enter Try.func20, Try.ntmps20
  go_wp2_with fail
  refine (Oa.ropen_at s _ HO.out).mono ?_
  rintro x w1 ⟨rfl, hb1⟩
  have HK := Lib.hid ((Blk.fresh w 57 zeroCC).below hb1 (by simp))
  have HNE := Lib.hid (show w.heap.size < w1.heap.size by have := hb1.size; simp at this; omega)
  have HB := Lib.hid (((Below.refl w.heap.size w).alloc (Nat.le_refl _) (.cells zeroCC 57)).trans (hb1.mono (by simp)))
  clear hb1
  simp only [valH]
  rw [HCB.out]
  go_upto_if 18 with (fail)
  have H6 := Lib.hid (HB.out.alloc HB.out.size (.cells (hdC l v c f o) 74))
  have H7 := Lib.hid (HK.out.alloc (.cells (hdC l v c f o) 74))
  have H8 := Lib.hid (Blk.fresh w1 74 (hdC l v c f o))
  generalize w1.alloc (.cells (hdC l v c f o) 74) = w2 at H6 H7 H8 ⊢
  obtain ⟨c0, c1, c2, c3, c4, y0, y1, y2, y3, y4⟩ := Rw5.row H7.out
  obtain ⟨d0, d1, d2, d3, d4, _⟩ := Rw5.row H8.out
  go_wp2_with fail
  refine (ris_any l v c f o lv 0 1 70 _).mono ?_
  rintro x w3 ⟨rfl, hbb⟩
  have HB2 := Lib.hid (H6.out.trans (hbb.mono H6.out.size))
  have HK2 := Lib.hid (H7.out.below hbb H7.out.lt)
  have HH2 := Lib.hid (H8.out.below hbb H8.out.lt)
  rw [HI.out]
  clear hbb c0 c1 c2 c3 c4 y0 y1 y2 y3 y4 d0 d1 d2 d3 d4
  obtain ⟨d0, d1, d2, d3, d4, _⟩ := Rw5.row HH2.out
  go_wp2_with fail
  refine (get_at cb 4 2 _ HE.out HCM.out (by omega) (by omega) HC6.out).mono ?_
  rintro x w4 ⟨rfl, hbb⟩
  have HB4 := Lib.hid (HB2.out.trans (hbb.mono HB2.out.size))
  have HK4 := Lib.hid (HK2.out.below hbb HK2.out.lt)
  have HH4 := Lib.hid (HH2.out.below hbb HH2.out.lt)
  clear hbb d0 d1 d2 d3 d4
  go_upto_region 8 with (fail)
  obtain ⟨wa, hwa⟩ : ∃ wa, wa = w4.drew := ⟨_, rfl⟩
  have HBR := Lib.hid (show Below w.heap.size w wa by rw [hwa]; exact HB4.out.drew)
  have KS := Lib.hid ((Rg.Keeps.one w.heap.size 57 zeroCC).blk w1.heap.size 74 (hdC l v c f o))
  refine wp_region_held_drew (S := fun wx => Blk wx w.heap.size 57 zeroCC ∧ Blk wx w1.heap.size 74 (hdC l v c f o)) (by kernel_rfl) ⟨HK4.out, HH4.out⟩ (fun hHeld => ?_)
  rw [← hwa] at hHeld ⊢
  have HWA := Lib.hid hwa
  clear hwa
  refine Rg.tk 0 (v := ?_) ?_ ?_
  rotate_left
  · (intro wx hSx; go_simp; all_goals with_reducible rfl)
  simp only [Act.put, Rg.e1, Rg.e2, Rg.e3, Rg.e4, Rg.e5, Rg.e6]
  refine Rg.tk 1 (v := ?_) ?_ ?_
  rotate_left
  · (intro wx hSx; go_simp; all_goals with_reducible rfl)
  simp only [Act.put, Rg.e1, Rg.e2, Rg.e3, Rg.e4, Rg.e5, Rg.e6]
  refine Rg.tk 2 (v := ?_) ?_ ?_
  rotate_left
  · (intro wx hSx; go_simp; all_goals with_reducible rfl)
  simp only [Act.put, Rg.e1, Rg.e2, Rg.e3, Rg.e4, Rg.e5, Rg.e6]
  refine Rg.tk 3 (v := ?_) ?_ ?_
  rotate_left
  · (intro wx hSx; go_simp; all_goals with_reducible rfl)
  simp only [Act.put, Rg.e1, Rg.e2, Rg.e3, Rg.e4, Rg.e5, Rg.e6]
  refine Rg.tk 4 (v := ?_) ?_ ?_
  rotate_left
  · intro wx hSx
    obtain ⟨d0, d1, d2, d3, d4, _⟩ := Rw5.row hSx.2; go_simp
    all_goals with_reducible rfl
  simp only [Act.put, Rg.e1, Rg.e2, Rg.e3, Rg.e4, Rg.e5, Rg.e6]
  refine Rg.tk 5 (v := ?_) ?_ ?_
  rotate_left
  · (intro wx hSx; go_simp; all_goals with_reducible rfl)
  simp only [Act.put, Rg.e1, Rg.e2, Rg.e3, Rg.e4, Rg.e5, Rg.e6]
  refine Rg.tk 6 (v := ?_) ?_ ?_
  rotate_left
  · (intro wx hSx; go_simp; all_goals with_reducible rfl)
  simp only [Act.put, Rg.e1, Rg.e2, Rg.e3, Rg.e4, Rg.e5, Rg.e6]
  refine Rg.tk 7 (v := ?_) ?_ ?_
  rotate_left
  · (intro wx hSx; go_simp; all_goals with_reducible rfl)
  simp only [Act.put, Rg.e1, Rg.e2, Rg.e3, Rg.e4, Rg.e5, Rg.e6]
  refine Rg.tk 8 (v := ?_) ?_ ?_
  rotate_left
  · (intro wx hSx; go_simp; all_goals with_reducible rfl)
  simp only [Act.put, Rg.e1, Rg.e2, Rg.e3, Rg.e4, Rg.e5, Rg.e6]
  refine Rg.tk 9 (v := ?_) ?_ ?_
  rotate_left
  · (intro wx hSx; go_simp; all_goals with_reducible rfl)
  simp only [Act.put, Rg.e1, Rg.e2, Rg.e3, Rg.e4, Rg.e5, Rg.e6]
  refine Rg.tk 10 (v := ?_) ?_ ?_
  rotate_left
  · (intro wx hSx; go_simp; all_goals with_reducible rfl)
  simp only [Act.put, Rg.e1, Rg.e2, Rg.e3, Rg.e4, Rg.e5, Rg.e6]
  refine Rg.tk 11 (v := ?_) ?_ ?_
  rotate_left
  · (intro wx hSx; go_simp; all_goals with_reducible rfl)
  simp only [Act.put, Rg.e1, Rg.e2, Rg.e3, Rg.e4, Rg.e5, Rg.e6]
  refine wpAnyH_ready (rs := [12]) (by kernel_rfl) (by simp) ?_
  refine .cons (o := _) rfl (fun K hK => ?_) ?_
  · have hmk := make16 wa
    go_simp
    refine Rg.st_alloc hK hHeld KS.out HBR.out ?_
    clear hK K
    intro wr1 hlt hHeld ks hbr
    have HBR := Lib.hid hbr
    have KS := Lib.hid ks
    clear hbr ks hlt
    try simp only [Rg.e1, Rg.e2, Rg.e3]
    refine Rg.tk 13 (v := ?_) ?_ ?_
    rotate_left
    · intro wx hSx
      have hcv := Rg.back_blk (P := Try.prog) (src := 60) (dst := 9) sZ (noughts 16) 16 16 hSx.2 rfl rfl HSZ.out Try.underlying60 Try.underlying5 Try.underlying9; go_simp
      all_goals with_reducible rfl
    simp only [Act.put, Rg.e1, Rg.e2, Rg.e3, Rg.e4, Rg.e5, Rg.e6]
    refine Rg.tk 14 (v := ?_) ?_ ?_
    rotate_left
    · (intro wx hSx; go_simp; all_goals with_reducible rfl)
    simp only [Act.put, Rg.e1, Rg.e2, Rg.e3, Rg.e4, Rg.e5, Rg.e6]
    refine Rg.tk 15 (v := ?_) ?_ ?_
    rotate_left
    · (intro wx hSx; go_simp; all_goals with_reducible rfl)
    simp only [Act.put, Rg.e1, Rg.e2, Rg.e3, Rg.e4, Rg.e5, Rg.e6]
    refine wpAnyH_done (by kernel_rfl) ?_ _
    have HKB := Lib.hid hHeld.1.1
    have HHB := Lib.hid hHeld.1.2
    clear hHeld
    obtain ⟨c0, c1, c2, c3, c4, y0, y1, y2, y3, y4⟩ := Rw5.row HKB.out
    obtain ⟨d0, d1, d2, d3, d4, _⟩ := Rw5.row HHB.out
    go_wp2
    (try simp only [Exit.inBlock, Exit.then]); refine bodyPost_ret (results_row2 rfl _ _ w.heap.size 57 _ (0, 0) _ rfl (Rw5.blk_set HKB.out _ _ _ _ _) Try.underlying57 rfl info_rcmsg) rfl ?_
    exact ⟨rfl, Rw5.below_set HBR.out (Nat.le_refl _) _ _ _ _ _⟩
  exact AllReadyH.nil
set_option maxRecDepth 100000 in
set_option maxHeartbeats 4000000 in
theorem ropen_noE (s cb tl sZ nm : ByteArray) (l v c f o : Nat) (cs : List UInt8) (lv e z1 x2 n4 : Nat) (zb b2 : Bool) (w : World) (ho : openO s.data.toList = (⟨l, v, c, f, o⟩, cs, 0)) (hcb : (⟨cs.toArray⟩ : ByteArray) = cb) (hi : isO ⟨l, v, c, f, o⟩ lv 0 1 70 = 0) (hc1 : 70 ≤ cb.size) (hc2 : cb.size ≤ 70) (hf : f < 256)
    (he : getN cb.data.toList 4 2 = e) (hn4 : getN cb.data.toList 0 4 = n4) (hz1 : f / 8 % 16 = z1) (hx2 : f % 8 = x2) (hb2 : decide ((128 : Int) ≤ (f : Int)) = b2) (ht : cb.extract 54 cb.size = tl) (hnm : cb.extract 6 54 = nm) (hsz : (⟨(noughts 16).toArray⟩ : ByteArray) = sZ) (hz : (tl.toList == sZ.toList) = zb) (hz' : (tl.toList != sZ.toList) = !zb) (he16 : e < 65536) (hn32 : n4 < 4294967296) (h1 : e < 8192) (h2 : z1 = 0) (hzb : zb = true) (h3 : x2 ≠ 0) (h4 : e = 0) :
    Calls Try.prog 20 #[.string s, .int .u8 (lv : Int)] w fun x w' => x = .returned (.tuple #[zeroCV, .int .i64 ((4 : Nat) : Int)]) ∧ Below w.heap.size w w' := by
  have HO := Lib.hid ho; clear ho
  have HCB := Lib.hid hcb; clear hcb
  have HI := Lib.hid hi; clear hi
  have HE := Lib.hid he; clear he
  have HN4 := Lib.hid hn4; clear hn4
  have HSZ := Lib.hid hsz; clear hsz
  have HCM := Lib.hid (show cb.size ≤ maxLen by unfold maxLen; omega)
  have HC6 := Lib.hid (show 4 + 2 ≤ cb.size by omega)
  have HC4 := Lib.hid (show 0 + 4 ≤ cb.size by omega)
  have m1 : (54 : Int) ≤ (cb.size : Int) := by omega
  have m2 : 54 ≤ cb.size := by omega
  obtain ⟨e8, t1, le8⟩ : ∃ e8 : Nat, (f : Int).tdiv 8 = (e8 : Int) ∧ e8 < 256 := ⟨f / 8, by rw [Int.tdiv_eq_ediv_of_nonneg (by omega)]; omega, by omega⟩
  have t2 : (e8 : Int).tmod 16 = (z1 : Int) := by rw [← t1, Int.tdiv_eq_ediv_of_nonneg (by omega), Int.tmod_eq_emod_of_nonneg (by omega)]; omega
  have t3 : (f : Int).tmod 8 = (x2 : Int) := by rw [Int.tmod_eq_emod_of_nonneg (by omega)]; omega
  have k1 : IntKind.u8.wrap (e8 : Int) = (e8 : Int) := IntWalk.u8_in _ ⟨by omega, by omega⟩
  have k2 : IntKind.u32.wrap (n4 : Int) = (n4 : Int) := IntWalk.u32_in _ ⟨by omega, by omega⟩
  have k3 : IntKind.u16.wrap (e : Int) = (e : Int) := IntWalk.u16_in _ ⟨by omega, by omega⟩
  clear hz1 hx2
  have q1 : decide ((8192 : Int) ≤ (e : Int)) = false := by simp; omega
  have q2 : ((z1 : Int) != 0) = false := neq_f (by omega)
  subst hzb
  clear h1 h2
  have q3 : ((x2 : Int) == 0) = false := nat_eq_f h3
  have q4 : ((e : Int) == 0) = true := nat_eq_t h4
  clear h3 h4
  go_enter Try.func20, Try.ntmps20
  go_wp2_with fail
  refine (Oa.ropen_at s _ HO.out).mono ?_
  rintro x w1 ⟨rfl, hb1⟩
  have HK := Lib.hid ((Blk.fresh w 57 zeroCC).below hb1 (by simp))
  have HNE := Lib.hid (show w.heap.size < w1.heap.size by have := hb1.size; simp at this; omega)
  have HB := Lib.hid (((Below.refl w.heap.size w).alloc (Nat.le_refl _) (.cells zeroCC 57)).trans (hb1.mono (by simp)))
  clear hb1
  simp only [valH]
  rw [HCB.out]
  go_upto_if 18 with (fail)
  have H6 := Lib.hid (HB.out.alloc HB.out.size (.cells (hdC l v c f o) 74))
  have H7 := Lib.hid (HK.out.alloc (.cells (hdC l v c f o) 74))
  have H8 := Lib.hid (Blk.fresh w1 74 (hdC l v c f o))
  generalize w1.alloc (.cells (hdC l v c f o) 74) = w2 at H6 H7 H8 ⊢
  obtain ⟨c0, c1, c2, c3, c4, y0, y1, y2, y3, y4⟩ := Rw5.row H7.out
  obtain ⟨d0, d1, d2, d3, d4, _⟩ := Rw5.row H8.out
  go_wp2_with fail
  refine (ris_any l v c f o lv 0 1 70 _).mono ?_
  rintro x w3 ⟨rfl, hbb⟩
  have HB2 := Lib.hid (H6.out.trans (hbb.mono H6.out.size))
  have HK2 := Lib.hid (H7.out.below hbb H7.out.lt)
  have HH2 := Lib.hid (H8.out.below hbb H8.out.lt)
  rw [HI.out]
  clear hbb c0 c1 c2 c3 c4 y0 y1 y2 y3 y4 d0 d1 d2 d3 d4
  obtain ⟨d0, d1, d2, d3, d4, _⟩ := Rw5.row HH2.out
  go_wp2_with fail
  refine (get_at cb 4 2 _ HE.out HCM.out (by omega) (by omega) HC6.out).mono ?_
  rintro x w4 ⟨rfl, hbb⟩
  have HB4 := Lib.hid (HB2.out.trans (hbb.mono HB2.out.size))
  have HK4 := Lib.hid (HK2.out.below hbb HK2.out.lt)
  have HH4 := Lib.hid (HH2.out.below hbb HH2.out.lt)
  clear hbb d0 d1 d2 d3 d4
  go_upto_region 8 with (fail)
  obtain ⟨wa, hwa⟩ : ∃ wa, wa = w4.drew := ⟨_, rfl⟩
  have HBR := Lib.hid (show Below w.heap.size w wa by rw [hwa]; exact HB4.out.drew)
  have KS := Lib.hid ((Rg.Keeps.one w.heap.size 57 zeroCC).blk w1.heap.size 74 (hdC l v c f o))
  refine wp_region_held_drew (S := fun wx => Blk wx w.heap.size 57 zeroCC ∧ Blk wx w1.heap.size 74 (hdC l v c f o)) (by kernel_rfl) ⟨HK4.out, HH4.out⟩ (fun hHeld => ?_)
  rw [← hwa] at hHeld ⊢
  have HWA := Lib.hid hwa
  clear hwa
  refine Rg.tk 0 (v := ?_) ?_ ?_
  rotate_left
  · (intro wx hSx; go_simp; all_goals with_reducible rfl)
  simp only [Act.put, Rg.e1, Rg.e2, Rg.e3, Rg.e4, Rg.e5, Rg.e6]
  refine Rg.tk 1 (v := ?_) ?_ ?_
  rotate_left
  · (intro wx hSx; go_simp; all_goals with_reducible rfl)
  simp only [Act.put, Rg.e1, Rg.e2, Rg.e3, Rg.e4, Rg.e5, Rg.e6]
  refine Rg.tk 2 (v := ?_) ?_ ?_
  rotate_left
  · (intro wx hSx; go_simp; all_goals with_reducible rfl)
  simp only [Act.put, Rg.e1, Rg.e2, Rg.e3, Rg.e4, Rg.e5, Rg.e6]
  refine Rg.tk 3 (v := ?_) ?_ ?_
  rotate_left
  · (intro wx hSx; go_simp; all_goals with_reducible rfl)
  simp only [Act.put, Rg.e1, Rg.e2, Rg.e3, Rg.e4, Rg.e5, Rg.e6]
  refine Rg.tk 4 (v := ?_) ?_ ?_
  rotate_left
  · intro wx hSx
    obtain ⟨d0, d1, d2, d3, d4, _⟩ := Rw5.row hSx.2; go_simp
    all_goals with_reducible rfl
  simp only [Act.put, Rg.e1, Rg.e2, Rg.e3, Rg.e4, Rg.e5, Rg.e6]
  refine Rg.tk 5 (v := ?_) ?_ ?_
  rotate_left
  · (intro wx hSx; go_simp; all_goals with_reducible rfl)
  simp only [Act.put, Rg.e1, Rg.e2, Rg.e3, Rg.e4, Rg.e5, Rg.e6]
  refine Rg.tk 6 (v := ?_) ?_ ?_
  rotate_left
  · (intro wx hSx; go_simp; all_goals with_reducible rfl)
  simp only [Act.put, Rg.e1, Rg.e2, Rg.e3, Rg.e4, Rg.e5, Rg.e6]
  refine Rg.tk 7 (v := ?_) ?_ ?_
  rotate_left
  · (intro wx hSx; go_simp; all_goals with_reducible rfl)
  simp only [Act.put, Rg.e1, Rg.e2, Rg.e3, Rg.e4, Rg.e5, Rg.e6]
  refine Rg.tk 8 (v := ?_) ?_ ?_
  rotate_left
  · (intro wx hSx; go_simp; all_goals with_reducible rfl)
  simp only [Act.put, Rg.e1, Rg.e2, Rg.e3, Rg.e4, Rg.e5, Rg.e6]
  refine Rg.tk 9 (v := ?_) ?_ ?_
  rotate_left
  · (intro wx hSx; go_simp; all_goals with_reducible rfl)
  simp only [Act.put, Rg.e1, Rg.e2, Rg.e3, Rg.e4, Rg.e5, Rg.e6]
  refine Rg.tk 10 (v := ?_) ?_ ?_
  rotate_left
  · (intro wx hSx; go_simp; all_goals with_reducible rfl)
  simp only [Act.put, Rg.e1, Rg.e2, Rg.e3, Rg.e4, Rg.e5, Rg.e6]
  refine Rg.tk 11 (v := ?_) ?_ ?_
  rotate_left
  · (intro wx hSx; go_simp; all_goals with_reducible rfl)
  simp only [Act.put, Rg.e1, Rg.e2, Rg.e3, Rg.e4, Rg.e5, Rg.e6]
  refine wpAnyH_ready (rs := [12]) (by kernel_rfl) (by simp) ?_
  refine .cons (o := _) rfl (fun K hK => ?_) ?_
  · have hmk := make16 wa
    go_simp
    refine Rg.st_alloc hK hHeld KS.out HBR.out ?_
    clear hK K
    intro wr1 hlt hHeld ks hbr
    have HBR := Lib.hid hbr
    have KS := Lib.hid ks
    clear hbr ks hlt
    try simp only [Rg.e1, Rg.e2, Rg.e3]
    refine Rg.tk 13 (v := ?_) ?_ ?_
    rotate_left
    · intro wx hSx
      have hcv := Rg.back_blk (P := Try.prog) (src := 60) (dst := 9) sZ (noughts 16) 16 16 hSx.2 rfl rfl HSZ.out Try.underlying60 Try.underlying5 Try.underlying9; go_simp
      all_goals with_reducible rfl
    simp only [Act.put, Rg.e1, Rg.e2, Rg.e3, Rg.e4, Rg.e5, Rg.e6]
    refine Rg.tk 14 (v := ?_) ?_ ?_
    rotate_left
    · (intro wx hSx; go_simp; all_goals with_reducible rfl)
    simp only [Act.put, Rg.e1, Rg.e2, Rg.e3, Rg.e4, Rg.e5, Rg.e6]
    refine Rg.tk 15 (v := ?_) ?_ ?_
    rotate_left
    · (intro wx hSx; go_simp; all_goals with_reducible rfl)
    simp only [Act.put, Rg.e1, Rg.e2, Rg.e3, Rg.e4, Rg.e5, Rg.e6]
    refine wpAnyH_done (by kernel_rfl) ?_ _
    have HKB := Lib.hid hHeld.1.1
    have HHB := Lib.hid hHeld.1.2
    clear hHeld
    obtain ⟨c0, c1, c2, c3, c4, y0, y1, y2, y3, y4⟩ := Rw5.row HKB.out
    obtain ⟨d0, d1, d2, d3, d4, _⟩ := Rw5.row HHB.out
    go_wp2
    (try simp only [Exit.inBlock, Exit.then]); refine bodyPost_ret (results_row2 rfl _ _ w.heap.size 57 _ (0, 0) _ rfl (Rw5.blk_set HKB.out _ _ _ _ _) Try.underlying57 rfl info_rcmsg) rfl ?_
    exact ⟨rfl, Rw5.below_set HBR.out (Nat.le_refl _) _ _ _ _ _⟩
  exact AllReadyH.nil
end Go.Proofs.Ytlbnigdindpnfaa.Cc
namespace Go.Proofs.Ytlbnigdindpnfaa.Cc
open Go.RowKit Go.Proofs.Ytlbnigdindpnfaa.Bt Go.Proofs.Ytlbnigdindpnfaa.Mm Go.Proofs.Ytlbnigdindpnfaa.Fl Go.Proofs.Ytlbnigdindpnfaa.Lw Go.Proofs.Ytlbnigdindpnfaa.Hx Go.Proofs.Ytlbnigdindpnfaa.Mc Go.Proofs.Ytlbnigdindpnfaa.Tg Go.Proofs.Ytlbnigdindpnfaa.Oa Go.Proofs.Ytlbnigdindpnfaa.Rp
set_option linter.unusedSimpArgs false
set_option linter.unusedVariables false

set_option maxRecDepth 100000 in
set_option maxHeartbeats 4000000 in
theorem ropen_ok (s cb tl sZ nm : ByteArray) (l v c f o : Nat) (cs : List UInt8) (lv e z1 x2 n4 : Nat) (zb b2 : Bool) (w : World) (ho : openO s.data.toList = (⟨l, v, c, f, o⟩, cs, 0)) (hcb : (⟨cs.toArray⟩ : ByteArray) = cb) (hi : isO ⟨l, v, c, f, o⟩ lv 0 1 70 = 0) (hc1 : 70 ≤ cb.size) (hc2 : cb.size ≤ 70) (hf : f < 256)
    (he : getN cb.data.toList 4 2 = e) (hn4 : getN cb.data.toList 0 4 = n4) (hz1 : f / 8 % 16 = z1) (hx2 : f % 8 = x2) (hb2 : decide ((128 : Int) ≤ (f : Int)) = b2) (ht : cb.extract 54 cb.size = tl) (hnm : cb.extract 6 54 = nm) (hsz : (⟨(noughts 16).toArray⟩ : ByteArray) = sZ) (hz : (tl.toList == sZ.toList) = zb) (hz' : (tl.toList != sZ.toList) = !zb) (he16 : e < 65536) (hn32 : n4 < 4294967296) (h1 : e < 8192) (h2 : z1 = 0) (hzb : zb = true) (h3 : x2 ≠ 0) (h4 : e ≠ 0) :
    Calls Try.prog 20 #[.string s, .int .u8 (lv : Int)] w fun x w' => x = .returned (.tuple #[cmV b2 x2 n4 e nm, .int .i64 ((0 : Nat) : Int)]) ∧ Below w.heap.size w w' := by
  have HO := Lib.hid ho; clear ho
  have HCB := Lib.hid hcb; clear hcb
  have HI := Lib.hid hi; clear hi
  have HE := Lib.hid he; clear he
  have HN4 := Lib.hid hn4; clear hn4
  have HSZ := Lib.hid hsz; clear hsz
  have HCM := Lib.hid (show cb.size ≤ maxLen by unfold maxLen; omega)
  have HC6 := Lib.hid (show 4 + 2 ≤ cb.size by omega)
  have HC4 := Lib.hid (show 0 + 4 ≤ cb.size by omega)
  have m1 : (54 : Int) ≤ (cb.size : Int) := by omega
  have m2 : 54 ≤ cb.size := by omega
  obtain ⟨e8, t1, le8⟩ : ∃ e8 : Nat, (f : Int).tdiv 8 = (e8 : Int) ∧ e8 < 256 := ⟨f / 8, by rw [Int.tdiv_eq_ediv_of_nonneg (by omega)]; omega, by omega⟩
  have t2 : (e8 : Int).tmod 16 = (z1 : Int) := by rw [← t1, Int.tdiv_eq_ediv_of_nonneg (by omega), Int.tmod_eq_emod_of_nonneg (by omega)]; omega
  have t3 : (f : Int).tmod 8 = (x2 : Int) := by rw [Int.tmod_eq_emod_of_nonneg (by omega)]; omega
  have k1 : IntKind.u8.wrap (e8 : Int) = (e8 : Int) := IntWalk.u8_in _ ⟨by omega, by omega⟩
  have k2 : IntKind.u32.wrap (n4 : Int) = (n4 : Int) := IntWalk.u32_in _ ⟨by omega, by omega⟩
  have k3 : IntKind.u16.wrap (e : Int) = (e : Int) := IntWalk.u16_in _ ⟨by omega, by omega⟩
  clear hz1 hx2
  have q1 : decide ((8192 : Int) ≤ (e : Int)) = false := by simp; omega
  have q2 : ((z1 : Int) != 0) = false := neq_f (by omega)
  subst hzb
  clear h1 h2
  have q3 : ((x2 : Int) == 0) = false := nat_eq_f h3
  have q4 : ((e : Int) == 0) = false := nat_eq_f h4
  clear h3 h4
  go_enter Try.func20, Try.ntmps20
  go_wp2_with fail
  refine (Oa.ropen_at s _ HO.out).mono ?_
  rintro x w1 ⟨rfl, hb1⟩
  have HK := Lib.hid ((Blk.fresh w 57 zeroCC).below hb1 (by simp))
  have HNE := Lib.hid (show w.heap.size < w1.heap.size by have := hb1.size; simp at this; omega)
  have HB := Lib.hid (((Below.refl w.heap.size w).alloc (Nat.le_refl _) (.cells zeroCC 57)).trans (hb1.mono (by simp)))
  clear hb1
  simp only [valH]
  rw [HCB.out]
  go_upto_if 18 with (fail)
  have H6 := Lib.hid (HB.out.alloc HB.out.size (.cells (hdC l v c f o) 74))
  have H7 := Lib.hid (HK.out.alloc (.cells (hdC l v c f o) 74))
  have H8 := Lib.hid (Blk.fresh w1 74 (hdC l v c f o))
  generalize w1.alloc (.cells (hdC l v c f o) 74) = w2 at H6 H7 H8 ⊢
  obtain ⟨c0, c1, c2, c3, c4, y0, y1, y2, y3, y4⟩ := Rw5.row H7.out
  obtain ⟨d0, d1, d2, d3, d4, _⟩ := Rw5.row H8.out
  go_wp2_with fail
  refine (ris_any l v c f o lv 0 1 70 _).mono ?_
  rintro x w3 ⟨rfl, hbb⟩
  have HB2 := Lib.hid (H6.out.trans (hbb.mono H6.out.size))
  have HK2 := Lib.hid (H7.out.below hbb H7.out.lt)
  have HH2 := Lib.hid (H8.out.below hbb H8.out.lt)
  rw [HI.out]
  clear hbb c0 c1 c2 c3 c4 y0 y1 y2 y3 y4 d0 d1 d2 d3 d4
  obtain ⟨d0, d1, d2, d3, d4, _⟩ := Rw5.row HH2.out
  go_wp2_with fail
  refine (get_at cb 4 2 _ HE.out HCM.out (by omega) (by omega) HC6.out).mono ?_
  rintro x w4 ⟨rfl, hbb⟩
  have HB4 := Lib.hid (HB2.out.trans (hbb.mono HB2.out.size))
  have HK4 := Lib.hid (HK2.out.below hbb HK2.out.lt)
  have HH4 := Lib.hid (HH2.out.below hbb HH2.out.lt)
  clear hbb d0 d1 d2 d3 d4
  go_upto_region 8 with (fail)
  obtain ⟨wa, hwa⟩ : ∃ wa, wa = w4.drew := ⟨_, rfl⟩
  have HBR := Lib.hid (show Below w.heap.size w wa by rw [hwa]; exact HB4.out.drew)
  have KS := Lib.hid ((Rg.Keeps.one w.heap.size 57 zeroCC).blk w1.heap.size 74 (hdC l v c f o))
  refine wp_region_held_drew (S := fun wx => Blk wx w.heap.size 57 zeroCC ∧ Blk wx w1.heap.size 74 (hdC l v c f o)) (by kernel_rfl) ⟨HK4.out, HH4.out⟩ (fun hHeld => ?_)
  rw [← hwa] at hHeld ⊢
  have HWA := Lib.hid hwa
  clear hwa
  refine Rg.tk 0 (v := ?_) ?_ ?_
  rotate_left
  · (intro wx hSx; go_simp; all_goals with_reducible rfl)
  simp only [Act.put, Rg.e1, Rg.e2, Rg.e3, Rg.e4, Rg.e5, Rg.e6]
  refine Rg.tk 1 (v := ?_) ?_ ?_
  rotate_left
  · (intro wx hSx; go_simp; all_goals with_reducible rfl)
  simp only [Act.put, Rg.e1, Rg.e2, Rg.e3, Rg.e4, Rg.e5, Rg.e6]
  refine Rg.tk 2 (v := ?_) ?_ ?_
  rotate_left
  · (intro wx hSx; go_simp; all_goals with_reducible rfl)
  simp only [Act.put, Rg.e1, Rg.e2, Rg.e3, Rg.e4, Rg.e5, Rg.e6]
  refine Rg.tk 3 (v := ?_) ?_ ?_
  rotate_left
  · (intro wx hSx; go_simp; all_goals with_reducible rfl)
  simp only [Act.put, Rg.e1, Rg.e2, Rg.e3, Rg.e4, Rg.e5, Rg.e6]
  refine Rg.tk 4 (v := ?_) ?_ ?_
  rotate_left
  · intro wx hSx
    obtain ⟨d0, d1, d2, d3, d4, _⟩ := Rw5.row hSx.2; go_simp
    all_goals with_reducible rfl
  simp only [Act.put, Rg.e1, Rg.e2, Rg.e3, Rg.e4, Rg.e5, Rg.e6]
  refine Rg.tk 5 (v := ?_) ?_ ?_
  rotate_left
  · (intro wx hSx; go_simp; all_goals with_reducible rfl)
  simp only [Act.put, Rg.e1, Rg.e2, Rg.e3, Rg.e4, Rg.e5, Rg.e6]
  refine Rg.tk 6 (v := ?_) ?_ ?_
  rotate_left
  · (intro wx hSx; go_simp; all_goals with_reducible rfl)
  simp only [Act.put, Rg.e1, Rg.e2, Rg.e3, Rg.e4, Rg.e5, Rg.e6]
  refine Rg.tk 7 (v := ?_) ?_ ?_
  rotate_left
  · (intro wx hSx; go_simp; all_goals with_reducible rfl)
  simp only [Act.put, Rg.e1, Rg.e2, Rg.e3, Rg.e4, Rg.e5, Rg.e6]
  refine Rg.tk 8 (v := ?_) ?_ ?_
  rotate_left
  · (intro wx hSx; go_simp; all_goals with_reducible rfl)
  simp only [Act.put, Rg.e1, Rg.e2, Rg.e3, Rg.e4, Rg.e5, Rg.e6]
  refine Rg.tk 9 (v := ?_) ?_ ?_
  rotate_left
  · (intro wx hSx; go_simp; all_goals with_reducible rfl)
  simp only [Act.put, Rg.e1, Rg.e2, Rg.e3, Rg.e4, Rg.e5, Rg.e6]
  refine Rg.tk 10 (v := ?_) ?_ ?_
  rotate_left
  · (intro wx hSx; go_simp; all_goals with_reducible rfl)
  simp only [Act.put, Rg.e1, Rg.e2, Rg.e3, Rg.e4, Rg.e5, Rg.e6]
  refine Rg.tk 11 (v := ?_) ?_ ?_
  rotate_left
  · (intro wx hSx; go_simp; all_goals with_reducible rfl)
  simp only [Act.put, Rg.e1, Rg.e2, Rg.e3, Rg.e4, Rg.e5, Rg.e6]
  refine wpAnyH_ready (rs := [12]) (by kernel_rfl) (by simp) ?_
  refine .cons (o := _) rfl (fun K hK => ?_) ?_
  · have hmk := make16 wa
    go_simp
    refine Rg.st_alloc hK hHeld KS.out HBR.out ?_
    clear hK K
    intro wr1 hlt hHeld ks hbr
    have HBR := Lib.hid hbr
    have KS := Lib.hid ks
    clear hbr ks hlt
    try simp only [Rg.e1, Rg.e2, Rg.e3]
    refine Rg.tk 13 (v := ?_) ?_ ?_
    rotate_left
    · intro wx hSx
      have hcv := Rg.back_blk (P := Try.prog) (src := 60) (dst := 9) sZ (noughts 16) 16 16 hSx.2 rfl rfl HSZ.out Try.underlying60 Try.underlying5 Try.underlying9; go_simp
      all_goals with_reducible rfl
    simp only [Act.put, Rg.e1, Rg.e2, Rg.e3, Rg.e4, Rg.e5, Rg.e6]
    refine Rg.tk 14 (v := ?_) ?_ ?_
    rotate_left
    · (intro wx hSx; go_simp; all_goals with_reducible rfl)
    simp only [Act.put, Rg.e1, Rg.e2, Rg.e3, Rg.e4, Rg.e5, Rg.e6]
    refine Rg.tk 15 (v := ?_) ?_ ?_
    rotate_left
    · (intro wx hSx; go_simp; all_goals with_reducible rfl)
    simp only [Act.put, Rg.e1, Rg.e2, Rg.e3, Rg.e4, Rg.e5, Rg.e6]
    refine wpAnyH_done (by kernel_rfl) ?_ _
    have HA := Lib.hid hHeld.1.1
    have HHB := Lib.hid hHeld.1.2
    clear hHeld KS
    obtain ⟨d0, d1, d2, d3, d4, _⟩ := Rw5.row HHB.out
    go_upto_region 12 with (fail)
    obtain ⟨wd, hwd⟩ : ∃ wd, wd = wr1.drew := ⟨_, rfl⟩
    have HBR := Lib.hid (show Below w.heap.size w wd by rw [hwd]; exact HBR.out.drew)
    have HA := Lib.hid (show Blk wd w.heap.size 57 zeroCC by rw [hwd]; exact HA.out.drew)
    have KS := Lib.hid (Rg.Keeps.one w1.heap.size 74 (hdC l v c f o))
    refine wp_region_held_drew (S := fun wx => Blk wx w1.heap.size 74 (hdC l v c f o)) (by kernel_rfl) HHB.out.drew (fun hHeld => ?_)
    rw [← hwd] at hHeld ⊢
    have HWD := Lib.hid hwd
    clear hwd d0 d1 d2 d3 d4
    refine Rg.tk 0 (v := ?_) ?_ ?_
    rotate_left
    · (intro wx hSx; go_simp; all_goals with_reducible rfl)
    simp only [Act.put, Rg.e1, Rg.e2, Rg.e3, Rg.e4, Rg.e5, Rg.e6]
    refine Rg.tk 1 (v := ?_) ?_ ?_
    rotate_left
    · intro wx hSx
      obtain ⟨d0, d1, d2, d3, d4, _⟩ := Rw5.row hSx; go_simp
      all_goals with_reducible rfl
    simp only [Act.put, Rg.e1, Rg.e2, Rg.e3, Rg.e4, Rg.e5, Rg.e6]
    refine Rg.tk 2 (v := ?_) ?_ ?_
    rotate_left
    · (intro wx hSx; go_simp; all_goals with_reducible rfl)
    simp only [Act.put, Rg.e1, Rg.e2, Rg.e3, Rg.e4, Rg.e5, Rg.e6]
    refine Rg.tk 3 (v := ?_) ?_ ?_
    rotate_left
    · (intro wx hSx; go_simp; all_goals with_reducible rfl)
    simp only [Act.put, Rg.e1, Rg.e2, Rg.e3, Rg.e4, Rg.e5, Rg.e6]
    refine Rg.tk 4 (v := ?_) ?_ ?_
    rotate_left
    · intro wx hSx
      obtain ⟨d0, d1, d2, d3, d4, _⟩ := Rw5.row hSx; go_simp
      all_goals with_reducible rfl
    simp only [Act.put, Rg.e1, Rg.e2, Rg.e3, Rg.e4, Rg.e5, Rg.e6]
    refine Rg.tk 5 (v := ?_) ?_ ?_
    rotate_left
    · (intro wx hSx; go_simp; all_goals with_reducible rfl)
    simp only [Act.put, Rg.e1, Rg.e2, Rg.e3, Rg.e4, Rg.e5, Rg.e6]
    refine Rg.tk 6 (v := ?_) ?_ ?_
    rotate_left
    · (intro wx hSx; go_simp; all_goals with_reducible rfl)
    simp only [Act.put, Rg.e1, Rg.e2, Rg.e3, Rg.e4, Rg.e5, Rg.e6]
    refine Rg.tk 9 (v := ?_) ?_ ?_
    rotate_left
    · (intro wx hSx; go_simp; all_goals with_reducible rfl)
    simp only [Act.put, Rg.e1, Rg.e2, Rg.e3, Rg.e4, Rg.e5, Rg.e6]
    refine Rg.tk 10 (v := ?_) ?_ ?_
    rotate_left
    · (intro wx hSx; go_simp; all_goals with_reducible rfl)
    simp only [Act.put, Rg.e1, Rg.e2, Rg.e3, Rg.e4, Rg.e5, Rg.e6]
    refine Rg.tk 11 (v := ?_) ?_ ?_
    rotate_left
    · (intro wx hSx; go_simp; all_goals with_reducible rfl)
    simp only [Act.put, Rg.e1, Rg.e2, Rg.e3, Rg.e4, Rg.e5, Rg.e6]
    refine Rg.tk 12 (v := ?_) ?_ ?_
    rotate_left
    · (intro wx hSx; go_simp; all_goals with_reducible rfl)
    simp only [Act.put, Rg.e1, Rg.e2, Rg.e3, Rg.e4, Rg.e5, Rg.e6]
    refine wpAnyH_ready (rs := [7]) (by kernel_rfl) (by simp) ?_
    refine .cons (o := _) rfl (fun K hK => ?_) ?_
    · go_simp
      refine (get_at cb 0 4 _ HN4.out HCM.out (by omega) (by omega) HC4.out).mono ?_
      rintro x wr1 ⟨rfl, hbc⟩
      go_wp2_with fail
      have HA := Lib.hid (HA.out.below hbc HA.out.lt)
      refine Rg.st_call hK hHeld KS.out HBR.out hbc ?_
      clear hK K
      intro hHeld hbr
      have HBR := Lib.hid hbr
      clear hbr hbc
      try simp only [Rg.e1, Rg.e2, Rg.e3]
      refine Rg.tk 8 (v := ?_) ?_ ?_
      rotate_left
      · (intro wx hSx; go_simp; all_goals with_reducible rfl)
      simp only [Act.put, Rg.e1, Rg.e2, Rg.e3, Rg.e4, Rg.e5, Rg.e6]
      refine Rg.tk 13 (v := ?_) ?_ ?_
      rotate_left
      · (intro wx hSx; go_simp; all_goals with_reducible rfl)
      simp only [Act.put, Rg.e1, Rg.e2, Rg.e3, Rg.e4, Rg.e5, Rg.e6]
      refine wpAnyH_ready (rs := [14]) (by kernel_rfl) (by simp) ?_
      refine .cons (o := _) rfl (fun K hK => ?_) ?_
      · obtain ⟨i0, i1, i2, i3, i4, j0, j1, j2, j3, j4⟩ := Rw5.row HA.out
        go_simp
        refine hK.out _ _ (Rw5.far hHeld (Nat.ne_of_gt HNE.out) _ _ _ _ _) (fun hHeld => ?_)
        clear hK K
        try simp only [Rg.e1, Rg.e2, Rg.e3]
        refine Rg.tk 15 (v := ?_) ?_ ?_
        rotate_left
        · (intro wx hSx; go_simp; all_goals with_reducible rfl)
        simp only [Act.put, Rg.e1, Rg.e2, Rg.e3, Rg.e4, Rg.e5, Rg.e6]
        refine wpAnyH_done (by kernel_rfl) ?_ _
        go_wp2
        (try simp only [Exit.inBlock, Exit.then]); refine bodyPost_ret (results_row2 rfl _ _ w.heap.size 57 _ (0, 0) _ rfl (Rw5.blk_set HA.out _ _ _ _ _) Try.underlying57 rfl info_rcmsg) rfl ?_
        exact ⟨rfl, Rw5.below_set HBR.out (Nat.le_refl _) _ _ _ _ _⟩
      exact AllReadyH.nil
    exact AllReadyH.nil
  exact AllReadyH.nil
theorem ropen_at {m : Cm} {r : Nat} (s : ByteArray) (lv : Nat) (w : World) (h : openC s.data.toList lv = (m, r)) :
    Calls Try.prog 20 #[.string s, .int .u8 (lv : Int)] w fun x w' => x = .returned (.tuple #[valC m, .int .i64 (r : Int)]) ∧ Below w.heap.size w w' := by
  obtain ⟨⟨l, v, c, f, o⟩, cs, k, ho⟩ : ∃ hd cs k, openO s.data.toList = (hd, cs, k) := ⟨_, _, _, rfl⟩
  unfold openC at h
  rw [ho] at h
  simp only at h
  by_cases hk : k ≠ 0
  · rw [if_pos hk] at h
    simp only [Prod.mk.injEq] at h
    obtain ⟨rfl, rfl⟩ := h
    exact ropen_err s _ l v c f o cs k lv w ho rfl hk
  obtain rfl : k = 0 := by simpa using hk
  rw [if_neg hk] at h
  unfold openA at h
  by_cases hi : isO ⟨l, v, c, f, o⟩ lv 0 1 70 ≠ 0
  · rw [if_pos hi] at h
    simp only [Prod.mk.injEq] at h
    obtain ⟨rfl, rfl⟩ := h
    exact ropen_is s _ l v c f o cs 0 lv _ w ho rfl rfl rfl hi
  rw [if_neg hi] at h
  have hi0 : isO ⟨l, v, c, f, o⟩ lv 0 1 70 = 0 := by simpa using hi
  obtain ⟨hlv, hf, hcl⟩ := read_facts ho hi0
  have hsz : (⟨cs.toArray⟩ : ByteArray).size = 70 := by rw [size_mk, hcl]
  generalize htl : (⟨cs.toArray⟩ : ByteArray).extract 54 (⟨cs.toArray⟩ : ByteArray).size = tl
  have htd : tl.data.toList = cs.drop 54 := by rw [← htl, extract_list]
  obtain ⟨zb, hz⟩ : ∃ zb, (tl.toList == (⟨(noughts 16).toArray⟩ : ByteArray).toList) = zb := ⟨_, rfl⟩
  have hz' : (tl.toList != (⟨(noughts 16).toArray⟩ : ByteArray).toList) = !zb := by rw [← hz]; rfl
  have hzi : zb = true ↔ cs.drop 54 = noughts 16 := by
    rw [← hz, beq_iff_eq, Go.ByteArray.toList_eq, Go.ByteArray.toList_eq, htd]
  have hnm : (⟨cs.toArray⟩ : ByteArray).extract 6 54 = ⟨((cs.drop 6).take 48).toArray⟩ := by
    apply ba_ext
    rw [ByteArray.data_extract, Array.toList_extract, List.extract_eq_take_drop]
  have hc4 : getN cs 0 4 < 4294967296 := by have := getN_lt cs 0 4; simpa using this
  have hc2 : getN cs 4 2 < 65536 := by have := getN_lt cs 4 2; simpa using this
  have hb2 : decide ((128 : Int) ≤ (f : Int)) = decide (128 ≤ f) := by rw [Bool.eq_iff_iff]; simp; omega
  by_cases hst : stray ⟨l, v, c, f, o⟩ cs
  · rw [if_pos hst] at h
    simp only [Prod.mk.injEq] at h
    obtain ⟨rfl, rfl⟩ := h
    by_cases h1 : 8192 ≤ getN cs 4 2
    · exact ropen_strayA s _ tl _ _ l v c f o cs lv _ _ _ _ zb _ w ho rfl hi0 (by omega) (by omega) hf rfl rfl rfl rfl hb2 htl hnm rfl hz hz' hc2 hc4 h1
    by_cases h2 : f / 8 % 16 ≠ 0
    · exact ropen_strayB s _ tl _ _ l v c f o cs lv _ _ _ _ zb _ w ho rfl hi0 (by omega) (by omega) hf rfl rfl rfl rfl hb2 htl hnm rfl hz hz' hc2 hc4 (Nat.lt_of_not_le h1) h2
    refine ropen_strayC s _ tl _ _ l v c f o cs lv _ _ _ _ zb _ w ho rfl hi0 (by omega) (by omega) hf rfl rfl rfl rfl hb2 htl hnm rfl hz hz' hc2 hc4 (Nat.lt_of_not_le h1) (by simpa using h2) ?_
    unfold stray at hst
    simp only at hst
    have h8 : cs.drop 54 ≠ noughts 16 := by
      rcases hst with h | h | h
      · exact absurd h h1
      · exact absurd h h2
      · exact h
    cases zb with
    | false => rfl
    | true => exact absurd (hzi.1 rfl) h8
  rw [if_neg hst] at h
  unfold stray at hst
  simp only at hst
  have h1 : f / 8 % 16 = 0 := by omega
  have h2 : getN cs 4 2 < 8192 := by omega
  have h8 : zb = true := by
    by_cases e : cs.drop 54 = noughts 16
    · exact hzi.2 e
    · exact absurd (.inr (.inr e)) hst
  by_cases hp : f % 8 = 0
  · rw [if_pos (.inl hp)] at h
    simp only [Prod.mk.injEq] at h
    obtain ⟨rfl, rfl⟩ := h
    exact ropen_noP s _ tl _ _ l v c f o cs lv _ _ _ _ zb _ w ho rfl hi0 (by omega) (by omega) hf rfl rfl rfl rfl hb2 htl hnm rfl hz hz' hc2 hc4 h2 h1 h8 hp
  by_cases he : getN cs 4 2 = 0
  · rw [if_pos (.inr he)] at h
    simp only [Prod.mk.injEq] at h
    obtain ⟨rfl, rfl⟩ := h
    exact ropen_noE s _ tl _ _ l v c f o cs lv _ _ _ _ zb _ w ho rfl hi0 (by omega) (by omega) hf rfl rfl rfl rfl hb2 htl hnm rfl hz hz' hc2 hc4 h2 h1 h8 hp he
  rw [if_neg (show ¬ (f % 8 = 0 ∨ getN cs 4 2 = 0) by omega)] at h
  simp only [Prod.mk.injEq] at h
  obtain ⟨rfl, rfl⟩ := h
  exact ropen_ok s _ tl _ _ l v c f o cs lv _ _ _ _ zb _ w ho rfl hi0 (by omega) (by omega) hf rfl rfl rfl rfl hb2 htl hnm rfl hz hz' hc2 hc4 h2 h1 h8 hp he
end Go.Proofs.Ytlbnigdindpnfaa.Cc
