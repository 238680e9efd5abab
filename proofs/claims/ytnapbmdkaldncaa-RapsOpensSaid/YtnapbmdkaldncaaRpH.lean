/-
  Contract of the document's Open of a ring's message.
-/
import Derived.Test.YtnapbmdkaldncaaRpG
namespace Go.Proofs.Ytnapbmdkaldncaa.Rp
open Go.RowKit Go.Proofs.Ytnapbmdkaldncaa.Bt Go.Proofs.Ytnapbmdkaldncaa.Mm Go.Proofs.Ytnapbmdkaldncaa.Fl Go.Proofs.Ytnapbmdkaldncaa.Lw Go.Proofs.Ytnapbmdkaldncaa.Hx Go.Proofs.Ytnapbmdkaldncaa.Mc Go.Proofs.Ytnapbmdkaldncaa.Tg Go.Proofs.Ytnapbmdkaldncaa.Oa
set_option linter.unusedSimpArgs false
set_option linter.unusedVariables false

theorem get_at {v : Nat} (s : ByteArray) (a n : Nat) (w : World) (h : getN s.data.toList a n = v) (hs : s.size ≤ maxLen) (hn : 1 ≤ n) (hn8 : n ≤ 8) (h2 : a + n ≤ s.size) :
    Calls Try.prog 38 #[.string s, .int .i64 (a : Int), .int .i64 (n : Int)] w fun e w' => e = .returned (.int .u64 (v : Int)) ∧ Below w.heap.size w w' := by
  rw [← h]; exact get_any s a n w hs hn hn8 h2
set_option maxRecDepth 100000 in
set_option maxHeartbeats 2000000 in
theorem ropen_err (s cb : ByteArray) (l v c f o : Nat) (cs : List UInt8) (k lv : Nat) (w : World) (ho : openO s.data.toList = (⟨l, v, c, f, o⟩, cs, k)) (hcb : (⟨cs.toArray⟩ : ByteArray) = cb) (hk : k ≠ 0) :
    Calls Try.prog 14 #[.string s, .int .u8 (lv : Int)] w fun x w' => x = .returned (.tuple #[zeroMV, .int .i64 (k : Int)]) ∧ Below w.heap.size w w' := by
  have HO := Lib.hid ho; clear ho
  have HCB := Lib.hid hcb; clear hcb
  have q1 : ((k : Int) != 0) = true := neq_t (by omega)
  clear hk
  go_enter Try.func14, Try.ntmps14
  go_wp2_with fail
  refine (Oa.ropen_at s _ HO.out).mono ?_
  rintro x w1 ⟨rfl, hb1⟩
  have HK := Lib.hid ((Blk.fresh w 33 zeroMC).below hb1 (by simp))
  have HB := Lib.hid (((Below.refl w.heap.size w).alloc (Nat.le_refl _) (.cells zeroMC 33)).trans (hb1.mono (by simp)))
  clear hb1
  simp only [valH]
  rw [HCB.out]
  go_upto_if 19 with (fail)
  have H6 := Lib.hid (HB.out.alloc HB.out.size (.cells (hdC l v c f o) 68))
  have H7 := Lib.hid (HK.out.alloc (.cells (hdC l v c f o) 68))
  have H8 := Lib.hid (Blk.fresh w1 68 (hdC l v c f o))
  generalize w1.alloc (.cells (hdC l v c f o) 68) = w2 at H6 H7 H8 ⊢
  obtain ⟨c0, c1, c2, c3, c4, y0, y1, y2, y3, y4⟩ := Rw5.row H7.out
  obtain ⟨d0, d1, d2, d3, d4, _⟩ := Rw5.row H8.out
  go_wp2
  (try simp only [Exit.inBlock, Exit.then]); refine bodyPost_ret (results_row2 rfl _ _ w.heap.size 33 _ (0, 0) _ rfl (Rw5.blk_set H7.out _ _ _ _ _) Try.underlying33 rfl info_rmsg) rfl ?_
  exact ⟨rfl, Rw5.below_set H6.out (Nat.le_refl _) _ _ _ _ _⟩
set_option maxRecDepth 100000 in
set_option maxHeartbeats 2000000 in
theorem ropen_is (s cb : ByteArray) (l v c f o : Nat) (cs : List UInt8) (k lv r : Nat) (w : World) (ho : openO s.data.toList = (⟨l, v, c, f, o⟩, cs, k)) (hcb : (⟨cs.toArray⟩ : ByteArray) = cb) (hk : k = 0) (hi : isO ⟨l, v, c, f, o⟩ lv 1 40 32 = r) (hr : r ≠ 0) :
    Calls Try.prog 14 #[.string s, .int .u8 (lv : Int)] w fun x w' => x = .returned (.tuple #[zeroMV, .int .i64 (r : Int)]) ∧ Below w.heap.size w w' := by
  have HO := Lib.hid ho; clear ho
  have HCB := Lib.hid hcb; clear hcb
  obtain rfl := hk
  have q2 : ((r : Int) != 0) = true := neq_t (by omega)
  have HI := Lib.hid hi
  clear hr hi
  go_enter Try.func14, Try.ntmps14
  go_wp2_with fail
  refine (Oa.ropen_at s _ HO.out).mono ?_
  rintro x w1 ⟨rfl, hb1⟩
  have HK := Lib.hid ((Blk.fresh w 33 zeroMC).below hb1 (by simp))
  have HB := Lib.hid (((Below.refl w.heap.size w).alloc (Nat.le_refl _) (.cells zeroMC 33)).trans (hb1.mono (by simp)))
  clear hb1
  simp only [valH]
  rw [HCB.out]
  go_upto_if 19 with (fail)
  have H6 := Lib.hid (HB.out.alloc HB.out.size (.cells (hdC l v c f o) 68))
  have H7 := Lib.hid (HK.out.alloc (.cells (hdC l v c f o) 68))
  have H8 := Lib.hid (Blk.fresh w1 68 (hdC l v c f o))
  generalize w1.alloc (.cells (hdC l v c f o) 68) = w2 at H6 H7 H8 ⊢
  obtain ⟨c0, c1, c2, c3, c4, y0, y1, y2, y3, y4⟩ := Rw5.row H7.out
  obtain ⟨d0, d1, d2, d3, d4, _⟩ := Rw5.row H8.out
  go_wp2_with fail
  refine (ris_any l v c f o lv 1 40 32 _).mono ?_
  rintro x w3 ⟨rfl, hbb⟩
  have HB2 := Lib.hid (H6.out.trans (hbb.mono H6.out.size))
  have HK2 := Lib.hid (H7.out.below hbb H7.out.lt)
  have HH2 := Lib.hid (H8.out.below hbb H8.out.lt)
  rw [HI.out]
  clear hbb c0 c1 c2 c3 c4 y0 y1 y2 y3 y4 d0 d1 d2 d3 d4
  obtain ⟨c0, c1, c2, c3, c4, y0, y1, y2, y3, y4⟩ := Rw5.row HK2.out
  go_wp2
  (try simp only [Exit.inBlock, Exit.then]); refine bodyPost_ret (results_row2 rfl _ _ w.heap.size 33 _ (0, 0) _ rfl (Rw5.blk_set HK2.out _ _ _ _ _) Try.underlying33 rfl info_rmsg) rfl ?_
  exact ⟨rfl, Rw5.below_set HB2.out (Nat.le_refl _) _ _ _ _ _⟩
set_option maxRecDepth 100000 in
set_option maxHeartbeats 4000000 in
theorem ropen_strayA (s cb tail sZ : ByteArray) (l v c f o : Nat) (cs : List UInt8) (lv a0 a1 q z1 z2 x1 x2 n : Nat) (zb : Bool) (w : World) (ho : openO s.data.toList = (⟨l, v, c, f, o⟩, cs, 0)) (hcb : (⟨cs.toArray⟩ : ByteArray) = cb) (hi : isO ⟨l, v, c, f, o⟩ lv 1 40 32 = 0) (hc1 : 32 ≤ cb.size) (hc2 : cb.size ≤ 32)
    (h0 : (cb[0]).toNat = a0) (h1 : (cb[1]).toNat = a1) (hq : a0 / 16 = q) (hz1 : a0 % 16 = z1) (hz2 : a1 % 32 = z2) (hx1 : a1 / 64 % 2 = x1) (hx2 : a1 / 32 % 2 = x2) (hn : getN cs 2 6 = n)
    (ht : cb.extract 8 cb.size = tail) (hsz : (⟨(noughts 24).toArray⟩ : ByteArray) = sZ) (hz : (tail.toList == sZ.toList) = zb) (hz' : (tail.toList != sZ.toList) = !zb) (ha0 : a0 < 256) (ha1 : a1 < 256) (hf : f ≠ 0) :
    Calls Try.prog 14 #[.string s, .int .u8 (lv : Int)] w fun x w' => x = .returned (.tuple #[zeroMV, .int .i64 ((3 : Nat) : Int)]) ∧ Below w.heap.size w w' := by
  have HO := Lib.hid ho; clear ho
  have HCB := Lib.hid hcb; clear hcb
  have HI := Lib.hid hi; clear hi
  have HN := Lib.hid hn; clear hn
  have HSZ := Lib.hid hsz; clear hsz
  have mm1 : 0 < cb.size := by omega
  have mm2 : 1 < cb.size := by omega
  have mm3 : 8 ≤ cb.size := by omega
  have m1 : (0 : Int) < (cb.size : Int) := by omega
  have m2 : (1 : Int) < (cb.size : Int) := by omega
  have m3 : (8 : Int) ≤ (cb.size : Int) := by omega
  have t0 : (a0 : Int).tdiv 16 = (q : Int) := by rw [Int.tdiv_eq_ediv_of_nonneg (by omega)]; omega
  have t1 : (a0 : Int).tmod 16 = (z1 : Int) := by rw [Int.tmod_eq_emod_of_nonneg (by omega)]; omega
  have t2 : (a1 : Int).tmod 32 = (z2 : Int) := by rw [Int.tmod_eq_emod_of_nonneg (by omega)]; omega
  obtain ⟨e3, t3, le3⟩ : ∃ e3 : Nat, (a1 : Int).tdiv 64 = (e3 : Int) ∧ e3 < 256 := ⟨a1 / 64, by rw [Int.tdiv_eq_ediv_of_nonneg (by omega)]; omega, by omega⟩
  obtain ⟨e4, t4, le4⟩ : ∃ e4 : Nat, (a1 : Int).tdiv 32 = (e4 : Int) ∧ e4 < 256 := ⟨a1 / 32, by rw [Int.tdiv_eq_ediv_of_nonneg (by omega)]; omega, by omega⟩
  have t5 : (e3 : Int).tmod 2 = (x1 : Int) := by rw [← t3, Int.tdiv_eq_ediv_of_nonneg (by omega), Int.tmod_eq_emod_of_nonneg (by omega)]; omega
  have t6 : (e4 : Int).tmod 2 = (x2 : Int) := by rw [← t4, Int.tdiv_eq_ediv_of_nonneg (by omega), Int.tmod_eq_emod_of_nonneg (by omega)]; omega
  have k0 : IntKind.u8.wrap (q : Int) = (q : Int) := IntWalk.u8_in _ ⟨by omega, by omega⟩
  have k3 : IntKind.u8.wrap (e3 : Int) = (e3 : Int) := IntWalk.u8_in _ ⟨by omega, by omega⟩
  have k4 : IntKind.u8.wrap (e4 : Int) = (e4 : Int) := IntWalk.u8_in _ ⟨by omega, by omega⟩
  clear hz1 hz2 hx1 hx2 hq
  have q1 : ((f : Int) != 0) = true := neq_t (by omega)
  clear hf
  go_enter Try.func14, Try.ntmps14
  go_wp2_with fail
  refine (Oa.ropen_at s _ HO.out).mono ?_
  rintro x w1 ⟨rfl, hb1⟩
  have HK := Lib.hid ((Blk.fresh w 33 zeroMC).below hb1 (by simp))
  have HB := Lib.hid (((Below.refl w.heap.size w).alloc (Nat.le_refl _) (.cells zeroMC 33)).trans (hb1.mono (by simp)))
  clear hb1
  simp only [valH]
  rw [HCB.out]
  go_upto_if 19 with (fail)
  have H6 := Lib.hid (HB.out.alloc HB.out.size (.cells (hdC l v c f o) 68))
  have H7 := Lib.hid (HK.out.alloc (.cells (hdC l v c f o) 68))
  have H8 := Lib.hid (Blk.fresh w1 68 (hdC l v c f o))
  generalize w1.alloc (.cells (hdC l v c f o) 68) = w2 at H6 H7 H8 ⊢
  obtain ⟨c0, c1, c2, c3, c4, y0, y1, y2, y3, y4⟩ := Rw5.row H7.out
  obtain ⟨d0, d1, d2, d3, d4, _⟩ := Rw5.row H8.out
  go_wp2_with fail
  refine (ris_any l v c f o lv 1 40 32 _).mono ?_
  rintro x w3 ⟨rfl, hbb⟩
  have HB2 := Lib.hid (H6.out.trans (hbb.mono H6.out.size))
  have HK2 := Lib.hid (H7.out.below hbb H7.out.lt)
  have HH2 := Lib.hid (H8.out.below hbb H8.out.lt)
  rw [HI.out]
  clear hbb c0 c1 c2 c3 c4 y0 y1 y2 y3 y4 d0 d1 d2 d3 d4
  go_upto_region 7 with (fail)
  obtain ⟨wa, hwa⟩ : ∃ wa, wa = w3.drew := ⟨_, rfl⟩
  have HKA := Lib.hid (show Blk wa w.heap.size 33 zeroMC by rw [hwa]; exact HK2.out.drew)
  have HHA := Lib.hid (show Blk wa w1.heap.size 68 (hdC l v c f o) by rw [hwa]; exact HH2.out.drew)
  have HBA := Lib.hid (show Below w.heap.size w wa by rw [hwa]; exact HB2.out.drew)
  have HBR := Lib.hid HBA.out
  have KS := Lib.hid ((Rg.Keeps.one w.heap.size 33 zeroMC).blk w1.heap.size 68 (hdC l v c f o))
  refine wp_region_held_drew (S := fun wx => Blk wx w.heap.size 33 zeroMC ∧ Blk wx w1.heap.size 68 (hdC l v c f o)) (by kernel_rfl) ⟨HK2.out, HH2.out⟩ (fun hHeld => ?_)
  rw [← hwa] at hHeld ⊢
  have HWA := Lib.hid hwa
  clear hwa
  refine wpAnyH_take (i := 0) (oi := _) (v := ?_) rfl (by kernel_rfl) (by kernel_rfl) (by kernel_rfl) (fun _ _ _ h => h) (Or.inl ⟨by rfl, ?_⟩) (by assumption) ?_
  rotate_left
  · intro wx hSx
    go_simp
    all_goals with_reducible rfl
  simp only [Act.put, List.setIfInBounds_toArray, List.set_cons_zero, List.set_cons_succ, List.getElem_toArray, List.getElem_cons_zero, List.getElem_cons_succ]
  refine wpAnyH_take (i := 1) (oi := _) (v := ?_) rfl (by kernel_rfl) (by kernel_rfl) (by kernel_rfl) (fun _ _ _ h => h) (Or.inl ⟨by rfl, ?_⟩) (by assumption) ?_
  rotate_left
  · intro wx hSx
    obtain ⟨d0, d1, d2, d3, d4, _⟩ := Rw5.row hSx.2; go_simp
    all_goals with_reducible rfl
  simp only [Act.put, List.setIfInBounds_toArray, List.set_cons_zero, List.set_cons_succ, List.getElem_toArray, List.getElem_cons_zero, List.getElem_cons_succ]
  refine wpAnyH_take (i := 2) (oi := _) (v := ?_) rfl (by kernel_rfl) (by kernel_rfl) (by kernel_rfl) (fun _ _ _ h => h) (Or.inl ⟨by rfl, ?_⟩) (by assumption) ?_
  rotate_left
  · intro wx hSx
    go_simp
    all_goals with_reducible rfl
  simp only [Act.put, List.setIfInBounds_toArray, List.set_cons_zero, List.set_cons_succ, List.getElem_toArray, List.getElem_cons_zero, List.getElem_cons_succ]
  refine wpAnyH_take (i := 3) (oi := _) (v := ?_) rfl (by kernel_rfl) (by kernel_rfl) (by kernel_rfl) (fun _ _ _ h => h) (Or.inl ⟨by rfl, ?_⟩) (by assumption) ?_
  rotate_left
  · intro wx hSx
    go_simp
    all_goals with_reducible rfl
  simp only [Act.put, List.setIfInBounds_toArray, List.set_cons_zero, List.set_cons_succ, List.getElem_toArray, List.getElem_cons_zero, List.getElem_cons_succ]
  refine wpAnyH_take (i := 4) (oi := _) (v := undef) rfl (by kernel_rfl) (by kernel_rfl) (by kernel_rfl) (fun _ _ _ h => h) (Or.inr ⟨by rfl, rfl⟩) (by assumption) ?_
  simp only [Act.put, List.setIfInBounds_toArray, List.set_cons_zero, List.set_cons_succ, List.getElem_toArray, List.getElem_cons_zero, List.getElem_cons_succ]
  refine wpAnyH_take (i := 5) (oi := _) (v := undef) rfl (by kernel_rfl) (by kernel_rfl) (by kernel_rfl) (fun _ _ _ h => h) (Or.inr ⟨by rfl, rfl⟩) (by assumption) ?_
  simp only [Act.put, List.setIfInBounds_toArray, List.set_cons_zero, List.set_cons_succ, List.getElem_toArray, List.getElem_cons_zero, List.getElem_cons_succ]
  refine wpAnyH_take (i := 6) (oi := _) (v := undef) rfl (by kernel_rfl) (by kernel_rfl) (by kernel_rfl) (fun _ _ _ h => h) (Or.inr ⟨by rfl, rfl⟩) (by assumption) ?_
  simp only [Act.put, List.setIfInBounds_toArray, List.set_cons_zero, List.set_cons_succ, List.getElem_toArray, List.getElem_cons_zero, List.getElem_cons_succ]
  refine wpAnyH_take (i := 7) (oi := _) (v := undef) rfl (by kernel_rfl) (by kernel_rfl) (by kernel_rfl) (fun _ _ _ h => h) (Or.inr ⟨by rfl, rfl⟩) (by assumption) ?_
  simp only [Act.put, List.setIfInBounds_toArray, List.set_cons_zero, List.set_cons_succ, List.getElem_toArray, List.getElem_cons_zero, List.getElem_cons_succ]
  refine wpAnyH_take (i := 8) (oi := _) (v := ?_) rfl (by kernel_rfl) (by kernel_rfl) (by kernel_rfl) (fun _ _ _ h => h) (Or.inl ⟨by rfl, ?_⟩) (by assumption) ?_
  rotate_left
  · intro wx hSx
    go_simp
    all_goals with_reducible rfl
  simp only [Act.put, List.setIfInBounds_toArray, List.set_cons_zero, List.set_cons_succ, List.getElem_toArray, List.getElem_cons_zero, List.getElem_cons_succ]
  refine wpAnyH_take (i := 9) (oi := _) (v := ?_) rfl (by kernel_rfl) (by kernel_rfl) (by kernel_rfl) (fun _ _ _ h => h) (Or.inl ⟨by rfl, ?_⟩) (by assumption) ?_
  rotate_left
  · intro wx hSx
    go_simp
    all_goals with_reducible rfl
  simp only [Act.put, List.setIfInBounds_toArray, List.set_cons_zero, List.set_cons_succ, List.getElem_toArray, List.getElem_cons_zero, List.getElem_cons_succ]
  refine wpAnyH_take (i := 10) (oi := _) (v := undef) rfl (by kernel_rfl) (by kernel_rfl) (by kernel_rfl) (fun _ _ _ h => h) (Or.inr ⟨by rfl, rfl⟩) (by assumption) ?_
  simp only [Act.put, List.setIfInBounds_toArray, List.set_cons_zero, List.set_cons_succ, List.getElem_toArray, List.getElem_cons_zero, List.getElem_cons_succ]
  refine wpAnyH_take (i := 11) (oi := _) (v := undef) rfl (by kernel_rfl) (by kernel_rfl) (by kernel_rfl) (fun _ _ _ h => h) (Or.inr ⟨by rfl, rfl⟩) (by assumption) ?_
  simp only [Act.put, List.setIfInBounds_toArray, List.set_cons_zero, List.set_cons_succ, List.getElem_toArray, List.getElem_cons_zero, List.getElem_cons_succ]
  refine wpAnyH_take (i := 12) (oi := _) (v := undef) rfl (by kernel_rfl) (by kernel_rfl) (by kernel_rfl) (fun _ _ _ h => h) (Or.inr ⟨by rfl, rfl⟩) (by assumption) ?_
  simp only [Act.put, List.setIfInBounds_toArray, List.set_cons_zero, List.set_cons_succ, List.getElem_toArray, List.getElem_cons_zero, List.getElem_cons_succ]
  refine wpAnyH_take (i := 13) (oi := _) (v := undef) rfl (by kernel_rfl) (by kernel_rfl) (by kernel_rfl) (fun _ _ _ h => h) (Or.inr ⟨by rfl, rfl⟩) (by assumption) ?_
  simp only [Act.put, List.setIfInBounds_toArray, List.set_cons_zero, List.set_cons_succ, List.getElem_toArray, List.getElem_cons_zero, List.getElem_cons_succ]
  refine wpAnyH_take (i := 14) (oi := _) (v := ?_) rfl (by kernel_rfl) (by kernel_rfl) (by kernel_rfl) (fun _ _ _ h => h) (Or.inl ⟨by rfl, ?_⟩) (by assumption) ?_
  rotate_left
  · intro wx hSx
    go_simp
    all_goals with_reducible rfl
  simp only [Act.put, List.setIfInBounds_toArray, List.set_cons_zero, List.set_cons_succ, List.getElem_toArray, List.getElem_cons_zero, List.getElem_cons_succ]
  refine wpAnyH_take (i := 15) (oi := _) (v := ?_) rfl (by kernel_rfl) (by kernel_rfl) (by kernel_rfl) (fun _ _ _ h => h) (Or.inl ⟨by rfl, ?_⟩) (by assumption) ?_
  rotate_left
  · intro wx hSx
    go_simp
    all_goals with_reducible rfl
  simp only [Act.put, List.setIfInBounds_toArray, List.set_cons_zero, List.set_cons_succ, List.getElem_toArray, List.getElem_cons_zero, List.getElem_cons_succ]
  refine wpAnyH_take (i := 16) (oi := _) (v := undef) rfl (by kernel_rfl) (by kernel_rfl) (by kernel_rfl) (fun _ _ _ h => h) (Or.inr ⟨by rfl, rfl⟩) (by assumption) ?_
  simp only [Act.put, List.setIfInBounds_toArray, List.set_cons_zero, List.set_cons_succ, List.getElem_toArray, List.getElem_cons_zero, List.getElem_cons_succ]
  refine wpAnyH_take (i := 17) (oi := _) (v := undef) rfl (by kernel_rfl) (by kernel_rfl) (by kernel_rfl) (fun _ _ _ h => h) (Or.inr ⟨by rfl, rfl⟩) (by assumption) ?_
  simp only [Act.put, List.setIfInBounds_toArray, List.set_cons_zero, List.set_cons_succ, List.getElem_toArray, List.getElem_cons_zero, List.getElem_cons_succ]
  refine wpAnyH_take (i := 18) (oi := _) (v := undef) rfl (by kernel_rfl) (by kernel_rfl) (by kernel_rfl) (fun _ _ _ h => h) (Or.inr ⟨by rfl, rfl⟩) (by assumption) ?_
  simp only [Act.put, List.setIfInBounds_toArray, List.set_cons_zero, List.set_cons_succ, List.getElem_toArray, List.getElem_cons_zero, List.getElem_cons_succ]
  refine wpAnyH_take (i := 19) (oi := _) (v := undef) rfl (by kernel_rfl) (by kernel_rfl) (by kernel_rfl) (fun _ _ _ h => h) (Or.inr ⟨by rfl, rfl⟩) (by assumption) ?_
  simp only [Act.put, List.setIfInBounds_toArray, List.set_cons_zero, List.set_cons_succ, List.getElem_toArray, List.getElem_cons_zero, List.getElem_cons_succ]
  refine wpAnyH_take (i := 20) (oi := _) (v := undef) rfl (by kernel_rfl) (by kernel_rfl) (by kernel_rfl) (fun _ _ _ h => h) (Or.inr ⟨by rfl, rfl⟩) (by assumption) ?_
  simp only [Act.put, List.setIfInBounds_toArray, List.set_cons_zero, List.set_cons_succ, List.getElem_toArray, List.getElem_cons_zero, List.getElem_cons_succ]
  refine wpAnyH_take (i := 21) (oi := _) (v := ?_) rfl (by kernel_rfl) (by kernel_rfl) (by kernel_rfl) (fun _ _ _ h => h) (Or.inl ⟨by rfl, ?_⟩) (by assumption) ?_
  rotate_left
  · intro wx hSx
    go_simp
    all_goals with_reducible rfl
  simp only [Act.put, List.setIfInBounds_toArray, List.set_cons_zero, List.set_cons_succ, List.getElem_toArray, List.getElem_cons_zero, List.getElem_cons_succ]
  refine wpAnyH_done (by kernel_rfl) ?_ _
  obtain ⟨c0, c1, c2, c3, c4, y0, y1, y2, y3, y4⟩ := Rw5.row HKA.out
  go_wp2
  (try simp only [Exit.inBlock, Exit.then]); refine bodyPost_ret (results_row2 rfl _ _ w.heap.size 33 _ (0, 0) _ rfl (Rw5.blk_set HKA.out _ _ _ _ _) Try.underlying33 rfl info_rmsg) rfl ?_
  exact ⟨rfl, Rw5.below_set HBA.out (Nat.le_refl _) _ _ _ _ _⟩
set_option maxRecDepth 100000 in
set_option maxHeartbeats 4000000 in
theorem ropen_strayB (s cb tail sZ : ByteArray) (l v c f o : Nat) (cs : List UInt8) (lv a0 a1 q z1 z2 x1 x2 n : Nat) (zb : Bool) (w : World) (ho : openO s.data.toList = (⟨l, v, c, f, o⟩, cs, 0)) (hcb : (⟨cs.toArray⟩ : ByteArray) = cb) (hi : isO ⟨l, v, c, f, o⟩ lv 1 40 32 = 0) (hc1 : 32 ≤ cb.size) (hc2 : cb.size ≤ 32)
    (h0 : (cb[0]).toNat = a0) (h1 : (cb[1]).toNat = a1) (hq : a0 / 16 = q) (hz1 : a0 % 16 = z1) (hz2 : a1 % 32 = z2) (hx1 : a1 / 64 % 2 = x1) (hx2 : a1 / 32 % 2 = x2) (hn : getN cs 2 6 = n)
    (ht : cb.extract 8 cb.size = tail) (hsz : (⟨(noughts 24).toArray⟩ : ByteArray) = sZ) (hz : (tail.toList == sZ.toList) = zb) (hz' : (tail.toList != sZ.toList) = !zb) (ha0 : a0 < 256) (ha1 : a1 < 256) (hf : f = 0) (hy : z1 ≠ 0) :
    Calls Try.prog 14 #[.string s, .int .u8 (lv : Int)] w fun x w' => x = .returned (.tuple #[zeroMV, .int .i64 ((3 : Nat) : Int)]) ∧ Below w.heap.size w w' := by
  have HO := Lib.hid ho; clear ho
  have HCB := Lib.hid hcb; clear hcb
  have HI := Lib.hid hi; clear hi
  have HN := Lib.hid hn; clear hn
  have HSZ := Lib.hid hsz; clear hsz
  have mm1 : 0 < cb.size := by omega
  have mm2 : 1 < cb.size := by omega
  have mm3 : 8 ≤ cb.size := by omega
  have m1 : (0 : Int) < (cb.size : Int) := by omega
  have m2 : (1 : Int) < (cb.size : Int) := by omega
  have m3 : (8 : Int) ≤ (cb.size : Int) := by omega
  have t0 : (a0 : Int).tdiv 16 = (q : Int) := by rw [Int.tdiv_eq_ediv_of_nonneg (by omega)]; omega
  have t1 : (a0 : Int).tmod 16 = (z1 : Int) := by rw [Int.tmod_eq_emod_of_nonneg (by omega)]; omega
  have t2 : (a1 : Int).tmod 32 = (z2 : Int) := by rw [Int.tmod_eq_emod_of_nonneg (by omega)]; omega
  obtain ⟨e3, t3, le3⟩ : ∃ e3 : Nat, (a1 : Int).tdiv 64 = (e3 : Int) ∧ e3 < 256 := ⟨a1 / 64, by rw [Int.tdiv_eq_ediv_of_nonneg (by omega)]; omega, by omega⟩
  obtain ⟨e4, t4, le4⟩ : ∃ e4 : Nat, (a1 : Int).tdiv 32 = (e4 : Int) ∧ e4 < 256 := ⟨a1 / 32, by rw [Int.tdiv_eq_ediv_of_nonneg (by omega)]; omega, by omega⟩
  have t5 : (e3 : Int).tmod 2 = (x1 : Int) := by rw [← t3, Int.tdiv_eq_ediv_of_nonneg (by omega), Int.tmod_eq_emod_of_nonneg (by omega)]; omega
  have t6 : (e4 : Int).tmod 2 = (x2 : Int) := by rw [← t4, Int.tdiv_eq_ediv_of_nonneg (by omega), Int.tmod_eq_emod_of_nonneg (by omega)]; omega
  have k0 : IntKind.u8.wrap (q : Int) = (q : Int) := IntWalk.u8_in _ ⟨by omega, by omega⟩
  have k3 : IntKind.u8.wrap (e3 : Int) = (e3 : Int) := IntWalk.u8_in _ ⟨by omega, by omega⟩
  have k4 : IntKind.u8.wrap (e4 : Int) = (e4 : Int) := IntWalk.u8_in _ ⟨by omega, by omega⟩
  clear hz1 hz2 hx1 hx2 hq
  have q1 : ((f : Int) != 0) = false := neq_f (by omega)
  have q2 : ((z1 : Int) != 0) = true := neq_t (by omega)
  clear hf hy
  go_enter Try.func14, Try.ntmps14
  go_wp2_with fail
  refine (Oa.ropen_at s _ HO.out).mono ?_
  rintro x w1 ⟨rfl, hb1⟩
  have HK := Lib.hid ((Blk.fresh w 33 zeroMC).below hb1 (by simp))
  have HB := Lib.hid (((Below.refl w.heap.size w).alloc (Nat.le_refl _) (.cells zeroMC 33)).trans (hb1.mono (by simp)))
  clear hb1
  simp only [valH]
  rw [HCB.out]
  go_upto_if 19 with (fail)
  have H6 := Lib.hid (HB.out.alloc HB.out.size (.cells (hdC l v c f o) 68))
  have H7 := Lib.hid (HK.out.alloc (.cells (hdC l v c f o) 68))
  have H8 := Lib.hid (Blk.fresh w1 68 (hdC l v c f o))
  generalize w1.alloc (.cells (hdC l v c f o) 68) = w2 at H6 H7 H8 ⊢
  obtain ⟨c0, c1, c2, c3, c4, y0, y1, y2, y3, y4⟩ := Rw5.row H7.out
  obtain ⟨d0, d1, d2, d3, d4, _⟩ := Rw5.row H8.out
  go_wp2_with fail
  refine (ris_any l v c f o lv 1 40 32 _).mono ?_
  rintro x w3 ⟨rfl, hbb⟩
  have HB2 := Lib.hid (H6.out.trans (hbb.mono H6.out.size))
  have HK2 := Lib.hid (H7.out.below hbb H7.out.lt)
  have HH2 := Lib.hid (H8.out.below hbb H8.out.lt)
  rw [HI.out]
  clear hbb c0 c1 c2 c3 c4 y0 y1 y2 y3 y4 d0 d1 d2 d3 d4
  go_upto_region 7 with (fail)
  obtain ⟨wa, hwa⟩ : ∃ wa, wa = w3.drew := ⟨_, rfl⟩
  have HKA := Lib.hid (show Blk wa w.heap.size 33 zeroMC by rw [hwa]; exact HK2.out.drew)
  have HHA := Lib.hid (show Blk wa w1.heap.size 68 (hdC l v c f o) by rw [hwa]; exact HH2.out.drew)
  have HBA := Lib.hid (show Below w.heap.size w wa by rw [hwa]; exact HB2.out.drew)
  have HBR := Lib.hid HBA.out
  have KS := Lib.hid ((Rg.Keeps.one w.heap.size 33 zeroMC).blk w1.heap.size 68 (hdC l v c f o))
  refine wp_region_held_drew (S := fun wx => Blk wx w.heap.size 33 zeroMC ∧ Blk wx w1.heap.size 68 (hdC l v c f o)) (by kernel_rfl) ⟨HK2.out, HH2.out⟩ (fun hHeld => ?_)
  rw [← hwa] at hHeld ⊢
  have HWA := Lib.hid hwa
  clear hwa
  refine wpAnyH_take (i := 0) (oi := _) (v := ?_) rfl (by kernel_rfl) (by kernel_rfl) (by kernel_rfl) (fun _ _ _ h => h) (Or.inl ⟨by rfl, ?_⟩) (by assumption) ?_
  rotate_left
  · intro wx hSx
    go_simp
    all_goals with_reducible rfl
  simp only [Act.put, List.setIfInBounds_toArray, List.set_cons_zero, List.set_cons_succ, List.getElem_toArray, List.getElem_cons_zero, List.getElem_cons_succ]
  refine wpAnyH_take (i := 1) (oi := _) (v := ?_) rfl (by kernel_rfl) (by kernel_rfl) (by kernel_rfl) (fun _ _ _ h => h) (Or.inl ⟨by rfl, ?_⟩) (by assumption) ?_
  rotate_left
  · intro wx hSx
    obtain ⟨d0, d1, d2, d3, d4, _⟩ := Rw5.row hSx.2; go_simp
    all_goals with_reducible rfl
  simp only [Act.put, List.setIfInBounds_toArray, List.set_cons_zero, List.set_cons_succ, List.getElem_toArray, List.getElem_cons_zero, List.getElem_cons_succ]
  refine wpAnyH_take (i := 2) (oi := _) (v := ?_) rfl (by kernel_rfl) (by kernel_rfl) (by kernel_rfl) (fun _ _ _ h => h) (Or.inl ⟨by rfl, ?_⟩) (by assumption) ?_
  rotate_left
  · intro wx hSx
    go_simp
    all_goals with_reducible rfl
  simp only [Act.put, List.setIfInBounds_toArray, List.set_cons_zero, List.set_cons_succ, List.getElem_toArray, List.getElem_cons_zero, List.getElem_cons_succ]
  refine wpAnyH_take (i := 3) (oi := _) (v := ?_) rfl (by kernel_rfl) (by kernel_rfl) (by kernel_rfl) (fun _ _ _ h => h) (Or.inl ⟨by rfl, ?_⟩) (by assumption) ?_
  rotate_left
  · intro wx hSx
    go_simp
    all_goals with_reducible rfl
  simp only [Act.put, List.setIfInBounds_toArray, List.set_cons_zero, List.set_cons_succ, List.getElem_toArray, List.getElem_cons_zero, List.getElem_cons_succ]
  refine wpAnyH_take (i := 4) (oi := _) (v := ?_) rfl (by kernel_rfl) (by kernel_rfl) (by kernel_rfl) (fun _ _ _ h => h) (Or.inl ⟨by rfl, ?_⟩) (by assumption) ?_
  rotate_left
  · intro wx hSx
    go_simp
    all_goals with_reducible rfl
  simp only [Act.put, List.setIfInBounds_toArray, List.set_cons_zero, List.set_cons_succ, List.getElem_toArray, List.getElem_cons_zero, List.getElem_cons_succ]
  refine wpAnyH_take (i := 5) (oi := _) (v := ?_) rfl (by kernel_rfl) (by kernel_rfl) (by kernel_rfl) (fun _ _ _ h => h) (Or.inl ⟨by rfl, ?_⟩) (by assumption) ?_
  rotate_left
  · intro wx hSx
    go_simp
    all_goals with_reducible rfl
  simp only [Act.put, List.setIfInBounds_toArray, List.set_cons_zero, List.set_cons_succ, List.getElem_toArray, List.getElem_cons_zero, List.getElem_cons_succ]
  refine wpAnyH_take (i := 6) (oi := _) (v := ?_) rfl (by kernel_rfl) (by kernel_rfl) (by kernel_rfl) (fun _ _ _ h => h) (Or.inl ⟨by rfl, ?_⟩) (by assumption) ?_
  rotate_left
  · intro wx hSx
    go_simp
    all_goals with_reducible rfl
  simp only [Act.put, List.setIfInBounds_toArray, List.set_cons_zero, List.set_cons_succ, List.getElem_toArray, List.getElem_cons_zero, List.getElem_cons_succ]
  refine wpAnyH_take (i := 7) (oi := _) (v := ?_) rfl (by kernel_rfl) (by kernel_rfl) (by kernel_rfl) (fun _ _ _ h => h) (Or.inl ⟨by rfl, ?_⟩) (by assumption) ?_
  rotate_left
  · intro wx hSx
    go_simp
    all_goals with_reducible rfl
  simp only [Act.put, List.setIfInBounds_toArray, List.set_cons_zero, List.set_cons_succ, List.getElem_toArray, List.getElem_cons_zero, List.getElem_cons_succ]
  refine wpAnyH_take (i := 8) (oi := _) (v := ?_) rfl (by kernel_rfl) (by kernel_rfl) (by kernel_rfl) (fun _ _ _ h => h) (Or.inl ⟨by rfl, ?_⟩) (by assumption) ?_
  rotate_left
  · intro wx hSx
    go_simp
    all_goals with_reducible rfl
  simp only [Act.put, List.setIfInBounds_toArray, List.set_cons_zero, List.set_cons_succ, List.getElem_toArray, List.getElem_cons_zero, List.getElem_cons_succ]
  refine wpAnyH_take (i := 9) (oi := _) (v := ?_) rfl (by kernel_rfl) (by kernel_rfl) (by kernel_rfl) (fun _ _ _ h => h) (Or.inl ⟨by rfl, ?_⟩) (by assumption) ?_
  rotate_left
  · intro wx hSx
    go_simp
    all_goals with_reducible rfl
  simp only [Act.put, List.setIfInBounds_toArray, List.set_cons_zero, List.set_cons_succ, List.getElem_toArray, List.getElem_cons_zero, List.getElem_cons_succ]
  refine wpAnyH_take (i := 10) (oi := _) (v := undef) rfl (by kernel_rfl) (by kernel_rfl) (by kernel_rfl) (fun _ _ _ h => h) (Or.inr ⟨by rfl, rfl⟩) (by assumption) ?_
  simp only [Act.put, List.setIfInBounds_toArray, List.set_cons_zero, List.set_cons_succ, List.getElem_toArray, List.getElem_cons_zero, List.getElem_cons_succ]
  refine wpAnyH_take (i := 11) (oi := _) (v := undef) rfl (by kernel_rfl) (by kernel_rfl) (by kernel_rfl) (fun _ _ _ h => h) (Or.inr ⟨by rfl, rfl⟩) (by assumption) ?_
  simp only [Act.put, List.setIfInBounds_toArray, List.set_cons_zero, List.set_cons_succ, List.getElem_toArray, List.getElem_cons_zero, List.getElem_cons_succ]
  refine wpAnyH_take (i := 12) (oi := _) (v := undef) rfl (by kernel_rfl) (by kernel_rfl) (by kernel_rfl) (fun _ _ _ h => h) (Or.inr ⟨by rfl, rfl⟩) (by assumption) ?_
  simp only [Act.put, List.setIfInBounds_toArray, List.set_cons_zero, List.set_cons_succ, List.getElem_toArray, List.getElem_cons_zero, List.getElem_cons_succ]
  refine wpAnyH_take (i := 13) (oi := _) (v := undef) rfl (by kernel_rfl) (by kernel_rfl) (by kernel_rfl) (fun _ _ _ h => h) (Or.inr ⟨by rfl, rfl⟩) (by assumption) ?_
  simp only [Act.put, List.setIfInBounds_toArray, List.set_cons_zero, List.set_cons_succ, List.getElem_toArray, List.getElem_cons_zero, List.getElem_cons_succ]
  refine wpAnyH_take (i := 14) (oi := _) (v := ?_) rfl (by kernel_rfl) (by kernel_rfl) (by kernel_rfl) (fun _ _ _ h => h) (Or.inl ⟨by rfl, ?_⟩) (by assumption) ?_
  rotate_left
  · intro wx hSx
    go_simp
    all_goals with_reducible rfl
  simp only [Act.put, List.setIfInBounds_toArray, List.set_cons_zero, List.set_cons_succ, List.getElem_toArray, List.getElem_cons_zero, List.getElem_cons_succ]
  refine wpAnyH_take (i := 15) (oi := _) (v := ?_) rfl (by kernel_rfl) (by kernel_rfl) (by kernel_rfl) (fun _ _ _ h => h) (Or.inl ⟨by rfl, ?_⟩) (by assumption) ?_
  rotate_left
  · intro wx hSx
    go_simp
    all_goals with_reducible rfl
  simp only [Act.put, List.setIfInBounds_toArray, List.set_cons_zero, List.set_cons_succ, List.getElem_toArray, List.getElem_cons_zero, List.getElem_cons_succ]
  refine wpAnyH_take (i := 16) (oi := _) (v := undef) rfl (by kernel_rfl) (by kernel_rfl) (by kernel_rfl) (fun _ _ _ h => h) (Or.inr ⟨by rfl, rfl⟩) (by assumption) ?_
  simp only [Act.put, List.setIfInBounds_toArray, List.set_cons_zero, List.set_cons_succ, List.getElem_toArray, List.getElem_cons_zero, List.getElem_cons_succ]
  refine wpAnyH_take (i := 17) (oi := _) (v := undef) rfl (by kernel_rfl) (by kernel_rfl) (by kernel_rfl) (fun _ _ _ h => h) (Or.inr ⟨by rfl, rfl⟩) (by assumption) ?_
  simp only [Act.put, List.setIfInBounds_toArray, List.set_cons_zero, List.set_cons_succ, List.getElem_toArray, List.getElem_cons_zero, List.getElem_cons_succ]
  refine wpAnyH_take (i := 18) (oi := _) (v := undef) rfl (by kernel_rfl) (by kernel_rfl) (by kernel_rfl) (fun _ _ _ h => h) (Or.inr ⟨by rfl, rfl⟩) (by assumption) ?_
  simp only [Act.put, List.setIfInBounds_toArray, List.set_cons_zero, List.set_cons_succ, List.getElem_toArray, List.getElem_cons_zero, List.getElem_cons_succ]
  refine wpAnyH_take (i := 19) (oi := _) (v := undef) rfl (by kernel_rfl) (by kernel_rfl) (by kernel_rfl) (fun _ _ _ h => h) (Or.inr ⟨by rfl, rfl⟩) (by assumption) ?_
  simp only [Act.put, List.setIfInBounds_toArray, List.set_cons_zero, List.set_cons_succ, List.getElem_toArray, List.getElem_cons_zero, List.getElem_cons_succ]
  refine wpAnyH_take (i := 20) (oi := _) (v := undef) rfl (by kernel_rfl) (by kernel_rfl) (by kernel_rfl) (fun _ _ _ h => h) (Or.inr ⟨by rfl, rfl⟩) (by assumption) ?_
  simp only [Act.put, List.setIfInBounds_toArray, List.set_cons_zero, List.set_cons_succ, List.getElem_toArray, List.getElem_cons_zero, List.getElem_cons_succ]
  refine wpAnyH_take (i := 21) (oi := _) (v := ?_) rfl (by kernel_rfl) (by kernel_rfl) (by kernel_rfl) (fun _ _ _ h => h) (Or.inl ⟨by rfl, ?_⟩) (by assumption) ?_
  rotate_left
  · intro wx hSx
    go_simp
    all_goals with_reducible rfl
  simp only [Act.put, List.setIfInBounds_toArray, List.set_cons_zero, List.set_cons_succ, List.getElem_toArray, List.getElem_cons_zero, List.getElem_cons_succ]
  refine wpAnyH_done (by kernel_rfl) ?_ _
  obtain ⟨c0, c1, c2, c3, c4, y0, y1, y2, y3, y4⟩ := Rw5.row HKA.out
  go_wp2
  (try simp only [Exit.inBlock, Exit.then]); refine bodyPost_ret (results_row2 rfl _ _ w.heap.size 33 _ (0, 0) _ rfl (Rw5.blk_set HKA.out _ _ _ _ _) Try.underlying33 rfl info_rmsg) rfl ?_
  exact ⟨rfl, Rw5.below_set HBA.out (Nat.le_refl _) _ _ _ _ _⟩
set_option maxRecDepth 100000 in
set_option maxHeartbeats 4000000 in
theorem ropen_strayC (s cb tail sZ : ByteArray) (l v c f o : Nat) (cs : List UInt8) (lv a0 a1 q z1 z2 x1 x2 n : Nat) (zb : Bool) (w : World) (ho : openO s.data.toList = (⟨l, v, c, f, o⟩, cs, 0)) (hcb : (⟨cs.toArray⟩ : ByteArray) = cb) (hi : isO ⟨l, v, c, f, o⟩ lv 1 40 32 = 0) (hc1 : 32 ≤ cb.size) (hc2 : cb.size ≤ 32)
    (h0 : (cb[0]).toNat = a0) (h1 : (cb[1]).toNat = a1) (hq : a0 / 16 = q) (hz1 : a0 % 16 = z1) (hz2 : a1 % 32 = z2) (hx1 : a1 / 64 % 2 = x1) (hx2 : a1 / 32 % 2 = x2) (hn : getN cs 2 6 = n)
    (ht : cb.extract 8 cb.size = tail) (hsz : (⟨(noughts 24).toArray⟩ : ByteArray) = sZ) (hz : (tail.toList == sZ.toList) = zb) (hz' : (tail.toList != sZ.toList) = !zb) (ha0 : a0 < 256) (ha1 : a1 < 256) (hf : f = 0) (hy : z1 = 0) (hy2 : z2 ≠ 0) :
    Calls Try.prog 14 #[.string s, .int .u8 (lv : Int)] w fun x w' => x = .returned (.tuple #[zeroMV, .int .i64 ((3 : Nat) : Int)]) ∧ Below w.heap.size w w' := by
  have HO := Lib.hid ho; clear ho
  have HCB := Lib.hid hcb; clear hcb
  have HI := Lib.hid hi; clear hi
  have HN := Lib.hid hn; clear hn
  have HSZ := Lib.hid hsz; clear hsz
  have mm1 : 0 < cb.size := by omega
  have mm2 : 1 < cb.size := by omega
  have mm3 : 8 ≤ cb.size := by omega
  have m1 : (0 : Int) < (cb.size : Int) := by omega
  have m2 : (1 : Int) < (cb.size : Int) := by omega
  have m3 : (8 : Int) ≤ (cb.size : Int) := by omega
  have t0 : (a0 : Int).tdiv 16 = (q : Int) := by rw [Int.tdiv_eq_ediv_of_nonneg (by omega)]; omega
  have t1 : (a0 : Int).tmod 16 = (z1 : Int) := by rw [Int.tmod_eq_emod_of_nonneg (by omega)]; omega
  have t2 : (a1 : Int).tmod 32 = (z2 : Int) := by rw [Int.tmod_eq_emod_of_nonneg (by omega)]; omega
  obtain ⟨e3, t3, le3⟩ : ∃ e3 : Nat, (a1 : Int).tdiv 64 = (e3 : Int) ∧ e3 < 256 := ⟨a1 / 64, by rw [Int.tdiv_eq_ediv_of_nonneg (by omega)]; omega, by omega⟩
  obtain ⟨e4, t4, le4⟩ : ∃ e4 : Nat, (a1 : Int).tdiv 32 = (e4 : Int) ∧ e4 < 256 := ⟨a1 / 32, by rw [Int.tdiv_eq_ediv_of_nonneg (by omega)]; omega, by omega⟩
  have t5 : (e3 : Int).tmod 2 = (x1 : Int) := by rw [← t3, Int.tdiv_eq_ediv_of_nonneg (by omega), Int.tmod_eq_emod_of_nonneg (by omega)]; omega
  have t6 : (e4 : Int).tmod 2 = (x2 : Int) := by rw [← t4, Int.tdiv_eq_ediv_of_nonneg (by omega), Int.tmod_eq_emod_of_nonneg (by omega)]; omega
  have k0 : IntKind.u8.wrap (q : Int) = (q : Int) := IntWalk.u8_in _ ⟨by omega, by omega⟩
  have k3 : IntKind.u8.wrap (e3 : Int) = (e3 : Int) := IntWalk.u8_in _ ⟨by omega, by omega⟩
  have k4 : IntKind.u8.wrap (e4 : Int) = (e4 : Int) := IntWalk.u8_in _ ⟨by omega, by omega⟩
  clear hz1 hz2 hx1 hx2 hq
  have q1 : ((f : Int) != 0) = false := neq_f (by omega)
  have q2 : ((z1 : Int) != 0) = false := neq_f (by omega)
  have q3 : ((z2 : Int) != 0) = true := neq_t (by omega)
  clear hf hy hy2
  go_enter Try.func14, Try.ntmps14
  go_wp2_with fail
  refine (Oa.ropen_at s _ HO.out).mono ?_
  rintro x w1 ⟨rfl, hb1⟩
  have HK := Lib.hid ((Blk.fresh w 33 zeroMC).below hb1 (by simp))
  have HB := Lib.hid (((Below.refl w.heap.size w).alloc (Nat.le_refl _) (.cells zeroMC 33)).trans (hb1.mono (by simp)))
  clear hb1
  simp only [valH]
  rw [HCB.out]
  go_upto_if 19 with (fail)
  have H6 := Lib.hid (HB.out.alloc HB.out.size (.cells (hdC l v c f o) 68))
  have H7 := Lib.hid (HK.out.alloc (.cells (hdC l v c f o) 68))
  have H8 := Lib.hid (Blk.fresh w1 68 (hdC l v c f o))
  generalize w1.alloc (.cells (hdC l v c f o) 68) = w2 at H6 H7 H8 ⊢
  obtain ⟨c0, c1, c2, c3, c4, y0, y1, y2, y3, y4⟩ := Rw5.row H7.out
  obtain ⟨d0, d1, d2, d3, d4, _⟩ := Rw5.row H8.out
  go_wp2_with fail
  refine (ris_any l v c f o lv 1 40 32 _).mono ?_
  rintro x w3 ⟨rfl, hbb⟩
  have HB2 := Lib.hid (H6.out.trans (hbb.mono H6.out.size))
  have HK2 := Lib.hid (H7.out.below hbb H7.out.lt)
  have HH2 := Lib.hid (H8.out.below hbb H8.out.lt)
  rw [HI.out]
  clear hbb c0 c1 c2 c3 c4 y0 y1 y2 y3 y4 d0 d1 d2 d3 d4
  go_upto_region 7 with (fail)
  obtain ⟨wa, hwa⟩ : ∃ wa, wa = w3.drew := ⟨_, rfl⟩
  have HKA := Lib.hid (show Blk wa w.heap.size 33 zeroMC by rw [hwa]; exact HK2.out.drew)
  have HHA := Lib.hid (show Blk wa w1.heap.size 68 (hdC l v c f o) by rw [hwa]; exact HH2.out.drew)
  have HBA := Lib.hid (show Below w.heap.size w wa by rw [hwa]; exact HB2.out.drew)
  have HBR := Lib.hid HBA.out
  have KS := Lib.hid ((Rg.Keeps.one w.heap.size 33 zeroMC).blk w1.heap.size 68 (hdC l v c f o))
  refine wp_region_held_drew (S := fun wx => Blk wx w.heap.size 33 zeroMC ∧ Blk wx w1.heap.size 68 (hdC l v c f o)) (by kernel_rfl) ⟨HK2.out, HH2.out⟩ (fun hHeld => ?_)
  rw [← hwa] at hHeld ⊢
  have HWA := Lib.hid hwa
  clear hwa
  refine wpAnyH_take (i := 0) (oi := _) (v := ?_) rfl (by kernel_rfl) (by kernel_rfl) (by kernel_rfl) (fun _ _ _ h => h) (Or.inl ⟨by rfl, ?_⟩) (by assumption) ?_
  rotate_left
  · intro wx hSx
    go_simp
    all_goals with_reducible rfl
  simp only [Act.put, List.setIfInBounds_toArray, List.set_cons_zero, List.set_cons_succ, List.getElem_toArray, List.getElem_cons_zero, List.getElem_cons_succ]
  refine wpAnyH_take (i := 1) (oi := _) (v := ?_) rfl (by kernel_rfl) (by kernel_rfl) (by kernel_rfl) (fun _ _ _ h => h) (Or.inl ⟨by rfl, ?_⟩) (by assumption) ?_
  rotate_left
  · intro wx hSx
    obtain ⟨d0, d1, d2, d3, d4, _⟩ := Rw5.row hSx.2; go_simp
    all_goals with_reducible rfl
  simp only [Act.put, List.setIfInBounds_toArray, List.set_cons_zero, List.set_cons_succ, List.getElem_toArray, List.getElem_cons_zero, List.getElem_cons_succ]
  refine wpAnyH_take (i := 2) (oi := _) (v := ?_) rfl (by kernel_rfl) (by kernel_rfl) (by kernel_rfl) (fun _ _ _ h => h) (Or.inl ⟨by rfl, ?_⟩) (by assumption) ?_
  rotate_left
  · intro wx hSx
    go_simp
    all_goals with_reducible rfl
  simp only [Act.put, List.setIfInBounds_toArray, List.set_cons_zero, List.set_cons_succ, List.getElem_toArray, List.getElem_cons_zero, List.getElem_cons_succ]
  refine wpAnyH_take (i := 3) (oi := _) (v := ?_) rfl (by kernel_rfl) (by kernel_rfl) (by kernel_rfl) (fun _ _ _ h => h) (Or.inl ⟨by rfl, ?_⟩) (by assumption) ?_
  rotate_left
  · intro wx hSx
    go_simp
    all_goals with_reducible rfl
  simp only [Act.put, List.setIfInBounds_toArray, List.set_cons_zero, List.set_cons_succ, List.getElem_toArray, List.getElem_cons_zero, List.getElem_cons_succ]
  refine wpAnyH_take (i := 4) (oi := _) (v := ?_) rfl (by kernel_rfl) (by kernel_rfl) (by kernel_rfl) (fun _ _ _ h => h) (Or.inl ⟨by rfl, ?_⟩) (by assumption) ?_
  rotate_left
  · intro wx hSx
    go_simp
    all_goals with_reducible rfl
  simp only [Act.put, List.setIfInBounds_toArray, List.set_cons_zero, List.set_cons_succ, List.getElem_toArray, List.getElem_cons_zero, List.getElem_cons_succ]
  refine wpAnyH_take (i := 5) (oi := _) (v := ?_) rfl (by kernel_rfl) (by kernel_rfl) (by kernel_rfl) (fun _ _ _ h => h) (Or.inl ⟨by rfl, ?_⟩) (by assumption) ?_
  rotate_left
  · intro wx hSx
    go_simp
    all_goals with_reducible rfl
  simp only [Act.put, List.setIfInBounds_toArray, List.set_cons_zero, List.set_cons_succ, List.getElem_toArray, List.getElem_cons_zero, List.getElem_cons_succ]
  refine wpAnyH_take (i := 6) (oi := _) (v := ?_) rfl (by kernel_rfl) (by kernel_rfl) (by kernel_rfl) (fun _ _ _ h => h) (Or.inl ⟨by rfl, ?_⟩) (by assumption) ?_
  rotate_left
  · intro wx hSx
    go_simp
    all_goals with_reducible rfl
  simp only [Act.put, List.setIfInBounds_toArray, List.set_cons_zero, List.set_cons_succ, List.getElem_toArray, List.getElem_cons_zero, List.getElem_cons_succ]
  refine wpAnyH_take (i := 7) (oi := _) (v := ?_) rfl (by kernel_rfl) (by kernel_rfl) (by kernel_rfl) (fun _ _ _ h => h) (Or.inl ⟨by rfl, ?_⟩) (by assumption) ?_
  rotate_left
  · intro wx hSx
    go_simp
    all_goals with_reducible rfl
  simp only [Act.put, List.setIfInBounds_toArray, List.set_cons_zero, List.set_cons_succ, List.getElem_toArray, List.getElem_cons_zero, List.getElem_cons_succ]
  refine wpAnyH_take (i := 8) (oi := _) (v := ?_) rfl (by kernel_rfl) (by kernel_rfl) (by kernel_rfl) (fun _ _ _ h => h) (Or.inl ⟨by rfl, ?_⟩) (by assumption) ?_
  rotate_left
  · intro wx hSx
    go_simp
    all_goals with_reducible rfl
  simp only [Act.put, List.setIfInBounds_toArray, List.set_cons_zero, List.set_cons_succ, List.getElem_toArray, List.getElem_cons_zero, List.getElem_cons_succ]
  refine wpAnyH_take (i := 9) (oi := _) (v := ?_) rfl (by kernel_rfl) (by kernel_rfl) (by kernel_rfl) (fun _ _ _ h => h) (Or.inl ⟨by rfl, ?_⟩) (by assumption) ?_
  rotate_left
  · intro wx hSx
    go_simp
    all_goals with_reducible rfl
  simp only [Act.put, List.setIfInBounds_toArray, List.set_cons_zero, List.set_cons_succ, List.getElem_toArray, List.getElem_cons_zero, List.getElem_cons_succ]
  refine wpAnyH_take (i := 10) (oi := _) (v := ?_) rfl (by kernel_rfl) (by kernel_rfl) (by kernel_rfl) (fun _ _ _ h => h) (Or.inl ⟨by rfl, ?_⟩) (by assumption) ?_
  rotate_left
  · intro wx hSx
    go_simp
    all_goals with_reducible rfl
  simp only [Act.put, List.setIfInBounds_toArray, List.set_cons_zero, List.set_cons_succ, List.getElem_toArray, List.getElem_cons_zero, List.getElem_cons_succ]
  refine wpAnyH_take (i := 11) (oi := _) (v := ?_) rfl (by kernel_rfl) (by kernel_rfl) (by kernel_rfl) (fun _ _ _ h => h) (Or.inl ⟨by rfl, ?_⟩) (by assumption) ?_
  rotate_left
  · intro wx hSx
    go_simp
    all_goals with_reducible rfl
  simp only [Act.put, List.setIfInBounds_toArray, List.set_cons_zero, List.set_cons_succ, List.getElem_toArray, List.getElem_cons_zero, List.getElem_cons_succ]
  refine wpAnyH_take (i := 12) (oi := _) (v := ?_) rfl (by kernel_rfl) (by kernel_rfl) (by kernel_rfl) (fun _ _ _ h => h) (Or.inl ⟨by rfl, ?_⟩) (by assumption) ?_
  rotate_left
  · intro wx hSx
    go_simp
    all_goals with_reducible rfl
  simp only [Act.put, List.setIfInBounds_toArray, List.set_cons_zero, List.set_cons_succ, List.getElem_toArray, List.getElem_cons_zero, List.getElem_cons_succ]
  refine wpAnyH_take (i := 13) (oi := _) (v := ?_) rfl (by kernel_rfl) (by kernel_rfl) (by kernel_rfl) (fun _ _ _ h => h) (Or.inl ⟨by rfl, ?_⟩) (by assumption) ?_
  rotate_left
  · intro wx hSx
    go_simp
    all_goals with_reducible rfl
  simp only [Act.put, List.setIfInBounds_toArray, List.set_cons_zero, List.set_cons_succ, List.getElem_toArray, List.getElem_cons_zero, List.getElem_cons_succ]
  refine wpAnyH_take (i := 14) (oi := _) (v := ?_) rfl (by kernel_rfl) (by kernel_rfl) (by kernel_rfl) (fun _ _ _ h => h) (Or.inl ⟨by rfl, ?_⟩) (by assumption) ?_
  rotate_left
  · intro wx hSx
    go_simp
    all_goals with_reducible rfl
  simp only [Act.put, List.setIfInBounds_toArray, List.set_cons_zero, List.set_cons_succ, List.getElem_toArray, List.getElem_cons_zero, List.getElem_cons_succ]
  refine wpAnyH_take (i := 15) (oi := _) (v := ?_) rfl (by kernel_rfl) (by kernel_rfl) (by kernel_rfl) (fun _ _ _ h => h) (Or.inl ⟨by rfl, ?_⟩) (by assumption) ?_
  rotate_left
  · intro wx hSx
    go_simp
    all_goals with_reducible rfl
  simp only [Act.put, List.setIfInBounds_toArray, List.set_cons_zero, List.set_cons_succ, List.getElem_toArray, List.getElem_cons_zero, List.getElem_cons_succ]
  refine wpAnyH_take (i := 16) (oi := _) (v := undef) rfl (by kernel_rfl) (by kernel_rfl) (by kernel_rfl) (fun _ _ _ h => h) (Or.inr ⟨by rfl, rfl⟩) (by assumption) ?_
  simp only [Act.put, List.setIfInBounds_toArray, List.set_cons_zero, List.set_cons_succ, List.getElem_toArray, List.getElem_cons_zero, List.getElem_cons_succ]
  refine wpAnyH_take (i := 17) (oi := _) (v := undef) rfl (by kernel_rfl) (by kernel_rfl) (by kernel_rfl) (fun _ _ _ h => h) (Or.inr ⟨by rfl, rfl⟩) (by assumption) ?_
  simp only [Act.put, List.setIfInBounds_toArray, List.set_cons_zero, List.set_cons_succ, List.getElem_toArray, List.getElem_cons_zero, List.getElem_cons_succ]
  refine wpAnyH_take (i := 18) (oi := _) (v := undef) rfl (by kernel_rfl) (by kernel_rfl) (by kernel_rfl) (fun _ _ _ h => h) (Or.inr ⟨by rfl, rfl⟩) (by assumption) ?_
  simp only [Act.put, List.setIfInBounds_toArray, List.set_cons_zero, List.set_cons_succ, List.getElem_toArray, List.getElem_cons_zero, List.getElem_cons_succ]
  refine wpAnyH_take (i := 19) (oi := _) (v := undef) rfl (by kernel_rfl) (by kernel_rfl) (by kernel_rfl) (fun _ _ _ h => h) (Or.inr ⟨by rfl, rfl⟩) (by assumption) ?_
  simp only [Act.put, List.setIfInBounds_toArray, List.set_cons_zero, List.set_cons_succ, List.getElem_toArray, List.getElem_cons_zero, List.getElem_cons_succ]
  refine wpAnyH_take (i := 20) (oi := _) (v := undef) rfl (by kernel_rfl) (by kernel_rfl) (by kernel_rfl) (fun _ _ _ h => h) (Or.inr ⟨by rfl, rfl⟩) (by assumption) ?_
  simp only [Act.put, List.setIfInBounds_toArray, List.set_cons_zero, List.set_cons_succ, List.getElem_toArray, List.getElem_cons_zero, List.getElem_cons_succ]
  refine wpAnyH_take (i := 21) (oi := _) (v := ?_) rfl (by kernel_rfl) (by kernel_rfl) (by kernel_rfl) (fun _ _ _ h => h) (Or.inl ⟨by rfl, ?_⟩) (by assumption) ?_
  rotate_left
  · intro wx hSx
    go_simp
    all_goals with_reducible rfl
  simp only [Act.put, List.setIfInBounds_toArray, List.set_cons_zero, List.set_cons_succ, List.getElem_toArray, List.getElem_cons_zero, List.getElem_cons_succ]
  refine wpAnyH_done (by kernel_rfl) ?_ _
  obtain ⟨c0, c1, c2, c3, c4, y0, y1, y2, y3, y4⟩ := Rw5.row HKA.out
  go_wp2
  (try simp only [Exit.inBlock, Exit.then]); refine bodyPost_ret (results_row2 rfl _ _ w.heap.size 33 _ (0, 0) _ rfl (Rw5.blk_set HKA.out _ _ _ _ _) Try.underlying33 rfl info_rmsg) rfl ?_
  exact ⟨rfl, Rw5.below_set HBA.out (Nat.le_refl _) _ _ _ _ _⟩
set_option maxRecDepth 100000 in
set_option maxHeartbeats 4000000 in
theorem ropen_strayD (s cb tail sZ : ByteArray) (l v c f o : Nat) (cs : List UInt8) (lv a0 a1 q z1 z2 x1 x2 n : Nat) (zb : Bool) (w : World) (ho : openO s.data.toList = (⟨l, v, c, f, o⟩, cs, 0)) (hcb : (⟨cs.toArray⟩ : ByteArray) = cb) (hi : isO ⟨l, v, c, f, o⟩ lv 1 40 32 = 0) (hc1 : 32 ≤ cb.size) (hc2 : cb.size ≤ 32)
    (h0 : (cb[0]).toNat = a0) (h1 : (cb[1]).toNat = a1) (hq : a0 / 16 = q) (hz1 : a0 % 16 = z1) (hz2 : a1 % 32 = z2) (hx1 : a1 / 64 % 2 = x1) (hx2 : a1 / 32 % 2 = x2) (hn : getN cs 2 6 = n)
    (ht : cb.extract 8 cb.size = tail) (hsz : (⟨(noughts 24).toArray⟩ : ByteArray) = sZ) (hz : (tail.toList == sZ.toList) = zb) (hz' : (tail.toList != sZ.toList) = !zb) (ha0 : a0 < 256) (ha1 : a1 < 256) (hf : f = 0) (hy : z1 = 0) (hy2 : z2 = 0) (hzb : zb = false) :
    Calls Try.prog 14 #[.string s, .int .u8 (lv : Int)] w fun x w' => x = .returned (.tuple #[zeroMV, .int .i64 ((3 : Nat) : Int)]) ∧ Below w.heap.size w w' := by
  have HO := Lib.hid ho; clear ho
  have HCB := Lib.hid hcb; clear hcb
  have HI := Lib.hid hi; clear hi
  have HN := Lib.hid hn; clear hn
  have HSZ := Lib.hid hsz; clear hsz
  have mm1 : 0 < cb.size := by omega
  have mm2 : 1 < cb.size := by omega
  have mm3 : 8 ≤ cb.size := by omega
  have m1 : (0 : Int) < (cb.size : Int) := by omega
  have m2 : (1 : Int) < (cb.size : Int) := by omega
  have m3 : (8 : Int) ≤ (cb.size : Int) := by omega
  have t0 : (a0 : Int).tdiv 16 = (q : Int) := by rw [Int.tdiv_eq_ediv_of_nonneg (by omega)]; omega
  have t1 : (a0 : Int).tmod 16 = (z1 : Int) := by rw [Int.tmod_eq_emod_of_nonneg (by omega)]; omega
  have t2 : (a1 : Int).tmod 32 = (z2 : Int) := by rw [Int.tmod_eq_emod_of_nonneg (by omega)]; omega
  obtain ⟨e3, t3, le3⟩ : ∃ e3 : Nat, (a1 : Int).tdiv 64 = (e3 : Int) ∧ e3 < 256 := ⟨a1 / 64, by rw [Int.tdiv_eq_ediv_of_nonneg (by omega)]; omega, by omega⟩
  obtain ⟨e4, t4, le4⟩ : ∃ e4 : Nat, (a1 : Int).tdiv 32 = (e4 : Int) ∧ e4 < 256 := ⟨a1 / 32, by rw [Int.tdiv_eq_ediv_of_nonneg (by omega)]; omega, by omega⟩
  have t5 : (e3 : Int).tmod 2 = (x1 : Int) := by rw [← t3, Int.tdiv_eq_ediv_of_nonneg (by omega), Int.tmod_eq_emod_of_nonneg (by omega)]; omega
  have t6 : (e4 : Int).tmod 2 = (x2 : Int) := by rw [← t4, Int.tdiv_eq_ediv_of_nonneg (by omega), Int.tmod_eq_emod_of_nonneg (by omega)]; omega
  have k0 : IntKind.u8.wrap (q : Int) = (q : Int) := IntWalk.u8_in _ ⟨by omega, by omega⟩
  have k3 : IntKind.u8.wrap (e3 : Int) = (e3 : Int) := IntWalk.u8_in _ ⟨by omega, by omega⟩
  have k4 : IntKind.u8.wrap (e4 : Int) = (e4 : Int) := IntWalk.u8_in _ ⟨by omega, by omega⟩
  clear hz1 hz2 hx1 hx2 hq
  have q1 : ((f : Int) != 0) = false := neq_f (by omega)
  have q2 : ((z1 : Int) != 0) = false := neq_f (by omega)
  have q3 : ((z2 : Int) != 0) = false := neq_f (by omega)
  subst hzb
  clear hf hy hy2
  go_enter Try.func14, Try.ntmps14
  go_wp2_with fail
  refine (Oa.ropen_at s _ HO.out).mono ?_
  rintro x w1 ⟨rfl, hb1⟩
  have HK := Lib.hid ((Blk.fresh w 33 zeroMC).below hb1 (by simp))
  have HB := Lib.hid (((Below.refl w.heap.size w).alloc (Nat.le_refl _) (.cells zeroMC 33)).trans (hb1.mono (by simp)))
  clear hb1
  simp only [valH]
  rw [HCB.out]
  go_upto_if 19 with (fail)
  have H6 := Lib.hid (HB.out.alloc HB.out.size (.cells (hdC l v c f o) 68))
  have H7 := Lib.hid (HK.out.alloc (.cells (hdC l v c f o) 68))
  have H8 := Lib.hid (Blk.fresh w1 68 (hdC l v c f o))
  generalize w1.alloc (.cells (hdC l v c f o) 68) = w2 at H6 H7 H8 ⊢
  obtain ⟨c0, c1, c2, c3, c4, y0, y1, y2, y3, y4⟩ := Rw5.row H7.out
  obtain ⟨d0, d1, d2, d3, d4, _⟩ := Rw5.row H8.out
  go_wp2_with fail
  refine (ris_any l v c f o lv 1 40 32 _).mono ?_
  rintro x w3 ⟨rfl, hbb⟩
  have HB2 := Lib.hid (H6.out.trans (hbb.mono H6.out.size))
  have HK2 := Lib.hid (H7.out.below hbb H7.out.lt)
  have HH2 := Lib.hid (H8.out.below hbb H8.out.lt)
  rw [HI.out]
  clear hbb c0 c1 c2 c3 c4 y0 y1 y2 y3 y4 d0 d1 d2 d3 d4
  go_upto_region 7 with (fail)
  obtain ⟨wa, hwa⟩ : ∃ wa, wa = w3.drew := ⟨_, rfl⟩
  have HKA := Lib.hid (show Blk wa w.heap.size 33 zeroMC by rw [hwa]; exact HK2.out.drew)
  have HHA := Lib.hid (show Blk wa w1.heap.size 68 (hdC l v c f o) by rw [hwa]; exact HH2.out.drew)
  have HBA := Lib.hid (show Below w.heap.size w wa by rw [hwa]; exact HB2.out.drew)
  have HBR := Lib.hid HBA.out
  have KS := Lib.hid ((Rg.Keeps.one w.heap.size 33 zeroMC).blk w1.heap.size 68 (hdC l v c f o))
  refine wp_region_held_drew (S := fun wx => Blk wx w.heap.size 33 zeroMC ∧ Blk wx w1.heap.size 68 (hdC l v c f o)) (by kernel_rfl) ⟨HK2.out, HH2.out⟩ (fun hHeld => ?_)
  rw [← hwa] at hHeld ⊢
  have HWA := Lib.hid hwa
  clear hwa
  refine wpAnyH_take (i := 0) (oi := _) (v := ?_) rfl (by kernel_rfl) (by kernel_rfl) (by kernel_rfl) (fun _ _ _ h => h) (Or.inl ⟨by rfl, ?_⟩) (by assumption) ?_
  rotate_left
  · intro wx hSx
    go_simp
    all_goals with_reducible rfl
  simp only [Act.put, List.setIfInBounds_toArray, List.set_cons_zero, List.set_cons_succ, List.getElem_toArray, List.getElem_cons_zero, List.getElem_cons_succ]
  refine wpAnyH_take (i := 1) (oi := _) (v := ?_) rfl (by kernel_rfl) (by kernel_rfl) (by kernel_rfl) (fun _ _ _ h => h) (Or.inl ⟨by rfl, ?_⟩) (by assumption) ?_
  rotate_left
  · intro wx hSx
    obtain ⟨d0, d1, d2, d3, d4, _⟩ := Rw5.row hSx.2; go_simp
    all_goals with_reducible rfl
  simp only [Act.put, List.setIfInBounds_toArray, List.set_cons_zero, List.set_cons_succ, List.getElem_toArray, List.getElem_cons_zero, List.getElem_cons_succ]
  refine wpAnyH_take (i := 2) (oi := _) (v := ?_) rfl (by kernel_rfl) (by kernel_rfl) (by kernel_rfl) (fun _ _ _ h => h) (Or.inl ⟨by rfl, ?_⟩) (by assumption) ?_
  rotate_left
  · intro wx hSx
    go_simp
    all_goals with_reducible rfl
  simp only [Act.put, List.setIfInBounds_toArray, List.set_cons_zero, List.set_cons_succ, List.getElem_toArray, List.getElem_cons_zero, List.getElem_cons_succ]
  refine wpAnyH_take (i := 3) (oi := _) (v := ?_) rfl (by kernel_rfl) (by kernel_rfl) (by kernel_rfl) (fun _ _ _ h => h) (Or.inl ⟨by rfl, ?_⟩) (by assumption) ?_
  rotate_left
  · intro wx hSx
    go_simp
    all_goals with_reducible rfl
  simp only [Act.put, List.setIfInBounds_toArray, List.set_cons_zero, List.set_cons_succ, List.getElem_toArray, List.getElem_cons_zero, List.getElem_cons_succ]
  refine wpAnyH_take (i := 4) (oi := _) (v := ?_) rfl (by kernel_rfl) (by kernel_rfl) (by kernel_rfl) (fun _ _ _ h => h) (Or.inl ⟨by rfl, ?_⟩) (by assumption) ?_
  rotate_left
  · intro wx hSx
    go_simp
    all_goals with_reducible rfl
  simp only [Act.put, List.setIfInBounds_toArray, List.set_cons_zero, List.set_cons_succ, List.getElem_toArray, List.getElem_cons_zero, List.getElem_cons_succ]
  refine wpAnyH_take (i := 5) (oi := _) (v := ?_) rfl (by kernel_rfl) (by kernel_rfl) (by kernel_rfl) (fun _ _ _ h => h) (Or.inl ⟨by rfl, ?_⟩) (by assumption) ?_
  rotate_left
  · intro wx hSx
    go_simp
    all_goals with_reducible rfl
  simp only [Act.put, List.setIfInBounds_toArray, List.set_cons_zero, List.set_cons_succ, List.getElem_toArray, List.getElem_cons_zero, List.getElem_cons_succ]
  refine wpAnyH_take (i := 6) (oi := _) (v := ?_) rfl (by kernel_rfl) (by kernel_rfl) (by kernel_rfl) (fun _ _ _ h => h) (Or.inl ⟨by rfl, ?_⟩) (by assumption) ?_
  rotate_left
  · intro wx hSx
    go_simp
    all_goals with_reducible rfl
  simp only [Act.put, List.setIfInBounds_toArray, List.set_cons_zero, List.set_cons_succ, List.getElem_toArray, List.getElem_cons_zero, List.getElem_cons_succ]
  refine wpAnyH_take (i := 7) (oi := _) (v := ?_) rfl (by kernel_rfl) (by kernel_rfl) (by kernel_rfl) (fun _ _ _ h => h) (Or.inl ⟨by rfl, ?_⟩) (by assumption) ?_
  rotate_left
  · intro wx hSx
    go_simp
    all_goals with_reducible rfl
  simp only [Act.put, List.setIfInBounds_toArray, List.set_cons_zero, List.set_cons_succ, List.getElem_toArray, List.getElem_cons_zero, List.getElem_cons_succ]
  refine wpAnyH_take (i := 8) (oi := _) (v := ?_) rfl (by kernel_rfl) (by kernel_rfl) (by kernel_rfl) (fun _ _ _ h => h) (Or.inl ⟨by rfl, ?_⟩) (by assumption) ?_
  rotate_left
  · intro wx hSx
    go_simp
    all_goals with_reducible rfl
  simp only [Act.put, List.setIfInBounds_toArray, List.set_cons_zero, List.set_cons_succ, List.getElem_toArray, List.getElem_cons_zero, List.getElem_cons_succ]
  refine wpAnyH_take (i := 9) (oi := _) (v := ?_) rfl (by kernel_rfl) (by kernel_rfl) (by kernel_rfl) (fun _ _ _ h => h) (Or.inl ⟨by rfl, ?_⟩) (by assumption) ?_
  rotate_left
  · intro wx hSx
    go_simp
    all_goals with_reducible rfl
  simp only [Act.put, List.setIfInBounds_toArray, List.set_cons_zero, List.set_cons_succ, List.getElem_toArray, List.getElem_cons_zero, List.getElem_cons_succ]
  refine wpAnyH_take (i := 10) (oi := _) (v := ?_) rfl (by kernel_rfl) (by kernel_rfl) (by kernel_rfl) (fun _ _ _ h => h) (Or.inl ⟨by rfl, ?_⟩) (by assumption) ?_
  rotate_left
  · intro wx hSx
    go_simp
    all_goals with_reducible rfl
  simp only [Act.put, List.setIfInBounds_toArray, List.set_cons_zero, List.set_cons_succ, List.getElem_toArray, List.getElem_cons_zero, List.getElem_cons_succ]
  refine wpAnyH_take (i := 11) (oi := _) (v := ?_) rfl (by kernel_rfl) (by kernel_rfl) (by kernel_rfl) (fun _ _ _ h => h) (Or.inl ⟨by rfl, ?_⟩) (by assumption) ?_
  rotate_left
  · intro wx hSx
    go_simp
    all_goals with_reducible rfl
  simp only [Act.put, List.setIfInBounds_toArray, List.set_cons_zero, List.set_cons_succ, List.getElem_toArray, List.getElem_cons_zero, List.getElem_cons_succ]
  refine wpAnyH_take (i := 12) (oi := _) (v := ?_) rfl (by kernel_rfl) (by kernel_rfl) (by kernel_rfl) (fun _ _ _ h => h) (Or.inl ⟨by rfl, ?_⟩) (by assumption) ?_
  rotate_left
  · intro wx hSx
    go_simp
    all_goals with_reducible rfl
  simp only [Act.put, List.setIfInBounds_toArray, List.set_cons_zero, List.set_cons_succ, List.getElem_toArray, List.getElem_cons_zero, List.getElem_cons_succ]
  refine wpAnyH_take (i := 13) (oi := _) (v := ?_) rfl (by kernel_rfl) (by kernel_rfl) (by kernel_rfl) (fun _ _ _ h => h) (Or.inl ⟨by rfl, ?_⟩) (by assumption) ?_
  rotate_left
  · intro wx hSx
    go_simp
    all_goals with_reducible rfl
  simp only [Act.put, List.setIfInBounds_toArray, List.set_cons_zero, List.set_cons_succ, List.getElem_toArray, List.getElem_cons_zero, List.getElem_cons_succ]
  refine wpAnyH_take (i := 14) (oi := _) (v := ?_) rfl (by kernel_rfl) (by kernel_rfl) (by kernel_rfl) (fun _ _ _ h => h) (Or.inl ⟨by rfl, ?_⟩) (by assumption) ?_
  rotate_left
  · intro wx hSx
    go_simp
    all_goals with_reducible rfl
  simp only [Act.put, List.setIfInBounds_toArray, List.set_cons_zero, List.set_cons_succ, List.getElem_toArray, List.getElem_cons_zero, List.getElem_cons_succ]
  refine wpAnyH_take (i := 15) (oi := _) (v := ?_) rfl (by kernel_rfl) (by kernel_rfl) (by kernel_rfl) (fun _ _ _ h => h) (Or.inl ⟨by rfl, ?_⟩) (by assumption) ?_
  rotate_left
  · intro wx hSx
    go_simp
    all_goals with_reducible rfl
  simp only [Act.put, List.setIfInBounds_toArray, List.set_cons_zero, List.set_cons_succ, List.getElem_toArray, List.getElem_cons_zero, List.getElem_cons_succ]
  refine wpAnyH_take (i := 16) (oi := _) (v := ?_) rfl (by kernel_rfl) (by kernel_rfl) (by kernel_rfl) (fun _ _ _ h => h) (Or.inl ⟨by rfl, ?_⟩) (by assumption) ?_
  rotate_left
  · intro wx hSx
    go_simp
    all_goals with_reducible rfl
  simp only [Act.put, List.setIfInBounds_toArray, List.set_cons_zero, List.set_cons_succ, List.getElem_toArray, List.getElem_cons_zero, List.getElem_cons_succ]
  refine wpAnyH_take (i := 17) (oi := _) (v := ?_) rfl (by kernel_rfl) (by kernel_rfl) (by kernel_rfl) (fun _ _ _ h => h) (Or.inl ⟨by rfl, ?_⟩) (by assumption) ?_
  rotate_left
  · intro wx hSx
    go_simp
    all_goals with_reducible rfl
  simp only [Act.put, List.setIfInBounds_toArray, List.set_cons_zero, List.set_cons_succ, List.getElem_toArray, List.getElem_cons_zero, List.getElem_cons_succ]
  refine wpAnyH_ready (rs := [18]) (by kernel_rfl) (by simp) ?_
  refine AllReadyH.cons (o := _) rfl (fun K hK => ?_) ?_
  · have hmk := make24 wa
    go_simp
    refine Rg.st_alloc hK hHeld KS.out HBR.out ?_
    clear hK K
    intro wr1 hlt hHeld ks hbr
    have HBR := Lib.hid hbr
    have KS := Lib.hid ks
    clear hbr ks hlt
    try simp only [List.setIfInBounds_toArray, List.set_cons_zero, List.set_cons_succ]
    refine wpAnyH_take (i := 19) (oi := _) (v := ?_) rfl (by kernel_rfl) (by kernel_rfl) (by kernel_rfl) (fun _ _ _ h => h) (Or.inl ⟨by rfl, ?_⟩) (by assumption) ?_
    rotate_left
    · intro wx hSx
      have hcv := Rg.back_blk (P := Try.prog) (src := 62) (dst := 9) sZ (noughts 24) 24 24 hSx.2 rfl rfl HSZ.out Try.underlying62 Try.underlying5 Try.underlying9; go_simp
      all_goals with_reducible rfl
    simp only [Act.put, List.setIfInBounds_toArray, List.set_cons_zero, List.set_cons_succ, List.getElem_toArray, List.getElem_cons_zero, List.getElem_cons_succ]
    refine wpAnyH_take (i := 20) (oi := _) (v := ?_) rfl (by kernel_rfl) (by kernel_rfl) (by kernel_rfl) (fun _ _ _ h => h) (Or.inl ⟨by rfl, ?_⟩) (by assumption) ?_
    rotate_left
    · intro wx hSx
      go_simp
      all_goals with_reducible rfl
    simp only [Act.put, List.setIfInBounds_toArray, List.set_cons_zero, List.set_cons_succ, List.getElem_toArray, List.getElem_cons_zero, List.getElem_cons_succ]
    refine wpAnyH_take (i := 21) (oi := _) (v := ?_) rfl (by kernel_rfl) (by kernel_rfl) (by kernel_rfl) (fun _ _ _ h => h) (Or.inl ⟨by rfl, ?_⟩) (by assumption) ?_
    rotate_left
    · intro wx hSx
      go_simp
      all_goals with_reducible rfl
    simp only [Act.put, List.setIfInBounds_toArray, List.set_cons_zero, List.set_cons_succ, List.getElem_toArray, List.getElem_cons_zero, List.getElem_cons_succ]
    refine wpAnyH_done (by kernel_rfl) ?_ _
    have HKB := Lib.hid hHeld.1.1
    obtain ⟨c0, c1, c2, c3, c4, y0, y1, y2, y3, y4⟩ := Rw5.row HKB.out
    go_wp2
    (try simp only [Exit.inBlock, Exit.then]); refine bodyPost_ret (results_row2 rfl _ _ w.heap.size 33 _ (0, 0) _ rfl (Rw5.blk_set HKB.out _ _ _ _ _) Try.underlying33 rfl info_rmsg) rfl ?_
    exact ⟨rfl, Rw5.below_set HBR.out (Nat.le_refl _) _ _ _ _ _⟩
  exact AllReadyH.nil
end Go.Proofs.Ytnapbmdkaldncaa.Rp
