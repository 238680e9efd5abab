/-
  ccm's Open answers openC. Contract of the document's Open of a line's message.
-/
import Derived.Test.YtnapbmdkaldncaaCmF
namespace Go.Proofs.Ytnapbmdkaldncaa.Cc
open Go.RowKit Go.Proofs.Ytnapbmdkaldncaa.Bt Go.Proofs.Ytnapbmdkaldncaa.Mm Go.Proofs.Ytnapbmdkaldncaa.Fl Go.Proofs.Ytnapbmdkaldncaa.Lw Go.Proofs.Ytnapbmdkaldncaa.Hx Go.Proofs.Ytnapbmdkaldncaa.Mc Go.Proofs.Ytnapbmdkaldncaa.Tg Go.Proofs.Ytnapbmdkaldncaa.Oa Go.Proofs.Ytnapbmdkaldncaa.Rp
set_option linter.unusedSimpArgs false
set_option linter.unusedVariables false

set_option maxRecDepth 100000 in
set_option maxHeartbeats 4000000 in
theorem ropen_ok (s cb tl sZ nm : ByteArray) (l v c f o : Nat) (cs : List UInt8) (lv e z1 x2 n4 : Nat) (zb b2 : Bool) (w : World) (ho : openO s.data.toList = (⟨l, v, c, f, o⟩, cs, 0)) (hcb : (⟨cs.toArray⟩ : ByteArray) = cb) (hi : isO ⟨l, v, c, f, o⟩ lv 0 1 70 = 0) (hc1 : 70 ≤ cb.size) (hc2 : cb.size ≤ 70) (hf : f < 256)
    (he : getN cb.data.toList 4 2 = e) (hn4 : getN cb.data.toList 0 4 = n4) (hz1 : f / 8 % 16 = z1) (hx2 : f % 8 = x2) (hb2 : decide ((128 : Int) ≤ (f : Int)) = b2) (ht : cb.extract 54 cb.size = tl) (hnm : cb.extract 6 54 = nm) (hsz : (⟨(noughts 16).toArray⟩ : ByteArray) = sZ) (hz : (tl.toList == sZ.toList) = zb) (hz' : (tl.toList != sZ.toList) = !zb) (he16 : e < 65536) (hn32 : n4 < 4294967296) (h1 : e < 8192) (h2 : z1 = 0) (hzb : zb = true) (h3 : x2 ≠ 0) (h4 : e ≠ 0) :
    Calls Try.prog 21 #[.string s, .int .u8 (lv : Int)] w fun x w' => x = .returned (.tuple #[cmV b2 x2 n4 e nm, .int .i64 ((0 : Nat) : Int)]) ∧ Below w.heap.size w w' := by
  have HO := Lib.hid ho; clear ho
  have HCB := Lib.hid hcb; clear hcb
  have HI := Lib.hid hi; clear hi
  have HE := Lib.hid he; clear he
  have HN4 := Lib.hid hn4; clear hn4
  have HSZ := Lib.hid hsz; clear hsz
  have HCM := Lib.hid (show cb.size ≤ maxLen by unfold maxLen; omega)
  have HC6 := Lib.hid (show 4 + 2 ≤ cb.size by omega)
  have HC4 := Lib.hid (show 0 + 4 ≤ cb.size by omega)
  have m1 : (54 : Int) ≤ (cb.size : Int) := by omega
  have m2 : 54 ≤ cb.size := by omega
  obtain ⟨e8, t1, le8⟩ : ∃ e8 : Nat, (f : Int).tdiv 8 = (e8 : Int) ∧ e8 < 256 := ⟨f / 8, by rw [Int.tdiv_eq_ediv_of_nonneg (by omega)]; omega, by omega⟩
  have t2 : (e8 : Int).tmod 16 = (z1 : Int) := by rw [← t1, Int.tdiv_eq_ediv_of_nonneg (by omega), Int.tmod_eq_emod_of_nonneg (by omega)]; omega
  have t3 : (f : Int).tmod 8 = (x2 : Int) := by rw [Int.tmod_eq_emod_of_nonneg (by omega)]; omega
  have k1 : IntKind.u8.wrap (e8 : Int) = (e8 : Int) := IntWalk.u8_in _ ⟨by omega, by omega⟩
  have k2 : IntKind.u32.wrap (n4 : Int) = (n4 : Int) := IntWalk.u32_in _ ⟨by omega, by omega⟩
  have k3 : IntKind.u16.wrap (e : Int) = (e : Int) := IntWalk.u16_in _ ⟨by omega, by omega⟩
  clear hz1 hx2
  have q1 : decide ((8192 : Int) ≤ (e : Int)) = false := by simp; omega
  have q2 : ((z1 : Int) != 0) = false := neq_f (by omega)
  subst hzb
  clear h1 h2
  have q3 : ((x2 : Int) == 0) = false := nat_eq_f h3
  have q4 : ((e : Int) == 0) = false := nat_eq_f h4
  clear h3 h4
  go_enter Try.func21, Try.ntmps21
  go_wp2_with fail
  refine (Oa.ropen_at s _ HO.out).mono ?_
  rintro x w1 ⟨rfl, hb1⟩
  have HK := Lib.hid ((Blk.fresh w 49 zeroCC).below hb1 (by simp))
  have HNE := Lib.hid (show w.heap.size < w1.heap.size by have := hb1.size; simp at this; omega)
  have HB := Lib.hid (((Below.refl w.heap.size w).alloc (Nat.le_refl _) (.cells zeroCC 49)).trans (hb1.mono (by simp)))
  clear hb1
  simp only [valH]
  rw [HCB.out]
  go_upto_if 18 with (fail)
  have H6 := Lib.hid (HB.out.alloc HB.out.size (.cells (hdC l v c f o) 68))
  have H7 := Lib.hid (HK.out.alloc (.cells (hdC l v c f o) 68))
  have H8 := Lib.hid (Blk.fresh w1 68 (hdC l v c f o))
  generalize w1.alloc (.cells (hdC l v c f o) 68) = w2 at H6 H7 H8 ⊢
  obtain ⟨c0, c1, c2, c3, c4, y0, y1, y2, y3, y4⟩ := Rw5.row H7.out
  obtain ⟨d0, d1, d2, d3, d4, _⟩ := Rw5.row H8.out
  go_wp2_with fail
  refine (ris_any l v c f o lv 0 1 70 _).mono ?_
  rintro x w3 ⟨rfl, hbb⟩
  have HB2 := Lib.hid (H6.out.trans (hbb.mono H6.out.size))
  have HK2 := Lib.hid (H7.out.below hbb H7.out.lt)
  have HH2 := Lib.hid (H8.out.below hbb H8.out.lt)
  rw [HI.out]
  clear hbb c0 c1 c2 c3 c4 y0 y1 y2 y3 y4 d0 d1 d2 d3 d4
  obtain ⟨d0, d1, d2, d3, d4, _⟩ := Rw5.row HH2.out
  go_wp2_with fail
  refine (get_at cb 4 2 _ HE.out HCM.out (by omega) (by omega) HC6.out).mono ?_
  rintro x w4 ⟨rfl, hbb⟩
  have HB4 := Lib.hid (HB2.out.trans (hbb.mono HB2.out.size))
  have HK4 := Lib.hid (HK2.out.below hbb HK2.out.lt)
  have HH4 := Lib.hid (HH2.out.below hbb HH2.out.lt)
  clear hbb d0 d1 d2 d3 d4
  go_upto_region 8 with (fail)
  obtain ⟨wa, hwa⟩ : ∃ wa, wa = w4.drew := ⟨_, rfl⟩
  have HBR := Lib.hid (show Below w.heap.size w wa by rw [hwa]; exact HB4.out.drew)
  have KS := Lib.hid ((Rg.Keeps.one w.heap.size 49 zeroCC).blk w1.heap.size 68 (hdC l v c f o))
  refine wp_region_held_drew (S := fun wx => Blk wx w.heap.size 49 zeroCC ∧ Blk wx w1.heap.size 68 (hdC l v c f o)) (by kernel_rfl) ⟨HK4.out, HH4.out⟩ (fun hHeld => ?_)
  rw [← hwa] at hHeld ⊢
  have HWA := Lib.hid hwa
  clear hwa
  refine wpAnyH_take (i := 0) (oi := _) (v := ?_) rfl (by kernel_rfl) (by kernel_rfl) (by kernel_rfl) (fun _ _ _ h => h) (Or.inl ⟨by rfl, ?_⟩) (by assumption) ?_
  rotate_left
  · intro wx hSx
    go_simp
    all_goals with_reducible rfl
  simp only [Act.put, List.setIfInBounds_toArray, List.set_cons_zero, List.set_cons_succ, List.getElem_toArray, List.getElem_cons_zero, List.getElem_cons_succ]
  refine wpAnyH_take (i := 1) (oi := _) (v := ?_) rfl (by kernel_rfl) (by kernel_rfl) (by kernel_rfl) (fun _ _ _ h => h) (Or.inl ⟨by rfl, ?_⟩) (by assumption) ?_
  rotate_left
  · intro wx hSx
    go_simp
    all_goals with_reducible rfl
  simp only [Act.put, List.setIfInBounds_toArray, List.set_cons_zero, List.set_cons_succ, List.getElem_toArray, List.getElem_cons_zero, List.getElem_cons_succ]
  refine wpAnyH_take (i := 2) (oi := _) (v := ?_) rfl (by kernel_rfl) (by kernel_rfl) (by kernel_rfl) (fun _ _ _ h => h) (Or.inl ⟨by rfl, ?_⟩) (by assumption) ?_
  rotate_left
  · intro wx hSx
    go_simp
    all_goals with_reducible rfl
  simp only [Act.put, List.setIfInBounds_toArray, List.set_cons_zero, List.set_cons_succ, List.getElem_toArray, List.getElem_cons_zero, List.getElem_cons_succ]
  refine wpAnyH_take (i := 3) (oi := _) (v := ?_) rfl (by kernel_rfl) (by kernel_rfl) (by kernel_rfl) (fun _ _ _ h => h) (Or.inl ⟨by rfl, ?_⟩) (by assumption) ?_
  rotate_left
  · intro wx hSx
    go_simp
    all_goals with_reducible rfl
  simp only [Act.put, List.setIfInBounds_toArray, List.set_cons_zero, List.set_cons_succ, List.getElem_toArray, List.getElem_cons_zero, List.getElem_cons_succ]
  refine wpAnyH_take (i := 4) (oi := _) (v := ?_) rfl (by kernel_rfl) (by kernel_rfl) (by kernel_rfl) (fun _ _ _ h => h) (Or.inl ⟨by rfl, ?_⟩) (by assumption) ?_
  rotate_left
  · intro wx hSx
    obtain ⟨d0, d1, d2, d3, d4, _⟩ := Rw5.row hSx.2; go_simp
    all_goals with_reducible rfl
  simp only [Act.put, List.setIfInBounds_toArray, List.set_cons_zero, List.set_cons_succ, List.getElem_toArray, List.getElem_cons_zero, List.getElem_cons_succ]
  refine wpAnyH_take (i := 5) (oi := _) (v := ?_) rfl (by kernel_rfl) (by kernel_rfl) (by kernel_rfl) (fun _ _ _ h => h) (Or.inl ⟨by rfl, ?_⟩) (by assumption) ?_
  rotate_left
  · intro wx hSx
    go_simp
    all_goals with_reducible rfl
  simp only [Act.put, List.setIfInBounds_toArray, List.set_cons_zero, List.set_cons_succ, List.getElem_toArray, List.getElem_cons_zero, List.getElem_cons_succ]
  refine wpAnyH_take (i := 6) (oi := _) (v := ?_) rfl (by kernel_rfl) (by kernel_rfl) (by kernel_rfl) (fun _ _ _ h => h) (Or.inl ⟨by rfl, ?_⟩) (by assumption) ?_
  rotate_left
  · intro wx hSx
    go_simp
    all_goals with_reducible rfl
  simp only [Act.put, List.setIfInBounds_toArray, List.set_cons_zero, List.set_cons_succ, List.getElem_toArray, List.getElem_cons_zero, List.getElem_cons_succ]
  refine wpAnyH_take (i := 7) (oi := _) (v := ?_) rfl (by kernel_rfl) (by kernel_rfl) (by kernel_rfl) (fun _ _ _ h => h) (Or.inl ⟨by rfl, ?_⟩) (by assumption) ?_
  rotate_left
  · intro wx hSx
    go_simp
    all_goals with_reducible rfl
  simp only [Act.put, List.setIfInBounds_toArray, List.set_cons_zero, List.set_cons_succ, List.getElem_toArray, List.getElem_cons_zero, List.getElem_cons_succ]
  refine wpAnyH_take (i := 8) (oi := _) (v := ?_) rfl (by kernel_rfl) (by kernel_rfl) (by kernel_rfl) (fun _ _ _ h => h) (Or.inl ⟨by rfl, ?_⟩) (by assumption) ?_
  rotate_left
  · intro wx hSx
    go_simp
    all_goals with_reducible rfl
  simp only [Act.put, List.setIfInBounds_toArray, List.set_cons_zero, List.set_cons_succ, List.getElem_toArray, List.getElem_cons_zero, List.getElem_cons_succ]
  refine wpAnyH_take (i := 9) (oi := _) (v := ?_) rfl (by kernel_rfl) (by kernel_rfl) (by kernel_rfl) (fun _ _ _ h => h) (Or.inl ⟨by rfl, ?_⟩) (by assumption) ?_
  rotate_left
  · intro wx hSx
    go_simp
    all_goals with_reducible rfl
  simp only [Act.put, List.setIfInBounds_toArray, List.set_cons_zero, List.set_cons_succ, List.getElem_toArray, List.getElem_cons_zero, List.getElem_cons_succ]
  refine wpAnyH_take (i := 10) (oi := _) (v := ?_) rfl (by kernel_rfl) (by kernel_rfl) (by kernel_rfl) (fun _ _ _ h => h) (Or.inl ⟨by rfl, ?_⟩) (by assumption) ?_
  rotate_left
  · intro wx hSx
    go_simp
    all_goals with_reducible rfl
  simp only [Act.put, List.setIfInBounds_toArray, List.set_cons_zero, List.set_cons_succ, List.getElem_toArray, List.getElem_cons_zero, List.getElem_cons_succ]
  refine wpAnyH_take (i := 11) (oi := _) (v := ?_) rfl (by kernel_rfl) (by kernel_rfl) (by kernel_rfl) (fun _ _ _ h => h) (Or.inl ⟨by rfl, ?_⟩) (by assumption) ?_
  rotate_left
  · intro wx hSx
    go_simp
    all_goals with_reducible rfl
  simp only [Act.put, List.setIfInBounds_toArray, List.set_cons_zero, List.set_cons_succ, List.getElem_toArray, List.getElem_cons_zero, List.getElem_cons_succ]
  refine wpAnyH_ready (rs := [12]) (by kernel_rfl) (by simp) ?_
  refine AllReadyH.cons (o := _) rfl (fun K hK => ?_) ?_
  · have hmk := make16 wa
    go_simp
    refine Rg.st_alloc hK hHeld KS.out HBR.out ?_
    clear hK K
    intro wr1 hlt hHeld ks hbr
    have HBR := Lib.hid hbr
    have KS := Lib.hid ks
    clear hbr ks hlt
    try simp only [List.setIfInBounds_toArray, List.set_cons_zero, List.set_cons_succ]
    refine wpAnyH_take (i := 13) (oi := _) (v := ?_) rfl (by kernel_rfl) (by kernel_rfl) (by kernel_rfl) (fun _ _ _ h => h) (Or.inl ⟨by rfl, ?_⟩) (by assumption) ?_
    rotate_left
    · intro wx hSx
      have hcv := Rg.back_blk (P := Try.prog) (src := 62) (dst := 9) sZ (noughts 16) 16 16 hSx.2 rfl rfl HSZ.out Try.underlying62 Try.underlying5 Try.underlying9; go_simp
      all_goals with_reducible rfl
    simp only [Act.put, List.setIfInBounds_toArray, List.set_cons_zero, List.set_cons_succ, List.getElem_toArray, List.getElem_cons_zero, List.getElem_cons_succ]
    refine wpAnyH_take (i := 14) (oi := _) (v := ?_) rfl (by kernel_rfl) (by kernel_rfl) (by kernel_rfl) (fun _ _ _ h => h) (Or.inl ⟨by rfl, ?_⟩) (by assumption) ?_
    rotate_left
    · intro wx hSx
      go_simp
      all_goals with_reducible rfl
    simp only [Act.put, List.setIfInBounds_toArray, List.set_cons_zero, List.set_cons_succ, List.getElem_toArray, List.getElem_cons_zero, List.getElem_cons_succ]
    refine wpAnyH_take (i := 15) (oi := _) (v := ?_) rfl (by kernel_rfl) (by kernel_rfl) (by kernel_rfl) (fun _ _ _ h => h) (Or.inl ⟨by rfl, ?_⟩) (by assumption) ?_
    rotate_left
    · intro wx hSx
      go_simp
      all_goals with_reducible rfl
    simp only [Act.put, List.setIfInBounds_toArray, List.set_cons_zero, List.set_cons_succ, List.getElem_toArray, List.getElem_cons_zero, List.getElem_cons_succ]
    refine wpAnyH_done (by kernel_rfl) ?_ _
    have HA := Lib.hid hHeld.1.1
    have HHB := Lib.hid hHeld.1.2
    clear hHeld KS
    obtain ⟨d0, d1, d2, d3, d4, _⟩ := Rw5.row HHB.out
    go_upto_region 12 with (fail)
    obtain ⟨wd, hwd⟩ : ∃ wd, wd = wr1.drew := ⟨_, rfl⟩
    have HBR := Lib.hid (show Below w.heap.size w wd by rw [hwd]; exact HBR.out.drew)
    have HA := Lib.hid (show Blk wd w.heap.size 49 zeroCC by rw [hwd]; exact HA.out.drew)
    have KS := Lib.hid (Rg.Keeps.one w1.heap.size 68 (hdC l v c f o))
    refine wp_region_held_drew (S := fun wx => Blk wx w1.heap.size 68 (hdC l v c f o)) (by kernel_rfl) HHB.out.drew (fun hHeld => ?_)
    rw [← hwd] at hHeld ⊢
    have HWD := Lib.hid hwd
    clear hwd d0 d1 d2 d3 d4
    refine wpAnyH_take (i := 0) (oi := _) (v := ?_) rfl (by kernel_rfl) (by kernel_rfl) (by kernel_rfl) (fun _ _ _ h => h) (Or.inl ⟨by rfl, ?_⟩) (by assumption) ?_
    rotate_left
    · intro wx hSx
      go_simp
      all_goals with_reducible rfl
    simp only [Act.put, List.setIfInBounds_toArray, List.set_cons_zero, List.set_cons_succ, List.getElem_toArray, List.getElem_cons_zero, List.getElem_cons_succ]
    refine wpAnyH_take (i := 1) (oi := _) (v := ?_) rfl (by kernel_rfl) (by kernel_rfl) (by kernel_rfl) (fun _ _ _ h => h) (Or.inl ⟨by rfl, ?_⟩) (by assumption) ?_
    rotate_left
    · intro wx hSx
      obtain ⟨d0, d1, d2, d3, d4, _⟩ := Rw5.row hSx; go_simp
      all_goals with_reducible rfl
    simp only [Act.put, List.setIfInBounds_toArray, List.set_cons_zero, List.set_cons_succ, List.getElem_toArray, List.getElem_cons_zero, List.getElem_cons_succ]
    refine wpAnyH_take (i := 2) (oi := _) (v := ?_) rfl (by kernel_rfl) (by kernel_rfl) (by kernel_rfl) (fun _ _ _ h => h) (Or.inl ⟨by rfl, ?_⟩) (by assumption) ?_
    rotate_left
    · intro wx hSx
      go_simp
      all_goals with_reducible rfl
    simp only [Act.put, List.setIfInBounds_toArray, List.set_cons_zero, List.set_cons_succ, List.getElem_toArray, List.getElem_cons_zero, List.getElem_cons_succ]
    refine wpAnyH_take (i := 3) (oi := _) (v := ?_) rfl (by kernel_rfl) (by kernel_rfl) (by kernel_rfl) (fun _ _ _ h => h) (Or.inl ⟨by rfl, ?_⟩) (by assumption) ?_
    rotate_left
    · intro wx hSx
      go_simp
      all_goals with_reducible rfl
    simp only [Act.put, List.setIfInBounds_toArray, List.set_cons_zero, List.set_cons_succ, List.getElem_toArray, List.getElem_cons_zero, List.getElem_cons_succ]
    refine wpAnyH_take (i := 4) (oi := _) (v := ?_) rfl (by kernel_rfl) (by kernel_rfl) (by kernel_rfl) (fun _ _ _ h => h) (Or.inl ⟨by rfl, ?_⟩) (by assumption) ?_
    rotate_left
    · intro wx hSx
      obtain ⟨d0, d1, d2, d3, d4, _⟩ := Rw5.row hSx; go_simp
      all_goals with_reducible rfl
    simp only [Act.put, List.setIfInBounds_toArray, List.set_cons_zero, List.set_cons_succ, List.getElem_toArray, List.getElem_cons_zero, List.getElem_cons_succ]
    refine wpAnyH_take (i := 5) (oi := _) (v := ?_) rfl (by kernel_rfl) (by kernel_rfl) (by kernel_rfl) (fun _ _ _ h => h) (Or.inl ⟨by rfl, ?_⟩) (by assumption) ?_
    rotate_left
    · intro wx hSx
      go_simp
      all_goals with_reducible rfl
    simp only [Act.put, List.setIfInBounds_toArray, List.set_cons_zero, List.set_cons_succ, List.getElem_toArray, List.getElem_cons_zero, List.getElem_cons_succ]
    refine wpAnyH_take (i := 6) (oi := _) (v := ?_) rfl (by kernel_rfl) (by kernel_rfl) (by kernel_rfl) (fun _ _ _ h => h) (Or.inl ⟨by rfl, ?_⟩) (by assumption) ?_
    rotate_left
    · intro wx hSx
      go_simp
      all_goals with_reducible rfl
    simp only [Act.put, List.setIfInBounds_toArray, List.set_cons_zero, List.set_cons_succ, List.getElem_toArray, List.getElem_cons_zero, List.getElem_cons_succ]
    refine wpAnyH_take (i := 9) (oi := _) (v := ?_) rfl (by kernel_rfl) (by kernel_rfl) (by kernel_rfl) (fun _ _ _ h => h) (Or.inl ⟨by rfl, ?_⟩) (by assumption) ?_
    rotate_left
    · intro wx hSx
      go_simp
      all_goals with_reducible rfl
    simp only [Act.put, List.setIfInBounds_toArray, List.set_cons_zero, List.set_cons_succ, List.getElem_toArray, List.getElem_cons_zero, List.getElem_cons_succ]
    refine wpAnyH_take (i := 10) (oi := _) (v := ?_) rfl (by kernel_rfl) (by kernel_rfl) (by kernel_rfl) (fun _ _ _ h => h) (Or.inl ⟨by rfl, ?_⟩) (by assumption) ?_
    rotate_left
    · intro wx hSx
      go_simp
      all_goals with_reducible rfl
    simp only [Act.put, List.setIfInBounds_toArray, List.set_cons_zero, List.set_cons_succ, List.getElem_toArray, List.getElem_cons_zero, List.getElem_cons_succ]
    refine wpAnyH_take (i := 11) (oi := _) (v := ?_) rfl (by kernel_rfl) (by kernel_rfl) (by kernel_rfl) (fun _ _ _ h => h) (Or.inl ⟨by rfl, ?_⟩) (by assumption) ?_
    rotate_left
    · intro wx hSx
      go_simp
      all_goals with_reducible rfl
    simp only [Act.put, List.setIfInBounds_toArray, List.set_cons_zero, List.set_cons_succ, List.getElem_toArray, List.getElem_cons_zero, List.getElem_cons_succ]
    refine wpAnyH_take (i := 12) (oi := _) (v := ?_) rfl (by kernel_rfl) (by kernel_rfl) (by kernel_rfl) (fun _ _ _ h => h) (Or.inl ⟨by rfl, ?_⟩) (by assumption) ?_
    rotate_left
    · intro wx hSx
      go_simp
      all_goals with_reducible rfl
    simp only [Act.put, List.setIfInBounds_toArray, List.set_cons_zero, List.set_cons_succ, List.getElem_toArray, List.getElem_cons_zero, List.getElem_cons_succ]
    refine wpAnyH_ready (rs := [7]) (by kernel_rfl) (by simp) ?_
    refine AllReadyH.cons (o := _) rfl (fun K hK => ?_) ?_
    · go_simp
      refine (get_at cb 0 4 _ HN4.out HCM.out (by omega) (by omega) HC4.out).mono ?_
      rintro x wr1 ⟨rfl, hbc⟩
      go_wp2_with fail
      have HA := Lib.hid (HA.out.below hbc HA.out.lt)
      refine Rg.st_call hK hHeld KS.out HBR.out hbc ?_
      clear hK K
      intro hHeld hbr
      have HBR := Lib.hid hbr
      clear hbr hbc
      try simp only [List.setIfInBounds_toArray, List.set_cons_zero, List.set_cons_succ]
      refine wpAnyH_take (i := 8) (oi := _) (v := ?_) rfl (by kernel_rfl) (by kernel_rfl) (by kernel_rfl) (fun _ _ _ h => h) (Or.inl ⟨by rfl, ?_⟩) (by assumption) ?_
      rotate_left
      · intro wx hSx
        go_simp
        all_goals with_reducible rfl
      simp only [Act.put, List.setIfInBounds_toArray, List.set_cons_zero, List.set_cons_succ, List.getElem_toArray, List.getElem_cons_zero, List.getElem_cons_succ]
      refine wpAnyH_take (i := 13) (oi := _) (v := ?_) rfl (by kernel_rfl) (by kernel_rfl) (by kernel_rfl) (fun _ _ _ h => h) (Or.inl ⟨by rfl, ?_⟩) (by assumption) ?_
      rotate_left
      · intro wx hSx
        go_simp
        all_goals with_reducible rfl
      simp only [Act.put, List.setIfInBounds_toArray, List.set_cons_zero, List.set_cons_succ, List.getElem_toArray, List.getElem_cons_zero, List.getElem_cons_succ]
      refine wpAnyH_ready (rs := [14]) (by kernel_rfl) (by simp) ?_
      refine AllReadyH.cons (o := _) rfl (fun K hK => ?_) ?_
      · obtain ⟨i0, i1, i2, i3, i4, j0, j1, j2, j3, j4⟩ := Rw5.row HA.out
        go_simp
        refine hK.out _ _ (Rw5.far hHeld (Nat.ne_of_gt HNE.out) _ _ _ _ _) (fun hHeld => ?_)
        clear hK K
        try simp only [List.setIfInBounds_toArray, List.set_cons_zero, List.set_cons_succ]
        refine wpAnyH_take (i := 15) (oi := _) (v := ?_) rfl (by kernel_rfl) (by kernel_rfl) (by kernel_rfl) (fun _ _ _ h => h) (Or.inl ⟨by rfl, ?_⟩) (by assumption) ?_
        rotate_left
        · intro wx hSx
          go_simp
          all_goals with_reducible rfl
        simp only [Act.put, List.setIfInBounds_toArray, List.set_cons_zero, List.set_cons_succ, List.getElem_toArray, List.getElem_cons_zero, List.getElem_cons_succ]
        refine wpAnyH_done (by kernel_rfl) ?_ _
        go_wp2
        (try simp only [Exit.inBlock, Exit.then]); refine bodyPost_ret (results_row2 rfl _ _ w.heap.size 49 _ (0, 0) _ rfl (Rw5.blk_set HA.out _ _ _ _ _) Try.underlying49 rfl info_rcmsg) rfl ?_
        exact ⟨rfl, Rw5.below_set HBR.out (Nat.le_refl _) _ _ _ _ _⟩
      exact AllReadyH.nil
    exact AllReadyH.nil
  exact AllReadyH.nil
theorem ropen_at {m : Cm} {r : Nat} (s : ByteArray) (lv : Nat) (w : World) (h : openC s.data.toList lv = (m, r)) :
    Calls Try.prog 21 #[.string s, .int .u8 (lv : Int)] w fun x w' => x = .returned (.tuple #[valC m, .int .i64 (r : Int)]) ∧ Below w.heap.size w w' := by
  obtain ⟨⟨l, v, c, f, o⟩, cs, k, ho⟩ : ∃ hd cs k, openO s.data.toList = (hd, cs, k) := ⟨_, _, _, rfl⟩
  unfold openC at h
  rw [ho] at h
  simp only at h
  by_cases hk : k ≠ 0
  · rw [if_pos hk] at h
    simp only [Prod.mk.injEq] at h
    obtain ⟨rfl, rfl⟩ := h
    exact ropen_err s _ l v c f o cs k lv w ho rfl hk
  obtain rfl : k = 0 := by simpa using hk
  rw [if_neg hk] at h
  unfold openA at h
  by_cases hi : isO ⟨l, v, c, f, o⟩ lv 0 1 70 ≠ 0
  · rw [if_pos hi] at h
    simp only [Prod.mk.injEq] at h
    obtain ⟨rfl, rfl⟩ := h
    exact ropen_is s _ l v c f o cs 0 lv _ w ho rfl rfl rfl hi
  rw [if_neg hi] at h
  have hi0 : isO ⟨l, v, c, f, o⟩ lv 0 1 70 = 0 := by simpa using hi
  obtain ⟨hlv, hf, hcl⟩ := read_facts ho hi0
  have hsz : (⟨cs.toArray⟩ : ByteArray).size = 70 := by rw [size_mk, hcl]
  generalize htl : (⟨cs.toArray⟩ : ByteArray).extract 54 (⟨cs.toArray⟩ : ByteArray).size = tl
  have htd : tl.data.toList = cs.drop 54 := by rw [← htl, extract_list]
  obtain ⟨zb, hz⟩ : ∃ zb, (tl.toList == (⟨(noughts 16).toArray⟩ : ByteArray).toList) = zb := ⟨_, rfl⟩
  have hz' : (tl.toList != (⟨(noughts 16).toArray⟩ : ByteArray).toList) = !zb := by rw [← hz]; rfl
  have hzi : zb = true ↔ cs.drop 54 = noughts 16 := by
    rw [← hz, beq_iff_eq, Go.ByteArray.toList_eq, Go.ByteArray.toList_eq, htd]
  have hnm : (⟨cs.toArray⟩ : ByteArray).extract 6 54 = ⟨((cs.drop 6).take 48).toArray⟩ := by
    apply ba_ext
    rw [ByteArray.data_extract, Array.toList_extract, List.extract_eq_take_drop]
  have hc4 : getN cs 0 4 < 4294967296 := by have := getN_lt cs 0 4; simpa using this
  have hc2 : getN cs 4 2 < 65536 := by have := getN_lt cs 4 2; simpa using this
  have hb2 : decide ((128 : Int) ≤ (f : Int)) = decide (128 ≤ f) := by rw [Bool.eq_iff_iff]; simp; omega
  by_cases hst : stray ⟨l, v, c, f, o⟩ cs
  · rw [if_pos hst] at h
    simp only [Prod.mk.injEq] at h
    obtain ⟨rfl, rfl⟩ := h
    by_cases h1 : 8192 ≤ getN cs 4 2
    · exact ropen_strayA s _ tl _ _ l v c f o cs lv _ _ _ _ zb _ w ho rfl hi0 (by omega) (by omega) hf rfl rfl rfl rfl hb2 htl hnm rfl hz hz' hc2 hc4 h1
    by_cases h2 : f / 8 % 16 ≠ 0
    · exact ropen_strayB s _ tl _ _ l v c f o cs lv _ _ _ _ zb _ w ho rfl hi0 (by omega) (by omega) hf rfl rfl rfl rfl hb2 htl hnm rfl hz hz' hc2 hc4 (Nat.lt_of_not_le h1) h2
    refine ropen_strayC s _ tl _ _ l v c f o cs lv _ _ _ _ zb _ w ho rfl hi0 (by omega) (by omega) hf rfl rfl rfl rfl hb2 htl hnm rfl hz hz' hc2 hc4 (Nat.lt_of_not_le h1) (by simpa using h2) ?_
    unfold stray at hst
    simp only at hst
    have h8 : cs.drop 54 ≠ noughts 16 := by
      rcases hst with h | h | h
      · exact absurd h h1
      · exact absurd h h2
      · exact h
    cases zb with
    | false => rfl
    | true => exact absurd (hzi.1 rfl) h8
  rw [if_neg hst] at h
  unfold stray at hst
  simp only at hst
  have h1 : f / 8 % 16 = 0 := by omega
  have h2 : getN cs 4 2 < 8192 := by omega
  have h8 : zb = true := by
    by_cases e : cs.drop 54 = noughts 16
    · exact hzi.2 e
    · exact absurd (.inr (.inr e)) hst
  by_cases hp : f % 8 = 0
  · rw [if_pos (.inl hp)] at h
    simp only [Prod.mk.injEq] at h
    obtain ⟨rfl, rfl⟩ := h
    exact ropen_noP s _ tl _ _ l v c f o cs lv _ _ _ _ zb _ w ho rfl hi0 (by omega) (by omega) hf rfl rfl rfl rfl hb2 htl hnm rfl hz hz' hc2 hc4 h2 h1 h8 hp
  by_cases he : getN cs 4 2 = 0
  · rw [if_pos (.inr he)] at h
    simp only [Prod.mk.injEq] at h
    obtain ⟨rfl, rfl⟩ := h
    exact ropen_noE s _ tl _ _ l v c f o cs lv _ _ _ _ zb _ w ho rfl hi0 (by omega) (by omega) hf rfl rfl rfl rfl hb2 htl hnm rfl hz hz' hc2 hc4 h2 h1 h8 hp he
  rw [if_neg (show ¬ (f % 8 = 0 ∨ getN cs 4 2 = 0) by omega)] at h
  simp only [Prod.mk.injEq] at h
  obtain ⟨rfl, rfl⟩ := h
  exact ropen_ok s _ tl _ _ l v c f o cs lv _ _ _ _ zb _ w ho rfl hi0 (by omega) (by omega) hf rfl rfl rfl rfl hb2 htl hnm rfl hz hz' hc2 hc4 h2 h1 h8 hp he
end Go.Proofs.Ytnapbmdkaldncaa.Cc
