/-
  Contract of the document's Open of a ring's message.
-/
import Derived.Test.YtnapbmdkaldncaaRpH
namespace Go.Proofs.Ytnapbmdkaldncaa.Rp
open Go.RowKit Go.Proofs.Ytnapbmdkaldncaa.Bt Go.Proofs.Ytnapbmdkaldncaa.Mm Go.Proofs.Ytnapbmdkaldncaa.Fl Go.Proofs.Ytnapbmdkaldncaa.Lw Go.Proofs.Ytnapbmdkaldncaa.Hx Go.Proofs.Ytnapbmdkaldncaa.Mc Go.Proofs.Ytnapbmdkaldncaa.Tg Go.Proofs.Ytnapbmdkaldncaa.Oa
set_option linter.unusedSimpArgs false
set_option linter.unusedVariables false

set_option maxRecDepth 100000 in
set_option maxHeartbeats 4000000 in
theorem ropen_wrongW (s cb tail sZ : ByteArray) (l v c f o : Nat) (cs : List UInt8) (lv a0 a1 q z1 z2 x1 x2 n : Nat) (zb : Bool) (b2 b3 b4 : Bool) (r : Nat) (w : World) (ho : openO s.data.toList = (⟨l, v, c, f, o⟩, cs, 0)) (hcb : (⟨cs.toArray⟩ : ByteArray) = cb) (hi : isO ⟨l, v, c, f, o⟩ lv 1 40 32 = 0) (hc1 : 32 ≤ cb.size) (hc2 : cb.size ≤ 32)
    (h0 : (cb[0]).toNat = a0) (h1 : (cb[1]).toNat = a1) (hq : a0 / 16 = q) (hz1 : a0 % 16 = z1) (hz2 : a1 % 32 = z2) (hx1 : a1 / 64 % 2 = x1) (hx2 : a1 / 32 % 2 = x2) (hn : getN cs 2 6 = n)
    (ht : cb.extract 8 cb.size = tail) (hsz : (⟨(noughts 24).toArray⟩ : ByteArray) = sZ) (hz : (tail.toList == sZ.toList) = zb) (hz' : (tail.toList != sZ.toList) = !zb) (ha0 : a0 < 256) (ha1 : a1 < 256) (hf : f = 0) (hy : z1 = 0) (hy2 : z2 = 0) (hzb : zb = true) (hb2 : decide ((128 : Int) ≤ (a1 : Int)) = b2) (hb3 : ((x1 : Int) == 1) = b3) (hb4 : ((x2 : Int) == 1) = b4) (hgn : getN cb.data.toList 2 6 = n) (hn2 : n < 18446744073709551616) (hw : wrongM ⟨q, b2, b3, b4, n⟩ = r) (hr : r ≠ 0) :
    Calls Try.prog 14 #[.string s, .int .u8 (lv : Int)] w fun x w' => x = .returned (.tuple #[zeroMV, .int .i64 (r : Int)]) ∧ Below w.heap.size w w' := by
  have HO := Lib.hid ho; clear ho
  have HCB := Lib.hid hcb; clear hcb
  have HI := Lib.hid hi; clear hi
  have HN := Lib.hid hn; clear hn
  have HSZ := Lib.hid hsz; clear hsz
  have mm1 : 0 < cb.size := by omega
  have mm2 : 1 < cb.size := by omega
  have mm3 : 8 ≤ cb.size := by omega
  have m1 : (0 : Int) < (cb.size : Int) := by omega
  have m2 : (1 : Int) < (cb.size : Int) := by omega
  have m3 : (8 : Int) ≤ (cb.size : Int) := by omega
  have t0 : (a0 : Int).tdiv 16 = (q : Int) := by rw [Int.tdiv_eq_ediv_of_nonneg (by omega)]; omega
  have t1 : (a0 : Int).tmod 16 = (z1 : Int) := by rw [Int.tmod_eq_emod_of_nonneg (by omega)]; omega
  have t2 : (a1 : Int).tmod 32 = (z2 : Int) := by rw [Int.tmod_eq_emod_of_nonneg (by omega)]; omega
  obtain ⟨e3, t3, le3⟩ : ∃ e3 : Nat, (a1 : Int).tdiv 64 = (e3 : Int) ∧ e3 < 256 := ⟨a1 / 64, by rw [Int.tdiv_eq_ediv_of_nonneg (by omega)]; omega, by omega⟩
  obtain ⟨e4, t4, le4⟩ : ∃ e4 : Nat, (a1 : Int).tdiv 32 = (e4 : Int) ∧ e4 < 256 := ⟨a1 / 32, by rw [Int.tdiv_eq_ediv_of_nonneg (by omega)]; omega, by omega⟩
  have t5 : (e3 : Int).tmod 2 = (x1 : Int) := by rw [← t3, Int.tdiv_eq_ediv_of_nonneg (by omega), Int.tmod_eq_emod_of_nonneg (by omega)]; omega
  have t6 : (e4 : Int).tmod 2 = (x2 : Int) := by rw [← t4, Int.tdiv_eq_ediv_of_nonneg (by omega), Int.tmod_eq_emod_of_nonneg (by omega)]; omega
  have k0 : IntKind.u8.wrap (q : Int) = (q : Int) := IntWalk.u8_in _ ⟨by omega, by omega⟩
  have k3 : IntKind.u8.wrap (e3 : Int) = (e3 : Int) := IntWalk.u8_in _ ⟨by omega, by omega⟩
  have k4 : IntKind.u8.wrap (e4 : Int) = (e4 : Int) := IntWalk.u8_in _ ⟨by omega, by omega⟩
  clear hz1 hz2 hx1 hx2 hq
  have q1 : ((f : Int) != 0) = false := neq_f (by omega)
  have q2 : ((z1 : Int) != 0) = false := neq_f (by omega)
  have q3 : ((z2 : Int) != 0) = false := neq_f (by omega)
  subst hzb
  clear hf hy hy2
  have HGN := Lib.hid hgn
  have HN2 := Lib.hid hn2
  have HW := Lib.hid hw
  have HCM := Lib.hid (show cb.size ≤ maxLen by unfold maxLen; omega)
  have HC8 := Lib.hid (show 2 + 6 ≤ cb.size by omega)
  clear hgn hn2 hw
  have q4 : ((r : Int) != 0) = true := neq_t (by omega)
  clear hr
  go_enter Try.func14, Try.ntmps14
  go_wp2_with fail
  refine (Oa.ropen_at s _ HO.out).mono ?_
  rintro x w1 ⟨rfl, hb1⟩
  have HK := Lib.hid ((Blk.fresh w 33 zeroMC).below hb1 (by simp))
  have HB := Lib.hid (((Below.refl w.heap.size w).alloc (Nat.le_refl _) (.cells zeroMC 33)).trans (hb1.mono (by simp)))
  clear hb1
  simp only [valH]
  rw [HCB.out]
  go_upto_if 19 with (fail)
  have H6 := Lib.hid (HB.out.alloc HB.out.size (.cells (hdC l v c f o) 68))
  have H7 := Lib.hid (HK.out.alloc (.cells (hdC l v c f o) 68))
  have H8 := Lib.hid (Blk.fresh w1 68 (hdC l v c f o))
  generalize w1.alloc (.cells (hdC l v c f o) 68) = w2 at H6 H7 H8 ⊢
  obtain ⟨c0, c1, c2, c3, c4, y0, y1, y2, y3, y4⟩ := Rw5.row H7.out
  obtain ⟨d0, d1, d2, d3, d4, _⟩ := Rw5.row H8.out
  go_wp2_with fail
  refine (ris_any l v c f o lv 1 40 32 _).mono ?_
  rintro x w3 ⟨rfl, hbb⟩
  have HB2 := Lib.hid (H6.out.trans (hbb.mono H6.out.size))
  have HK2 := Lib.hid (H7.out.below hbb H7.out.lt)
  have HH2 := Lib.hid (H8.out.below hbb H8.out.lt)
  rw [HI.out]
  clear hbb c0 c1 c2 c3 c4 y0 y1 y2 y3 y4 d0 d1 d2 d3 d4
  go_upto_region 7 with (fail)
  obtain ⟨wa, hwa⟩ : ∃ wa, wa = w3.drew := ⟨_, rfl⟩
  have HKA := Lib.hid (show Blk wa w.heap.size 33 zeroMC by rw [hwa]; exact HK2.out.drew)
  have HHA := Lib.hid (show Blk wa w1.heap.size 68 (hdC l v c f o) by rw [hwa]; exact HH2.out.drew)
  have HBA := Lib.hid (show Below w.heap.size w wa by rw [hwa]; exact HB2.out.drew)
  have HBR := Lib.hid HBA.out
  have KS := Lib.hid ((Rg.Keeps.one w.heap.size 33 zeroMC).blk w1.heap.size 68 (hdC l v c f o))
  refine wp_region_held_drew (S := fun wx => Blk wx w.heap.size 33 zeroMC ∧ Blk wx w1.heap.size 68 (hdC l v c f o)) (by kernel_rfl) ⟨HK2.out, HH2.out⟩ (fun hHeld => ?_)
  rw [← hwa] at hHeld ⊢
  have HWA := Lib.hid hwa
  clear hwa
  refine wpAnyH_take (i := 0) (oi := _) (v := ?_) rfl (by kernel_rfl) (by kernel_rfl) (by kernel_rfl) (fun _ _ _ h => h) (Or.inl ⟨by rfl, ?_⟩) (by assumption) ?_
  rotate_left
  · intro wx hSx
    go_simp
    all_goals with_reducible rfl
  simp only [Act.put, List.setIfInBounds_toArray, List.set_cons_zero, List.set_cons_succ, List.getElem_toArray, List.getElem_cons_zero, List.getElem_cons_succ]
  refine wpAnyH_take (i := 1) (oi := _) (v := ?_) rfl (by kernel_rfl) (by kernel_rfl) (by kernel_rfl) (fun _ _ _ h => h) (Or.inl ⟨by rfl, ?_⟩) (by assumption) ?_
  rotate_left
  · intro wx hSx
    obtain ⟨d0, d1, d2, d3, d4, _⟩ := Rw5.row hSx.2; go_simp
    all_goals with_reducible rfl
  simp only [Act.put, List.setIfInBounds_toArray, List.set_cons_zero, List.set_cons_succ, List.getElem_toArray, List.getElem_cons_zero, List.getElem_cons_succ]
  refine wpAnyH_take (i := 2) (oi := _) (v := ?_) rfl (by kernel_rfl) (by kernel_rfl) (by kernel_rfl) (fun _ _ _ h => h) (Or.inl ⟨by rfl, ?_⟩) (by assumption) ?_
  rotate_left
  · intro wx hSx
    go_simp
    all_goals with_reducible rfl
  simp only [Act.put, List.setIfInBounds_toArray, List.set_cons_zero, List.set_cons_succ, List.getElem_toArray, List.getElem_cons_zero, List.getElem_cons_succ]
  refine wpAnyH_take (i := 3) (oi := _) (v := ?_) rfl (by kernel_rfl) (by kernel_rfl) (by kernel_rfl) (fun _ _ _ h => h) (Or.inl ⟨by rfl, ?_⟩) (by assumption) ?_
  rotate_left
  · intro wx hSx
    go_simp
    all_goals with_reducible rfl
  simp only [Act.put, List.setIfInBounds_toArray, List.set_cons_zero, List.set_cons_succ, List.getElem_toArray, List.getElem_cons_zero, List.getElem_cons_succ]
  refine wpAnyH_take (i := 4) (oi := _) (v := ?_) rfl (by kernel_rfl) (by kernel_rfl) (by kernel_rfl) (fun _ _ _ h => h) (Or.inl ⟨by rfl, ?_⟩) (by assumption) ?_
  rotate_left
  · intro wx hSx
    go_simp
    all_goals with_reducible rfl
  simp only [Act.put, List.setIfInBounds_toArray, List.set_cons_zero, List.set_cons_succ, List.getElem_toArray, List.getElem_cons_zero, List.getElem_cons_succ]
  refine wpAnyH_take (i := 5) (oi := _) (v := ?_) rfl (by kernel_rfl) (by kernel_rfl) (by kernel_rfl) (fun _ _ _ h => h) (Or.inl ⟨by rfl, ?_⟩) (by assumption) ?_
  rotate_left
  · intro wx hSx
    go_simp
    all_goals with_reducible rfl
  simp only [Act.put, List.setIfInBounds_toArray, List.set_cons_zero, List.set_cons_succ, List.getElem_toArray, List.getElem_cons_zero, List.getElem_cons_succ]
  refine wpAnyH_take (i := 6) (oi := _) (v := ?_) rfl (by kernel_rfl) (by kernel_rfl) (by kernel_rfl) (fun _ _ _ h => h) (Or.inl ⟨by rfl, ?_⟩) (by assumption) ?_
  rotate_left
  · intro wx hSx
    go_simp
    all_goals with_reducible rfl
  simp only [Act.put, List.setIfInBounds_toArray, List.set_cons_zero, List.set_cons_succ, List.getElem_toArray, List.getElem_cons_zero, List.getElem_cons_succ]
  refine wpAnyH_take (i := 7) (oi := _) (v := ?_) rfl (by kernel_rfl) (by kernel_rfl) (by kernel_rfl) (fun _ _ _ h => h) (Or.inl ⟨by rfl, ?_⟩) (by assumption) ?_
  rotate_left
  · intro wx hSx
    go_simp
    all_goals with_reducible rfl
  simp only [Act.put, List.setIfInBounds_toArray, List.set_cons_zero, List.set_cons_succ, List.getElem_toArray, List.getElem_cons_zero, List.getElem_cons_succ]
  refine wpAnyH_take (i := 8) (oi := _) (v := ?_) rfl (by kernel_rfl) (by kernel_rfl) (by kernel_rfl) (fun _ _ _ h => h) (Or.inl ⟨by rfl, ?_⟩) (by assumption) ?_
  rotate_left
  · intro wx hSx
    go_simp
    all_goals with_reducible rfl
  simp only [Act.put, List.setIfInBounds_toArray, List.set_cons_zero, List.set_cons_succ, List.getElem_toArray, List.getElem_cons_zero, List.getElem_cons_succ]
  refine wpAnyH_take (i := 9) (oi := _) (v := ?_) rfl (by kernel_rfl) (by kernel_rfl) (by kernel_rfl) (fun _ _ _ h => h) (Or.inl ⟨by rfl, ?_⟩) (by assumption) ?_
  rotate_left
  · intro wx hSx
    go_simp
    all_goals with_reducible rfl
  simp only [Act.put, List.setIfInBounds_toArray, List.set_cons_zero, List.set_cons_succ, List.getElem_toArray, List.getElem_cons_zero, List.getElem_cons_succ]
  refine wpAnyH_take (i := 10) (oi := _) (v := ?_) rfl (by kernel_rfl) (by kernel_rfl) (by kernel_rfl) (fun _ _ _ h => h) (Or.inl ⟨by rfl, ?_⟩) (by assumption) ?_
  rotate_left
  · intro wx hSx
    go_simp
    all_goals with_reducible rfl
  simp only [Act.put, List.setIfInBounds_toArray, List.set_cons_zero, List.set_cons_succ, List.getElem_toArray, List.getElem_cons_zero, List.getElem_cons_succ]
  refine wpAnyH_take (i := 11) (oi := _) (v := ?_) rfl (by kernel_rfl) (by kernel_rfl) (by kernel_rfl) (fun _ _ _ h => h) (Or.inl ⟨by rfl, ?_⟩) (by assumption) ?_
  rotate_left
  · intro wx hSx
    go_simp
    all_goals with_reducible rfl
  simp only [Act.put, List.setIfInBounds_toArray, List.set_cons_zero, List.set_cons_succ, List.getElem_toArray, List.getElem_cons_zero, List.getElem_cons_succ]
  refine wpAnyH_take (i := 12) (oi := _) (v := ?_) rfl (by kernel_rfl) (by kernel_rfl) (by kernel_rfl) (fun _ _ _ h => h) (Or.inl ⟨by rfl, ?_⟩) (by assumption) ?_
  rotate_left
  · intro wx hSx
    go_simp
    all_goals with_reducible rfl
  simp only [Act.put, List.setIfInBounds_toArray, List.set_cons_zero, List.set_cons_succ, List.getElem_toArray, List.getElem_cons_zero, List.getElem_cons_succ]
  refine wpAnyH_take (i := 13) (oi := _) (v := ?_) rfl (by kernel_rfl) (by kernel_rfl) (by kernel_rfl) (fun _ _ _ h => h) (Or.inl ⟨by rfl, ?_⟩) (by assumption) ?_
  rotate_left
  · intro wx hSx
    go_simp
    all_goals with_reducible rfl
  simp only [Act.put, List.setIfInBounds_toArray, List.set_cons_zero, List.set_cons_succ, List.getElem_toArray, List.getElem_cons_zero, List.getElem_cons_succ]
  refine wpAnyH_take (i := 14) (oi := _) (v := ?_) rfl (by kernel_rfl) (by kernel_rfl) (by kernel_rfl) (fun _ _ _ h => h) (Or.inl ⟨by rfl, ?_⟩) (by assumption) ?_
  rotate_left
  · intro wx hSx
    go_simp
    all_goals with_reducible rfl
  simp only [Act.put, List.setIfInBounds_toArray, List.set_cons_zero, List.set_cons_succ, List.getElem_toArray, List.getElem_cons_zero, List.getElem_cons_succ]
  refine wpAnyH_take (i := 15) (oi := _) (v := ?_) rfl (by kernel_rfl) (by kernel_rfl) (by kernel_rfl) (fun _ _ _ h => h) (Or.inl ⟨by rfl, ?_⟩) (by assumption) ?_
  rotate_left
  · intro wx hSx
    go_simp
    all_goals with_reducible rfl
  simp only [Act.put, List.setIfInBounds_toArray, List.set_cons_zero, List.set_cons_succ, List.getElem_toArray, List.getElem_cons_zero, List.getElem_cons_succ]
  refine wpAnyH_take (i := 16) (oi := _) (v := ?_) rfl (by kernel_rfl) (by kernel_rfl) (by kernel_rfl) (fun _ _ _ h => h) (Or.inl ⟨by rfl, ?_⟩) (by assumption) ?_
  rotate_left
  · intro wx hSx
    go_simp
    all_goals with_reducible rfl
  simp only [Act.put, List.setIfInBounds_toArray, List.set_cons_zero, List.set_cons_succ, List.getElem_toArray, List.getElem_cons_zero, List.getElem_cons_succ]
  refine wpAnyH_take (i := 17) (oi := _) (v := ?_) rfl (by kernel_rfl) (by kernel_rfl) (by kernel_rfl) (fun _ _ _ h => h) (Or.inl ⟨by rfl, ?_⟩) (by assumption) ?_
  rotate_left
  · intro wx hSx
    go_simp
    all_goals with_reducible rfl
  simp only [Act.put, List.setIfInBounds_toArray, List.set_cons_zero, List.set_cons_succ, List.getElem_toArray, List.getElem_cons_zero, List.getElem_cons_succ]
  refine wpAnyH_ready (rs := [18]) (by kernel_rfl) (by simp) ?_
  refine AllReadyH.cons (o := _) rfl (fun K hK => ?_) ?_
  · have hmk := make24 wa
    go_simp
    refine Rg.st_alloc hK hHeld KS.out HBR.out ?_
    clear hK K
    intro wr1 hlt hHeld ks hbr
    have HBR := Lib.hid hbr
    have KS := Lib.hid ks
    clear hbr ks hlt
    try simp only [List.setIfInBounds_toArray, List.set_cons_zero, List.set_cons_succ]
    refine wpAnyH_take (i := 19) (oi := _) (v := ?_) rfl (by kernel_rfl) (by kernel_rfl) (by kernel_rfl) (fun _ _ _ h => h) (Or.inl ⟨by rfl, ?_⟩) (by assumption) ?_
    rotate_left
    · intro wx hSx
      have hcv := Rg.back_blk (P := Try.prog) (src := 62) (dst := 9) sZ (noughts 24) 24 24 hSx.2 rfl rfl HSZ.out Try.underlying62 Try.underlying5 Try.underlying9; go_simp
      all_goals with_reducible rfl
    simp only [Act.put, List.setIfInBounds_toArray, List.set_cons_zero, List.set_cons_succ, List.getElem_toArray, List.getElem_cons_zero, List.getElem_cons_succ]
    refine wpAnyH_take (i := 20) (oi := _) (v := ?_) rfl (by kernel_rfl) (by kernel_rfl) (by kernel_rfl) (fun _ _ _ h => h) (Or.inl ⟨by rfl, ?_⟩) (by assumption) ?_
    rotate_left
    · intro wx hSx
      go_simp
      all_goals with_reducible rfl
    simp only [Act.put, List.setIfInBounds_toArray, List.set_cons_zero, List.set_cons_succ, List.getElem_toArray, List.getElem_cons_zero, List.getElem_cons_succ]
    refine wpAnyH_take (i := 21) (oi := _) (v := ?_) rfl (by kernel_rfl) (by kernel_rfl) (by kernel_rfl) (fun _ _ _ h => h) (Or.inl ⟨by rfl, ?_⟩) (by assumption) ?_
    rotate_left
    · intro wx hSx
      go_simp
      all_goals with_reducible rfl
    simp only [Act.put, List.setIfInBounds_toArray, List.set_cons_zero, List.set_cons_succ, List.getElem_toArray, List.getElem_cons_zero, List.getElem_cons_succ]
    refine wpAnyH_done (by kernel_rfl) ?_ _
    have HKB := Lib.hid hHeld.1.1
    clear hHeld KS
    go_wp2_with fail
    go_upto_region 9 with (fail)
    go_cut [10] (fun s10 wx => ∃ g, s10 = .pointer (some ⟨g, 0, none⟩) ∧ Blk wx w.heap.size 33 zeroMC ∧ Blk wx g 33 (msC q b2 b3 b4 n) ∧ Below w.heap.size w wx)
    case first =>
      obtain ⟨wd, hwd⟩ : ∃ wd, wd = wr1.drew := ⟨_, rfl⟩
      have HBR := Lib.hid (show Below w.heap.size w wd by rw [hwd]; exact HBR.out.drew)
      have KS := Lib.hid (Rg.Keeps.one w.heap.size 33 zeroMC)
      refine wp_region_held_drew (S := fun wx => Blk wx w.heap.size 33 zeroMC) (by kernel_rfl) HKB.out.drew (fun hHeld => ?_)
      rw [← hwd] at hHeld ⊢
      have HWD := Lib.hid hwd
      clear hwd
      refine wpAnyH_take (i := 0) (oi := _) (v := ?_) rfl (by kernel_rfl) (by kernel_rfl) (by kernel_rfl) (fun _ _ _ h => h) (Or.inl ⟨by rfl, ?_⟩) (by assumption) ?_
      rotate_left
      · intro wx hSx
        go_simp
        all_goals with_reducible rfl
      simp only [Act.put, List.setIfInBounds_toArray, List.set_cons_zero, List.set_cons_succ, List.getElem_toArray, List.getElem_cons_zero, List.getElem_cons_succ]
      refine wpAnyH_take (i := 1) (oi := _) (v := ?_) rfl (by kernel_rfl) (by kernel_rfl) (by kernel_rfl) (fun _ _ _ h => h) (Or.inl ⟨by rfl, ?_⟩) (by assumption) ?_
      rotate_left
      · intro wx hSx
        go_simp
        all_goals with_reducible rfl
      simp only [Act.put, List.setIfInBounds_toArray, List.set_cons_zero, List.set_cons_succ, List.getElem_toArray, List.getElem_cons_zero, List.getElem_cons_succ]
      refine wpAnyH_take (i := 2) (oi := _) (v := ?_) rfl (by kernel_rfl) (by kernel_rfl) (by kernel_rfl) (fun _ _ _ h => h) (Or.inl ⟨by rfl, ?_⟩) (by assumption) ?_
      rotate_left
      · intro wx hSx
        go_simp
        all_goals with_reducible rfl
      simp only [Act.put, List.setIfInBounds_toArray, List.set_cons_zero, List.set_cons_succ, List.getElem_toArray, List.getElem_cons_zero, List.getElem_cons_succ]
      refine wpAnyH_take (i := 3) (oi := _) (v := ?_) rfl (by kernel_rfl) (by kernel_rfl) (by kernel_rfl) (fun _ _ _ h => h) (Or.inl ⟨by rfl, ?_⟩) (by assumption) ?_
      rotate_left
      · intro wx hSx
        go_simp
        all_goals with_reducible rfl
      simp only [Act.put, List.setIfInBounds_toArray, List.set_cons_zero, List.set_cons_succ, List.getElem_toArray, List.getElem_cons_zero, List.getElem_cons_succ]
      refine wpAnyH_take (i := 4) (oi := _) (v := ?_) rfl (by kernel_rfl) (by kernel_rfl) (by kernel_rfl) (fun _ _ _ h => h) (Or.inl ⟨by rfl, ?_⟩) (by assumption) ?_
      rotate_left
      · intro wx hSx
        go_simp
        all_goals with_reducible rfl
      simp only [Act.put, List.setIfInBounds_toArray, List.set_cons_zero, List.set_cons_succ, List.getElem_toArray, List.getElem_cons_zero, List.getElem_cons_succ]
      refine wpAnyH_take (i := 5) (oi := _) (v := ?_) rfl (by kernel_rfl) (by kernel_rfl) (by kernel_rfl) (fun _ _ _ h => h) (Or.inl ⟨by rfl, ?_⟩) (by assumption) ?_
      rotate_left
      · intro wx hSx
        go_simp
        all_goals with_reducible rfl
      simp only [Act.put, List.setIfInBounds_toArray, List.set_cons_zero, List.set_cons_succ, List.getElem_toArray, List.getElem_cons_zero, List.getElem_cons_succ]
      refine wpAnyH_take (i := 6) (oi := _) (v := ?_) rfl (by kernel_rfl) (by kernel_rfl) (by kernel_rfl) (fun _ _ _ h => h) (Or.inl ⟨by rfl, ?_⟩) (by assumption) ?_
      rotate_left
      · intro wx hSx
        go_simp
        all_goals with_reducible rfl
      simp only [Act.put, List.setIfInBounds_toArray, List.set_cons_zero, List.set_cons_succ, List.getElem_toArray, List.getElem_cons_zero, List.getElem_cons_succ]
      refine wpAnyH_take (i := 7) (oi := _) (v := ?_) rfl (by kernel_rfl) (by kernel_rfl) (by kernel_rfl) (fun _ _ _ h => h) (Or.inl ⟨by rfl, ?_⟩) (by assumption) ?_
      rotate_left
      · intro wx hSx
        go_simp
        all_goals with_reducible rfl
      simp only [Act.put, List.setIfInBounds_toArray, List.set_cons_zero, List.set_cons_succ, List.getElem_toArray, List.getElem_cons_zero, List.getElem_cons_succ]
      refine wpAnyH_take (i := 8) (oi := _) (v := ?_) rfl (by kernel_rfl) (by kernel_rfl) (by kernel_rfl) (fun _ _ _ h => h) (Or.inl ⟨by rfl, ?_⟩) (by assumption) ?_
      rotate_left
      · intro wx hSx
        go_simp
        all_goals with_reducible rfl
      simp only [Act.put, List.setIfInBounds_toArray, List.set_cons_zero, List.set_cons_succ, List.getElem_toArray, List.getElem_cons_zero, List.getElem_cons_succ]
      refine wpAnyH_take (i := 9) (oi := _) (v := ?_) rfl (by kernel_rfl) (by kernel_rfl) (by kernel_rfl) (fun _ _ _ h => h) (Or.inl ⟨by rfl, ?_⟩) (by assumption) ?_
      rotate_left
      · intro wx hSx
        go_simp
        all_goals with_reducible rfl
      simp only [Act.put, List.setIfInBounds_toArray, List.set_cons_zero, List.set_cons_succ, List.getElem_toArray, List.getElem_cons_zero, List.getElem_cons_succ]
      refine wpAnyH_take (i := 10) (oi := _) (v := ?_) rfl (by kernel_rfl) (by kernel_rfl) (by kernel_rfl) (fun _ _ _ h => h) (Or.inl ⟨by rfl, ?_⟩) (by assumption) ?_
      rotate_left
      · intro wx hSx
        go_simp
        all_goals with_reducible rfl
      simp only [Act.put, List.setIfInBounds_toArray, List.set_cons_zero, List.set_cons_succ, List.getElem_toArray, List.getElem_cons_zero, List.getElem_cons_succ]
      refine wpAnyH_take (i := 11) (oi := _) (v := ?_) rfl (by kernel_rfl) (by kernel_rfl) (by kernel_rfl) (fun _ _ _ h => h) (Or.inl ⟨by rfl, ?_⟩) (by assumption) ?_
      rotate_left
      · intro wx hSx
        go_simp
        all_goals with_reducible rfl
      simp only [Act.put, List.setIfInBounds_toArray, List.set_cons_zero, List.set_cons_succ, List.getElem_toArray, List.getElem_cons_zero, List.getElem_cons_succ]
      refine wpAnyH_take (i := 12) (oi := _) (v := ?_) rfl (by kernel_rfl) (by kernel_rfl) (by kernel_rfl) (fun _ _ _ h => h) (Or.inl ⟨by rfl, ?_⟩) (by assumption) ?_
      rotate_left
      · intro wx hSx
        go_simp
        all_goals with_reducible rfl
      simp only [Act.put, List.setIfInBounds_toArray, List.set_cons_zero, List.set_cons_succ, List.getElem_toArray, List.getElem_cons_zero, List.getElem_cons_succ]
      refine wpAnyH_take (i := 13) (oi := _) (v := ?_) rfl (by kernel_rfl) (by kernel_rfl) (by kernel_rfl) (fun _ _ _ h => h) (Or.inl ⟨by rfl, ?_⟩) (by assumption) ?_
      rotate_left
      · intro wx hSx
        go_simp
        all_goals with_reducible rfl
      simp only [Act.put, List.setIfInBounds_toArray, List.set_cons_zero, List.set_cons_succ, List.getElem_toArray, List.getElem_cons_zero, List.getElem_cons_succ]
      refine wpAnyH_take (i := 14) (oi := _) (v := ?_) rfl (by kernel_rfl) (by kernel_rfl) (by kernel_rfl) (fun _ _ _ h => h) (Or.inl ⟨by rfl, ?_⟩) (by assumption) ?_
      rotate_left
      · intro wx hSx
        go_simp
        all_goals with_reducible rfl
      simp only [Act.put, List.setIfInBounds_toArray, List.set_cons_zero, List.set_cons_succ, List.getElem_toArray, List.getElem_cons_zero, List.getElem_cons_succ]
      refine wpAnyH_take (i := 15) (oi := _) (v := ?_) rfl (by kernel_rfl) (by kernel_rfl) (by kernel_rfl) (fun _ _ _ h => h) (Or.inl ⟨by rfl, ?_⟩) (by assumption) ?_
      rotate_left
      · intro wx hSx
        go_simp
        all_goals with_reducible rfl
      simp only [Act.put, List.setIfInBounds_toArray, List.set_cons_zero, List.set_cons_succ, List.getElem_toArray, List.getElem_cons_zero, List.getElem_cons_succ]
      refine wpAnyH_take (i := 16) (oi := _) (v := ?_) rfl (by kernel_rfl) (by kernel_rfl) (by kernel_rfl) (fun _ _ _ h => h) (Or.inl ⟨by rfl, ?_⟩) (by assumption) ?_
      rotate_left
      · intro wx hSx
        go_simp
        all_goals with_reducible rfl
      simp only [Act.put, List.setIfInBounds_toArray, List.set_cons_zero, List.set_cons_succ, List.getElem_toArray, List.getElem_cons_zero, List.getElem_cons_succ]
      refine wpAnyH_ready (rs := [17, 19]) (by kernel_rfl) (by simp) ?_
      refine AllReadyH.cons (o := _) rfl (fun K hK => ?_) ?_
      · go_simp
        refine (get_at cb 2 6 _ HGN.out HCM.out (by omega) (by omega) HC8.out).mono ?_
        rintro x wr1 ⟨rfl, hbc⟩
        go_wp2_with fail
        refine Rg.st_call hK hHeld KS.out HBR.out hbc ?_
        clear hK K
        intro hHeld hbr
        have HBR := Lib.hid hbr
        clear hbr hbc
        try simp only [List.setIfInBounds_toArray, List.set_cons_zero, List.set_cons_succ]
        refine wpAnyH_take (i := 18) (oi := _) (v := ?_) rfl (by kernel_rfl) (by kernel_rfl) (by kernel_rfl) (fun _ _ _ h => h) (Or.inl ⟨by rfl, ?_⟩) (by assumption) ?_
        rotate_left
        · intro wx hSx
          go_simp
          all_goals with_reducible rfl
        simp only [Act.put, List.setIfInBounds_toArray, List.set_cons_zero, List.set_cons_succ, List.getElem_toArray, List.getElem_cons_zero, List.getElem_cons_succ]
        refine wpAnyH_ready (rs := [19]) (by kernel_rfl) (by simp) ?_
        refine AllReadyH.cons (o := _) rfl (fun K hK => ?_) ?_
        · go_simp
          refine Rg.st_mk hK hHeld KS.out HBR.out ?_
          clear hK K
          have HGA := Lib.hid (hHeld.lt)
          intro wr2 hlt hHeld hblk hbr
          have HBR := Lib.hid hbr
          have HA := Lib.hid hblk
          clear hbr hblk hlt
          try simp only [List.setIfInBounds_toArray, List.set_cons_zero, List.set_cons_succ]
          refine wpAnyH_ready (rs := [20]) (by kernel_rfl) (by simp) ?_
          refine AllReadyH.cons (o := _) rfl (fun K hK => ?_) ?_
          · obtain ⟨i0, i1, i2, i3, i4, j0, j1, j2, j3, j4⟩ := Rw5.row HA.out
            go_simp
            refine hK.out _ _ (Rw5.far hHeld (Nat.ne_of_lt HGA.out) _ _ _ _ _) (fun hHeld => ?_)
            clear hK K
            try simp only [List.setIfInBounds_toArray, List.set_cons_zero, List.set_cons_succ]
            refine wpAnyH_done (by kernel_rfl) ?_ _
            go_wp2_with fail
            go_meet
            exact ⟨_, rfl, hHeld, Rw5.blk_set HA.out _ _ _ _ _, Rw5.below_set HBR.out (Nat.le_of_lt HGA.out) _ _ _ _ _⟩
          exact AllReadyH.nil
        exact AllReadyH.nil
      refine AllReadyH.cons (o := _) rfl (fun K hK => ?_) ?_
      · go_simp
        refine Rg.st_mk hK hHeld KS.out HBR.out ?_
        clear hK K
        have HGA := Lib.hid (hHeld.lt)
        intro wr4 hlt hHeld hblk hbr
        have HBR := Lib.hid hbr
        have HA := Lib.hid hblk
        clear hbr hblk hlt
        try simp only [List.setIfInBounds_toArray, List.set_cons_zero, List.set_cons_succ]
        refine wpAnyH_ready (rs := [17]) (by kernel_rfl) (by simp) ?_
        refine AllReadyH.cons (o := _) rfl (fun K hK => ?_) ?_
        · go_simp
          refine (get_at cb 2 6 _ HGN.out HCM.out (by omega) (by omega) HC8.out).mono ?_
          rintro x wr5 ⟨rfl, hbc⟩
          go_wp2_with fail
          have HA := Lib.hid (HA.out.below hbc HA.out.lt)
          refine Rg.st_call hK hHeld KS.out HBR.out hbc ?_
          clear hK K
          intro hHeld hbr
          have HBR := Lib.hid hbr
          clear hbr hbc
          try simp only [List.setIfInBounds_toArray, List.set_cons_zero, List.set_cons_succ]
          refine wpAnyH_take (i := 18) (oi := _) (v := ?_) rfl (by kernel_rfl) (by kernel_rfl) (by kernel_rfl) (fun _ _ _ h => h) (Or.inl ⟨by rfl, ?_⟩) (by assumption) ?_
          rotate_left
          · intro wx hSx
            go_simp
            all_goals with_reducible rfl
          simp only [Act.put, List.setIfInBounds_toArray, List.set_cons_zero, List.set_cons_succ, List.getElem_toArray, List.getElem_cons_zero, List.getElem_cons_succ]
          refine wpAnyH_ready (rs := [20]) (by kernel_rfl) (by simp) ?_
          refine AllReadyH.cons (o := _) rfl (fun K hK => ?_) ?_
          · obtain ⟨i0, i1, i2, i3, i4, j0, j1, j2, j3, j4⟩ := Rw5.row HA.out
            go_simp
            refine hK.out _ _ (Rw5.far hHeld (Nat.ne_of_lt HGA.out) _ _ _ _ _) (fun hHeld => ?_)
            clear hK K
            try simp only [List.setIfInBounds_toArray, List.set_cons_zero, List.set_cons_succ]
            refine wpAnyH_done (by kernel_rfl) ?_ _
            go_wp2_with fail
            go_meet
            exact ⟨_, rfl, hHeld, Rw5.blk_set HA.out _ _ _ _ _, Rw5.below_set HBR.out (Nat.le_of_lt HGA.out) _ _ _ _ _⟩
          exact AllReadyH.nil
        exact AllReadyH.nil
      exact AllReadyH.nil
    case rest =>
    obtain ⟨g, rfl, hk9, hx9, hb9⟩ := hcut
    have HK9 := Lib.hid hk9
    have HX9 := Lib.hid hx9
    have HB9 := Lib.hid hb9
    clear hk9 hx9 hb9 hb2 hb3 hb4 t0 t1 t2 t3 t4 t5 t6 k0 k3 k4
    obtain ⟨i0, i1, i2, i3, i4, _⟩ := Rw5.row HX9.out
    go_wp2_with fail
    refine (rwrong_at q b2 b3 b4 n _ HW.out HN2.out).mono ?_
    rintro x w6 ⟨rfl, hb6⟩
    have HX6 := Lib.hid (HX9.out.below hb6 HX9.out.lt)
    have HK6 := Lib.hid (HK9.out.below hb6 HK9.out.lt)
    have HB6 := Lib.hid (HB9.out.trans (hb6.mono HB9.out.size))
    clear hb6 i0 i1 i2 i3 i4
    obtain ⟨i0, i1, i2, i3, i4, _⟩ := Rw5.row HX6.out
    obtain ⟨c0, c1, c2, c3, c4, y0, y1, y2, y3, y4⟩ := Rw5.row HK6.out
    go_wp2
    (try simp only [Exit.inBlock, Exit.then]); refine bodyPost_ret (results_row2 rfl _ _ w.heap.size 33 _ (0, 0) _ rfl (Rw5.blk_set HK6.out _ _ _ _ _) Try.underlying33 rfl info_rmsg) rfl ?_
    exact ⟨rfl, Rw5.below_set HB6.out (Nat.le_refl _) _ _ _ _ _⟩
  exact AllReadyH.nil
set_option maxRecDepth 100000 in
set_option maxHeartbeats 4000000 in
theorem ropen_ok (s cb tail sZ : ByteArray) (l v c f o : Nat) (cs : List UInt8) (lv a0 a1 q z1 z2 x1 x2 n : Nat) (zb : Bool) (b2 b3 b4 : Bool) (r : Nat) (w : World) (ho : openO s.data.toList = (⟨l, v, c, f, o⟩, cs, 0)) (hcb : (⟨cs.toArray⟩ : ByteArray) = cb) (hi : isO ⟨l, v, c, f, o⟩ lv 1 40 32 = 0) (hc1 : 32 ≤ cb.size) (hc2 : cb.size ≤ 32)
    (h0 : (cb[0]).toNat = a0) (h1 : (cb[1]).toNat = a1) (hq : a0 / 16 = q) (hz1 : a0 % 16 = z1) (hz2 : a1 % 32 = z2) (hx1 : a1 / 64 % 2 = x1) (hx2 : a1 / 32 % 2 = x2) (hn : getN cs 2 6 = n)
    (ht : cb.extract 8 cb.size = tail) (hsz : (⟨(noughts 24).toArray⟩ : ByteArray) = sZ) (hz : (tail.toList == sZ.toList) = zb) (hz' : (tail.toList != sZ.toList) = !zb) (ha0 : a0 < 256) (ha1 : a1 < 256) (hf : f = 0) (hy : z1 = 0) (hy2 : z2 = 0) (hzb : zb = true) (hb2 : decide ((128 : Int) ≤ (a1 : Int)) = b2) (hb3 : ((x1 : Int) == 1) = b3) (hb4 : ((x2 : Int) == 1) = b4) (hgn : getN cb.data.toList 2 6 = n) (hn2 : n < 18446744073709551616) (hw : wrongM ⟨q, b2, b3, b4, n⟩ = r) (hr : r = 0) :
    Calls Try.prog 14 #[.string s, .int .u8 (lv : Int)] w fun x w' => x = .returned (.tuple #[msV q b2 b3 b4 n, .int .i64 ((0 : Nat) : Int)]) ∧ Below w.heap.size w w' := by
  have HO := Lib.hid ho; clear ho
  have HCB := Lib.hid hcb; clear hcb
  have HI := Lib.hid hi; clear hi
  have HN := Lib.hid hn; clear hn
  have HSZ := Lib.hid hsz; clear hsz
  have mm1 : 0 < cb.size := by omega
  have mm2 : 1 < cb.size := by omega
  have mm3 : 8 ≤ cb.size := by omega
  have m1 : (0 : Int) < (cb.size : Int) := by omega
  have m2 : (1 : Int) < (cb.size : Int) := by omega
  have m3 : (8 : Int) ≤ (cb.size : Int) := by omega
  have t0 : (a0 : Int).tdiv 16 = (q : Int) := by rw [Int.tdiv_eq_ediv_of_nonneg (by omega)]; omega
  have t1 : (a0 : Int).tmod 16 = (z1 : Int) := by rw [Int.tmod_eq_emod_of_nonneg (by omega)]; omega
  have t2 : (a1 : Int).tmod 32 = (z2 : Int) := by rw [Int.tmod_eq_emod_of_nonneg (by omega)]; omega
  obtain ⟨e3, t3, le3⟩ : ∃ e3 : Nat, (a1 : Int).tdiv 64 = (e3 : Int) ∧ e3 < 256 := ⟨a1 / 64, by rw [Int.tdiv_eq_ediv_of_nonneg (by omega)]; omega, by omega⟩
  obtain ⟨e4, t4, le4⟩ : ∃ e4 : Nat, (a1 : Int).tdiv 32 = (e4 : Int) ∧ e4 < 256 := ⟨a1 / 32, by rw [Int.tdiv_eq_ediv_of_nonneg (by omega)]; omega, by omega⟩
  have t5 : (e3 : Int).tmod 2 = (x1 : Int) := by rw [← t3, Int.tdiv_eq_ediv_of_nonneg (by omega), Int.tmod_eq_emod_of_nonneg (by omega)]; omega
  have t6 : (e4 : Int).tmod 2 = (x2 : Int) := by rw [← t4, Int.tdiv_eq_ediv_of_nonneg (by omega), Int.tmod_eq_emod_of_nonneg (by omega)]; omega
  have k0 : IntKind.u8.wrap (q : Int) = (q : Int) := IntWalk.u8_in _ ⟨by omega, by omega⟩
  have k3 : IntKind.u8.wrap (e3 : Int) = (e3 : Int) := IntWalk.u8_in _ ⟨by omega, by omega⟩
  have k4 : IntKind.u8.wrap (e4 : Int) = (e4 : Int) := IntWalk.u8_in _ ⟨by omega, by omega⟩
  clear hz1 hz2 hx1 hx2 hq
  have q1 : ((f : Int) != 0) = false := neq_f (by omega)
  have q2 : ((z1 : Int) != 0) = false := neq_f (by omega)
  have q3 : ((z2 : Int) != 0) = false := neq_f (by omega)
  subst hzb
  clear hf hy hy2
  have HGN := Lib.hid hgn
  have HN2 := Lib.hid hn2
  have HW := Lib.hid hw
  have HCM := Lib.hid (show cb.size ≤ maxLen by unfold maxLen; omega)
  have HC8 := Lib.hid (show 2 + 6 ≤ cb.size by omega)
  clear hgn hn2 hw
  subst hr
  go_enter Try.func14, Try.ntmps14
  go_wp2_with fail
  refine (Oa.ropen_at s _ HO.out).mono ?_
  rintro x w1 ⟨rfl, hb1⟩
  have HK := Lib.hid ((Blk.fresh w 33 zeroMC).below hb1 (by simp))
  have HB := Lib.hid (((Below.refl w.heap.size w).alloc (Nat.le_refl _) (.cells zeroMC 33)).trans (hb1.mono (by simp)))
  clear hb1
  simp only [valH]
  rw [HCB.out]
  go_upto_if 19 with (fail)
  have H6 := Lib.hid (HB.out.alloc HB.out.size (.cells (hdC l v c f o) 68))
  have H7 := Lib.hid (HK.out.alloc (.cells (hdC l v c f o) 68))
  have H8 := Lib.hid (Blk.fresh w1 68 (hdC l v c f o))
  generalize w1.alloc (.cells (hdC l v c f o) 68) = w2 at H6 H7 H8 ⊢
  obtain ⟨c0, c1, c2, c3, c4, y0, y1, y2, y3, y4⟩ := Rw5.row H7.out
  obtain ⟨d0, d1, d2, d3, d4, _⟩ := Rw5.row H8.out
  go_wp2_with fail
  refine (ris_any l v c f o lv 1 40 32 _).mono ?_
  rintro x w3 ⟨rfl, hbb⟩
  have HB2 := Lib.hid (H6.out.trans (hbb.mono H6.out.size))
  have HK2 := Lib.hid (H7.out.below hbb H7.out.lt)
  have HH2 := Lib.hid (H8.out.below hbb H8.out.lt)
  rw [HI.out]
  clear hbb c0 c1 c2 c3 c4 y0 y1 y2 y3 y4 d0 d1 d2 d3 d4
  go_upto_region 7 with (fail)
  obtain ⟨wa, hwa⟩ : ∃ wa, wa = w3.drew := ⟨_, rfl⟩
  have HKA := Lib.hid (show Blk wa w.heap.size 33 zeroMC by rw [hwa]; exact HK2.out.drew)
  have HHA := Lib.hid (show Blk wa w1.heap.size 68 (hdC l v c f o) by rw [hwa]; exact HH2.out.drew)
  have HBA := Lib.hid (show Below w.heap.size w wa by rw [hwa]; exact HB2.out.drew)
  have HBR := Lib.hid HBA.out
  have KS := Lib.hid ((Rg.Keeps.one w.heap.size 33 zeroMC).blk w1.heap.size 68 (hdC l v c f o))
  refine wp_region_held_drew (S := fun wx => Blk wx w.heap.size 33 zeroMC ∧ Blk wx w1.heap.size 68 (hdC l v c f o)) (by kernel_rfl) ⟨HK2.out, HH2.out⟩ (fun hHeld => ?_)
  rw [← hwa] at hHeld ⊢
  have HWA := Lib.hid hwa
  clear hwa
  refine wpAnyH_take (i := 0) (oi := _) (v := ?_) rfl (by kernel_rfl) (by kernel_rfl) (by kernel_rfl) (fun _ _ _ h => h) (Or.inl ⟨by rfl, ?_⟩) (by assumption) ?_
  rotate_left
  · intro wx hSx
    go_simp
    all_goals with_reducible rfl
  simp only [Act.put, List.setIfInBounds_toArray, List.set_cons_zero, List.set_cons_succ, List.getElem_toArray, List.getElem_cons_zero, List.getElem_cons_succ]
  refine wpAnyH_take (i := 1) (oi := _) (v := ?_) rfl (by kernel_rfl) (by kernel_rfl) (by kernel_rfl) (fun _ _ _ h => h) (Or.inl ⟨by rfl, ?_⟩) (by assumption) ?_
  rotate_left
  · intro wx hSx
    obtain ⟨d0, d1, d2, d3, d4, _⟩ := Rw5.row hSx.2; go_simp
    all_goals with_reducible rfl
  simp only [Act.put, List.setIfInBounds_toArray, List.set_cons_zero, List.set_cons_succ, List.getElem_toArray, List.getElem_cons_zero, List.getElem_cons_succ]
  refine wpAnyH_take (i := 2) (oi := _) (v := ?_) rfl (by kernel_rfl) (by kernel_rfl) (by kernel_rfl) (fun _ _ _ h => h) (Or.inl ⟨by rfl, ?_⟩) (by assumption) ?_
  rotate_left
  · intro wx hSx
    go_simp
    all_goals with_reducible rfl
  simp only [Act.put, List.setIfInBounds_toArray, List.set_cons_zero, List.set_cons_succ, List.getElem_toArray, List.getElem_cons_zero, List.getElem_cons_succ]
  refine wpAnyH_take (i := 3) (oi := _) (v := ?_) rfl (by kernel_rfl) (by kernel_rfl) (by kernel_rfl) (fun _ _ _ h => h) (Or.inl ⟨by rfl, ?_⟩) (by assumption) ?_
  rotate_left
  · intro wx hSx
    go_simp
    all_goals with_reducible rfl
  simp only [Act.put, List.setIfInBounds_toArray, List.set_cons_zero, List.set_cons_succ, List.getElem_toArray, List.getElem_cons_zero, List.getElem_cons_succ]
  refine wpAnyH_take (i := 4) (oi := _) (v := ?_) rfl (by kernel_rfl) (by kernel_rfl) (by kernel_rfl) (fun _ _ _ h => h) (Or.inl ⟨by rfl, ?_⟩) (by assumption) ?_
  rotate_left
  · intro wx hSx
    go_simp
    all_goals with_reducible rfl
  simp only [Act.put, List.setIfInBounds_toArray, List.set_cons_zero, List.set_cons_succ, List.getElem_toArray, List.getElem_cons_zero, List.getElem_cons_succ]
  refine wpAnyH_take (i := 5) (oi := _) (v := ?_) rfl (by kernel_rfl) (by kernel_rfl) (by kernel_rfl) (fun _ _ _ h => h) (Or.inl ⟨by rfl, ?_⟩) (by assumption) ?_
  rotate_left
  · intro wx hSx
    go_simp
    all_goals with_reducible rfl
  simp only [Act.put, List.setIfInBounds_toArray, List.set_cons_zero, List.set_cons_succ, List.getElem_toArray, List.getElem_cons_zero, List.getElem_cons_succ]
  refine wpAnyH_take (i := 6) (oi := _) (v := ?_) rfl (by kernel_rfl) (by kernel_rfl) (by kernel_rfl) (fun _ _ _ h => h) (Or.inl ⟨by rfl, ?_⟩) (by assumption) ?_
  rotate_left
  · intro wx hSx
    go_simp
    all_goals with_reducible rfl
  simp only [Act.put, List.setIfInBounds_toArray, List.set_cons_zero, List.set_cons_succ, List.getElem_toArray, List.getElem_cons_zero, List.getElem_cons_succ]
  refine wpAnyH_take (i := 7) (oi := _) (v := ?_) rfl (by kernel_rfl) (by kernel_rfl) (by kernel_rfl) (fun _ _ _ h => h) (Or.inl ⟨by rfl, ?_⟩) (by assumption) ?_
  rotate_left
  · intro wx hSx
    go_simp
    all_goals with_reducible rfl
  simp only [Act.put, List.setIfInBounds_toArray, List.set_cons_zero, List.set_cons_succ, List.getElem_toArray, List.getElem_cons_zero, List.getElem_cons_succ]
  refine wpAnyH_take (i := 8) (oi := _) (v := ?_) rfl (by kernel_rfl) (by kernel_rfl) (by kernel_rfl) (fun _ _ _ h => h) (Or.inl ⟨by rfl, ?_⟩) (by assumption) ?_
  rotate_left
  · intro wx hSx
    go_simp
    all_goals with_reducible rfl
  simp only [Act.put, List.setIfInBounds_toArray, List.set_cons_zero, List.set_cons_succ, List.getElem_toArray, List.getElem_cons_zero, List.getElem_cons_succ]
  refine wpAnyH_take (i := 9) (oi := _) (v := ?_) rfl (by kernel_rfl) (by kernel_rfl) (by kernel_rfl) (fun _ _ _ h => h) (Or.inl ⟨by rfl, ?_⟩) (by assumption) ?_
  rotate_left
  · intro wx hSx
    go_simp
    all_goals with_reducible rfl
  simp only [Act.put, List.setIfInBounds_toArray, List.set_cons_zero, List.set_cons_succ, List.getElem_toArray, List.getElem_cons_zero, List.getElem_cons_succ]
  refine wpAnyH_take (i := 10) (oi := _) (v := ?_) rfl (by kernel_rfl) (by kernel_rfl) (by kernel_rfl) (fun _ _ _ h => h) (Or.inl ⟨by rfl, ?_⟩) (by assumption) ?_
  rotate_left
  · intro wx hSx
    go_simp
    all_goals with_reducible rfl
  simp only [Act.put, List.setIfInBounds_toArray, List.set_cons_zero, List.set_cons_succ, List.getElem_toArray, List.getElem_cons_zero, List.getElem_cons_succ]
  refine wpAnyH_take (i := 11) (oi := _) (v := ?_) rfl (by kernel_rfl) (by kernel_rfl) (by kernel_rfl) (fun _ _ _ h => h) (Or.inl ⟨by rfl, ?_⟩) (by assumption) ?_
  rotate_left
  · intro wx hSx
    go_simp
    all_goals with_reducible rfl
  simp only [Act.put, List.setIfInBounds_toArray, List.set_cons_zero, List.set_cons_succ, List.getElem_toArray, List.getElem_cons_zero, List.getElem_cons_succ]
  refine wpAnyH_take (i := 12) (oi := _) (v := ?_) rfl (by kernel_rfl) (by kernel_rfl) (by kernel_rfl) (fun _ _ _ h => h) (Or.inl ⟨by rfl, ?_⟩) (by assumption) ?_
  rotate_left
  · intro wx hSx
    go_simp
    all_goals with_reducible rfl
  simp only [Act.put, List.setIfInBounds_toArray, List.set_cons_zero, List.set_cons_succ, List.getElem_toArray, List.getElem_cons_zero, List.getElem_cons_succ]
  refine wpAnyH_take (i := 13) (oi := _) (v := ?_) rfl (by kernel_rfl) (by kernel_rfl) (by kernel_rfl) (fun _ _ _ h => h) (Or.inl ⟨by rfl, ?_⟩) (by assumption) ?_
  rotate_left
  · intro wx hSx
    go_simp
    all_goals with_reducible rfl
  simp only [Act.put, List.setIfInBounds_toArray, List.set_cons_zero, List.set_cons_succ, List.getElem_toArray, List.getElem_cons_zero, List.getElem_cons_succ]
  refine wpAnyH_take (i := 14) (oi := _) (v := ?_) rfl (by kernel_rfl) (by kernel_rfl) (by kernel_rfl) (fun _ _ _ h => h) (Or.inl ⟨by rfl, ?_⟩) (by assumption) ?_
  rotate_left
  · intro wx hSx
    go_simp
    all_goals with_reducible rfl
  simp only [Act.put, List.setIfInBounds_toArray, List.set_cons_zero, List.set_cons_succ, List.getElem_toArray, List.getElem_cons_zero, List.getElem_cons_succ]
  refine wpAnyH_take (i := 15) (oi := _) (v := ?_) rfl (by kernel_rfl) (by kernel_rfl) (by kernel_rfl) (fun _ _ _ h => h) (Or.inl ⟨by rfl, ?_⟩) (by assumption) ?_
  rotate_left
  · intro wx hSx
    go_simp
    all_goals with_reducible rfl
  simp only [Act.put, List.setIfInBounds_toArray, List.set_cons_zero, List.set_cons_succ, List.getElem_toArray, List.getElem_cons_zero, List.getElem_cons_succ]
  refine wpAnyH_take (i := 16) (oi := _) (v := ?_) rfl (by kernel_rfl) (by kernel_rfl) (by kernel_rfl) (fun _ _ _ h => h) (Or.inl ⟨by rfl, ?_⟩) (by assumption) ?_
  rotate_left
  · intro wx hSx
    go_simp
    all_goals with_reducible rfl
  simp only [Act.put, List.setIfInBounds_toArray, List.set_cons_zero, List.set_cons_succ, List.getElem_toArray, List.getElem_cons_zero, List.getElem_cons_succ]
  refine wpAnyH_take (i := 17) (oi := _) (v := ?_) rfl (by kernel_rfl) (by kernel_rfl) (by kernel_rfl) (fun _ _ _ h => h) (Or.inl ⟨by rfl, ?_⟩) (by assumption) ?_
  rotate_left
  · intro wx hSx
    go_simp
    all_goals with_reducible rfl
  simp only [Act.put, List.setIfInBounds_toArray, List.set_cons_zero, List.set_cons_succ, List.getElem_toArray, List.getElem_cons_zero, List.getElem_cons_succ]
  refine wpAnyH_ready (rs := [18]) (by kernel_rfl) (by simp) ?_
  refine AllReadyH.cons (o := _) rfl (fun K hK => ?_) ?_
  · have hmk := make24 wa
    go_simp
    refine Rg.st_alloc hK hHeld KS.out HBR.out ?_
    clear hK K
    intro wr1 hlt hHeld ks hbr
    have HBR := Lib.hid hbr
    have KS := Lib.hid ks
    clear hbr ks hlt
    try simp only [List.setIfInBounds_toArray, List.set_cons_zero, List.set_cons_succ]
    refine wpAnyH_take (i := 19) (oi := _) (v := ?_) rfl (by kernel_rfl) (by kernel_rfl) (by kernel_rfl) (fun _ _ _ h => h) (Or.inl ⟨by rfl, ?_⟩) (by assumption) ?_
    rotate_left
    · intro wx hSx
      have hcv := Rg.back_blk (P := Try.prog) (src := 62) (dst := 9) sZ (noughts 24) 24 24 hSx.2 rfl rfl HSZ.out Try.underlying62 Try.underlying5 Try.underlying9; go_simp
      all_goals with_reducible rfl
    simp only [Act.put, List.setIfInBounds_toArray, List.set_cons_zero, List.set_cons_succ, List.getElem_toArray, List.getElem_cons_zero, List.getElem_cons_succ]
    refine wpAnyH_take (i := 20) (oi := _) (v := ?_) rfl (by kernel_rfl) (by kernel_rfl) (by kernel_rfl) (fun _ _ _ h => h) (Or.inl ⟨by rfl, ?_⟩) (by assumption) ?_
    rotate_left
    · intro wx hSx
      go_simp
      all_goals with_reducible rfl
    simp only [Act.put, List.setIfInBounds_toArray, List.set_cons_zero, List.set_cons_succ, List.getElem_toArray, List.getElem_cons_zero, List.getElem_cons_succ]
    refine wpAnyH_take (i := 21) (oi := _) (v := ?_) rfl (by kernel_rfl) (by kernel_rfl) (by kernel_rfl) (fun _ _ _ h => h) (Or.inl ⟨by rfl, ?_⟩) (by assumption) ?_
    rotate_left
    · intro wx hSx
      go_simp
      all_goals with_reducible rfl
    simp only [Act.put, List.setIfInBounds_toArray, List.set_cons_zero, List.set_cons_succ, List.getElem_toArray, List.getElem_cons_zero, List.getElem_cons_succ]
    refine wpAnyH_done (by kernel_rfl) ?_ _
    have HKB := Lib.hid hHeld.1.1
    clear hHeld KS
    go_wp2_with fail
    go_upto_region 9 with (fail)
    go_cut [10] (fun s10 wx => ∃ g, s10 = .pointer (some ⟨g, 0, none⟩) ∧ Blk wx w.heap.size 33 zeroMC ∧ Blk wx g 33 (msC q b2 b3 b4 n) ∧ Below w.heap.size w wx)
    case first =>
      obtain ⟨wd, hwd⟩ : ∃ wd, wd = wr1.drew := ⟨_, rfl⟩
      have HBR := Lib.hid (show Below w.heap.size w wd by rw [hwd]; exact HBR.out.drew)
      have KS := Lib.hid (Rg.Keeps.one w.heap.size 33 zeroMC)
      refine wp_region_held_drew (S := fun wx => Blk wx w.heap.size 33 zeroMC) (by kernel_rfl) HKB.out.drew (fun hHeld => ?_)
      rw [← hwd] at hHeld ⊢
      have HWD := Lib.hid hwd
      clear hwd
      refine wpAnyH_take (i := 0) (oi := _) (v := ?_) rfl (by kernel_rfl) (by kernel_rfl) (by kernel_rfl) (fun _ _ _ h => h) (Or.inl ⟨by rfl, ?_⟩) (by assumption) ?_
      rotate_left
      · intro wx hSx
        go_simp
        all_goals with_reducible rfl
      simp only [Act.put, List.setIfInBounds_toArray, List.set_cons_zero, List.set_cons_succ, List.getElem_toArray, List.getElem_cons_zero, List.getElem_cons_succ]
      refine wpAnyH_take (i := 1) (oi := _) (v := ?_) rfl (by kernel_rfl) (by kernel_rfl) (by kernel_rfl) (fun _ _ _ h => h) (Or.inl ⟨by rfl, ?_⟩) (by assumption) ?_
      rotate_left
      · intro wx hSx
        go_simp
        all_goals with_reducible rfl
      simp only [Act.put, List.setIfInBounds_toArray, List.set_cons_zero, List.set_cons_succ, List.getElem_toArray, List.getElem_cons_zero, List.getElem_cons_succ]
      refine wpAnyH_take (i := 2) (oi := _) (v := ?_) rfl (by kernel_rfl) (by kernel_rfl) (by kernel_rfl) (fun _ _ _ h => h) (Or.inl ⟨by rfl, ?_⟩) (by assumption) ?_
      rotate_left
      · intro wx hSx
        go_simp
        all_goals with_reducible rfl
      simp only [Act.put, List.setIfInBounds_toArray, List.set_cons_zero, List.set_cons_succ, List.getElem_toArray, List.getElem_cons_zero, List.getElem_cons_succ]
      refine wpAnyH_take (i := 3) (oi := _) (v := ?_) rfl (by kernel_rfl) (by kernel_rfl) (by kernel_rfl) (fun _ _ _ h => h) (Or.inl ⟨by rfl, ?_⟩) (by assumption) ?_
      rotate_left
      · intro wx hSx
        go_simp
        all_goals with_reducible rfl
      simp only [Act.put, List.setIfInBounds_toArray, List.set_cons_zero, List.set_cons_succ, List.getElem_toArray, List.getElem_cons_zero, List.getElem_cons_succ]
      refine wpAnyH_take (i := 4) (oi := _) (v := ?_) rfl (by kernel_rfl) (by kernel_rfl) (by kernel_rfl) (fun _ _ _ h => h) (Or.inl ⟨by rfl, ?_⟩) (by assumption) ?_
      rotate_left
      · intro wx hSx
        go_simp
        all_goals with_reducible rfl
      simp only [Act.put, List.setIfInBounds_toArray, List.set_cons_zero, List.set_cons_succ, List.getElem_toArray, List.getElem_cons_zero, List.getElem_cons_succ]
      refine wpAnyH_take (i := 5) (oi := _) (v := ?_) rfl (by kernel_rfl) (by kernel_rfl) (by kernel_rfl) (fun _ _ _ h => h) (Or.inl ⟨by rfl, ?_⟩) (by assumption) ?_
      rotate_left
      · intro wx hSx
        go_simp
        all_goals with_reducible rfl
      simp only [Act.put, List.setIfInBounds_toArray, List.set_cons_zero, List.set_cons_succ, List.getElem_toArray, List.getElem_cons_zero, List.getElem_cons_succ]
      refine wpAnyH_take (i := 6) (oi := _) (v := ?_) rfl (by kernel_rfl) (by kernel_rfl) (by kernel_rfl) (fun _ _ _ h => h) (Or.inl ⟨by rfl, ?_⟩) (by assumption) ?_
      rotate_left
      · intro wx hSx
        go_simp
        all_goals with_reducible rfl
      simp only [Act.put, List.setIfInBounds_toArray, List.set_cons_zero, List.set_cons_succ, List.getElem_toArray, List.getElem_cons_zero, List.getElem_cons_succ]
      refine wpAnyH_take (i := 7) (oi := _) (v := ?_) rfl (by kernel_rfl) (by kernel_rfl) (by kernel_rfl) (fun _ _ _ h => h) (Or.inl ⟨by rfl, ?_⟩) (by assumption) ?_
      rotate_left
      · intro wx hSx
        go_simp
        all_goals with_reducible rfl
      simp only [Act.put, List.setIfInBounds_toArray, List.set_cons_zero, List.set_cons_succ, List.getElem_toArray, List.getElem_cons_zero, List.getElem_cons_succ]
      refine wpAnyH_take (i := 8) (oi := _) (v := ?_) rfl (by kernel_rfl) (by kernel_rfl) (by kernel_rfl) (fun _ _ _ h => h) (Or.inl ⟨by rfl, ?_⟩) (by assumption) ?_
      rotate_left
      · intro wx hSx
        go_simp
        all_goals with_reducible rfl
      simp only [Act.put, List.setIfInBounds_toArray, List.set_cons_zero, List.set_cons_succ, List.getElem_toArray, List.getElem_cons_zero, List.getElem_cons_succ]
      refine wpAnyH_take (i := 9) (oi := _) (v := ?_) rfl (by kernel_rfl) (by kernel_rfl) (by kernel_rfl) (fun _ _ _ h => h) (Or.inl ⟨by rfl, ?_⟩) (by assumption) ?_
      rotate_left
      · intro wx hSx
        go_simp
        all_goals with_reducible rfl
      simp only [Act.put, List.setIfInBounds_toArray, List.set_cons_zero, List.set_cons_succ, List.getElem_toArray, List.getElem_cons_zero, List.getElem_cons_succ]
      refine wpAnyH_take (i := 10) (oi := _) (v := ?_) rfl (by kernel_rfl) (by kernel_rfl) (by kernel_rfl) (fun _ _ _ h => h) (Or.inl ⟨by rfl, ?_⟩) (by assumption) ?_
      rotate_left
      · intro wx hSx
        go_simp
        all_goals with_reducible rfl
      simp only [Act.put, List.setIfInBounds_toArray, List.set_cons_zero, List.set_cons_succ, List.getElem_toArray, List.getElem_cons_zero, List.getElem_cons_succ]
      refine wpAnyH_take (i := 11) (oi := _) (v := ?_) rfl (by kernel_rfl) (by kernel_rfl) (by kernel_rfl) (fun _ _ _ h => h) (Or.inl ⟨by rfl, ?_⟩) (by assumption) ?_
      rotate_left
      · intro wx hSx
        go_simp
        all_goals with_reducible rfl
      simp only [Act.put, List.setIfInBounds_toArray, List.set_cons_zero, List.set_cons_succ, List.getElem_toArray, List.getElem_cons_zero, List.getElem_cons_succ]
      refine wpAnyH_take (i := 12) (oi := _) (v := ?_) rfl (by kernel_rfl) (by kernel_rfl) (by kernel_rfl) (fun _ _ _ h => h) (Or.inl ⟨by rfl, ?_⟩) (by assumption) ?_
      rotate_left
      · intro wx hSx
        go_simp
        all_goals with_reducible rfl
      simp only [Act.put, List.setIfInBounds_toArray, List.set_cons_zero, List.set_cons_succ, List.getElem_toArray, List.getElem_cons_zero, List.getElem_cons_succ]
      refine wpAnyH_take (i := 13) (oi := _) (v := ?_) rfl (by kernel_rfl) (by kernel_rfl) (by kernel_rfl) (fun _ _ _ h => h) (Or.inl ⟨by rfl, ?_⟩) (by assumption) ?_
      rotate_left
      · intro wx hSx
        go_simp
        all_goals with_reducible rfl
      simp only [Act.put, List.setIfInBounds_toArray, List.set_cons_zero, List.set_cons_succ, List.getElem_toArray, List.getElem_cons_zero, List.getElem_cons_succ]
      refine wpAnyH_take (i := 14) (oi := _) (v := ?_) rfl (by kernel_rfl) (by kernel_rfl) (by kernel_rfl) (fun _ _ _ h => h) (Or.inl ⟨by rfl, ?_⟩) (by assumption) ?_
      rotate_left
      · intro wx hSx
        go_simp
        all_goals with_reducible rfl
      simp only [Act.put, List.setIfInBounds_toArray, List.set_cons_zero, List.set_cons_succ, List.getElem_toArray, List.getElem_cons_zero, List.getElem_cons_succ]
      refine wpAnyH_take (i := 15) (oi := _) (v := ?_) rfl (by kernel_rfl) (by kernel_rfl) (by kernel_rfl) (fun _ _ _ h => h) (Or.inl ⟨by rfl, ?_⟩) (by assumption) ?_
      rotate_left
      · intro wx hSx
        go_simp
        all_goals with_reducible rfl
      simp only [Act.put, List.setIfInBounds_toArray, List.set_cons_zero, List.set_cons_succ, List.getElem_toArray, List.getElem_cons_zero, List.getElem_cons_succ]
      refine wpAnyH_take (i := 16) (oi := _) (v := ?_) rfl (by kernel_rfl) (by kernel_rfl) (by kernel_rfl) (fun _ _ _ h => h) (Or.inl ⟨by rfl, ?_⟩) (by assumption) ?_
      rotate_left
      · intro wx hSx
        go_simp
        all_goals with_reducible rfl
      simp only [Act.put, List.setIfInBounds_toArray, List.set_cons_zero, List.set_cons_succ, List.getElem_toArray, List.getElem_cons_zero, List.getElem_cons_succ]
      refine wpAnyH_ready (rs := [17, 19]) (by kernel_rfl) (by simp) ?_
      refine AllReadyH.cons (o := _) rfl (fun K hK => ?_) ?_
      · go_simp
        refine (get_at cb 2 6 _ HGN.out HCM.out (by omega) (by omega) HC8.out).mono ?_
        rintro x wr1 ⟨rfl, hbc⟩
        go_wp2_with fail
        refine Rg.st_call hK hHeld KS.out HBR.out hbc ?_
        clear hK K
        intro hHeld hbr
        have HBR := Lib.hid hbr
        clear hbr hbc
        try simp only [List.setIfInBounds_toArray, List.set_cons_zero, List.set_cons_succ]
        refine wpAnyH_take (i := 18) (oi := _) (v := ?_) rfl (by kernel_rfl) (by kernel_rfl) (by kernel_rfl) (fun _ _ _ h => h) (Or.inl ⟨by rfl, ?_⟩) (by assumption) ?_
        rotate_left
        · intro wx hSx
          go_simp
          all_goals with_reducible rfl
        simp only [Act.put, List.setIfInBounds_toArray, List.set_cons_zero, List.set_cons_succ, List.getElem_toArray, List.getElem_cons_zero, List.getElem_cons_succ]
        refine wpAnyH_ready (rs := [19]) (by kernel_rfl) (by simp) ?_
        refine AllReadyH.cons (o := _) rfl (fun K hK => ?_) ?_
        · go_simp
          refine Rg.st_mk hK hHeld KS.out HBR.out ?_
          clear hK K
          have HGA := Lib.hid (hHeld.lt)
          intro wr2 hlt hHeld hblk hbr
          have HBR := Lib.hid hbr
          have HA := Lib.hid hblk
          clear hbr hblk hlt
          try simp only [List.setIfInBounds_toArray, List.set_cons_zero, List.set_cons_succ]
          refine wpAnyH_ready (rs := [20]) (by kernel_rfl) (by simp) ?_
          refine AllReadyH.cons (o := _) rfl (fun K hK => ?_) ?_
          · obtain ⟨i0, i1, i2, i3, i4, j0, j1, j2, j3, j4⟩ := Rw5.row HA.out
            go_simp
            refine hK.out _ _ (Rw5.far hHeld (Nat.ne_of_lt HGA.out) _ _ _ _ _) (fun hHeld => ?_)
            clear hK K
            try simp only [List.setIfInBounds_toArray, List.set_cons_zero, List.set_cons_succ]
            refine wpAnyH_done (by kernel_rfl) ?_ _
            go_wp2_with fail
            go_meet
            exact ⟨_, rfl, hHeld, Rw5.blk_set HA.out _ _ _ _ _, Rw5.below_set HBR.out (Nat.le_of_lt HGA.out) _ _ _ _ _⟩
          exact AllReadyH.nil
        exact AllReadyH.nil
      refine AllReadyH.cons (o := _) rfl (fun K hK => ?_) ?_
      · go_simp
        refine Rg.st_mk hK hHeld KS.out HBR.out ?_
        clear hK K
        have HGA := Lib.hid (hHeld.lt)
        intro wr4 hlt hHeld hblk hbr
        have HBR := Lib.hid hbr
        have HA := Lib.hid hblk
        clear hbr hblk hlt
        try simp only [List.setIfInBounds_toArray, List.set_cons_zero, List.set_cons_succ]
        refine wpAnyH_ready (rs := [17]) (by kernel_rfl) (by simp) ?_
        refine AllReadyH.cons (o := _) rfl (fun K hK => ?_) ?_
        · go_simp
          refine (get_at cb 2 6 _ HGN.out HCM.out (by omega) (by omega) HC8.out).mono ?_
          rintro x wr5 ⟨rfl, hbc⟩
          go_wp2_with fail
          have HA := Lib.hid (HA.out.below hbc HA.out.lt)
          refine Rg.st_call hK hHeld KS.out HBR.out hbc ?_
          clear hK K
          intro hHeld hbr
          have HBR := Lib.hid hbr
          clear hbr hbc
          try simp only [List.setIfInBounds_toArray, List.set_cons_zero, List.set_cons_succ]
          refine wpAnyH_take (i := 18) (oi := _) (v := ?_) rfl (by kernel_rfl) (by kernel_rfl) (by kernel_rfl) (fun _ _ _ h => h) (Or.inl ⟨by rfl, ?_⟩) (by assumption) ?_
          rotate_left
          · intro wx hSx
            go_simp
            all_goals with_reducible rfl
          simp only [Act.put, List.setIfInBounds_toArray, List.set_cons_zero, List.set_cons_succ, List.getElem_toArray, List.getElem_cons_zero, List.getElem_cons_succ]
          refine wpAnyH_ready (rs := [20]) (by kernel_rfl) (by simp) ?_
          refine AllReadyH.cons (o := _) rfl (fun K hK => ?_) ?_
          · obtain ⟨i0, i1, i2, i3, i4, j0, j1, j2, j3, j4⟩ := Rw5.row HA.out
            go_simp
            refine hK.out _ _ (Rw5.far hHeld (Nat.ne_of_lt HGA.out) _ _ _ _ _) (fun hHeld => ?_)
            clear hK K
            try simp only [List.setIfInBounds_toArray, List.set_cons_zero, List.set_cons_succ]
            refine wpAnyH_done (by kernel_rfl) ?_ _
            go_wp2_with fail
            go_meet
            exact ⟨_, rfl, hHeld, Rw5.blk_set HA.out _ _ _ _ _, Rw5.below_set HBR.out (Nat.le_of_lt HGA.out) _ _ _ _ _⟩
          exact AllReadyH.nil
        exact AllReadyH.nil
      exact AllReadyH.nil
    case rest =>
    obtain ⟨g, rfl, hk9, hx9, hb9⟩ := hcut
    have HK9 := Lib.hid hk9
    have HX9 := Lib.hid hx9
    have HB9 := Lib.hid hb9
    clear hk9 hx9 hb9 hb2 hb3 hb4 t0 t1 t2 t3 t4 t5 t6 k0 k3 k4
    obtain ⟨i0, i1, i2, i3, i4, _⟩ := Rw5.row HX9.out
    go_wp2_with fail
    refine (rwrong_at q b2 b3 b4 n _ HW.out HN2.out).mono ?_
    rintro x w6 ⟨rfl, hb6⟩
    have HX6 := Lib.hid (HX9.out.below hb6 HX9.out.lt)
    have HK6 := Lib.hid (HK9.out.below hb6 HK9.out.lt)
    have HB6 := Lib.hid (HB9.out.trans (hb6.mono HB9.out.size))
    clear hb6 i0 i1 i2 i3 i4
    obtain ⟨i0, i1, i2, i3, i4, _⟩ := Rw5.row HX6.out
    obtain ⟨c0, c1, c2, c3, c4, y0, y1, y2, y3, y4⟩ := Rw5.row HK6.out
    go_wp2
    (try simp only [Exit.inBlock, Exit.then]); refine bodyPost_ret (results_row2 rfl _ _ w.heap.size 33 _ (0, 0) _ rfl (Rw5.blk_set HK6.out _ _ _ _ _) Try.underlying33 rfl info_rmsg) rfl ?_
    exact ⟨rfl, Rw5.below_set HB6.out (Nat.le_refl _) _ _ _ _ _⟩
  exact AllReadyH.nil
theorem byte_idx2 (l : List UInt8) (i : Nat) (h : i < (⟨l.toArray⟩ : ByteArray).size) : ((⟨l.toArray⟩ : ByteArray)[i]'h).toNat = byteAt l i := byte_idx ⟨l.toArray⟩ i h
theorem ropen_at {m : Ms} {r : Nat} (s : ByteArray) (lv : Nat) (w : World) (h : openM s.data.toList lv = (m, r)) :
    Calls Try.prog 14 #[.string s, .int .u8 (lv : Int)] w fun x w' => x = .returned (.tuple #[valM m, .int .i64 (r : Int)]) ∧ Below w.heap.size w w' := by
  obtain ⟨⟨l, v, c, f, o⟩, cs, k, ho⟩ : ∃ hd cs k, openO s.data.toList = (hd, cs, k) := ⟨_, _, _, rfl⟩
  unfold openM at h
  rw [ho] at h
  simp only at h
  by_cases hk : k ≠ 0
  · rw [if_pos hk] at h
    simp only [Prod.mk.injEq] at h
    obtain ⟨rfl, rfl⟩ := h
    exact ropen_err s _ l v c f o cs k lv w ho rfl hk
  obtain rfl : k = 0 := by simpa using hk
  rw [if_neg hk] at h
  unfold openA at h
  by_cases hi : isO ⟨l, v, c, f, o⟩ lv 1 40 32 ≠ 0
  · rw [if_pos hi] at h
    simp only [Prod.mk.injEq] at h
    obtain ⟨rfl, rfl⟩ := h
    exact ropen_is s _ l v c f o cs 0 lv _ w ho rfl rfl rfl hi
  rw [if_neg hi] at h
  have hi0 : isO ⟨l, v, c, f, o⟩ lv 1 40 32 = 0 := by simpa using hi
  have ho32 := (isO_zero hi0).2.2.2
  simp only at ho32
  have hcl := openO_size ho
  simp only at hcl
  have hsz : (⟨cs.toArray⟩ : ByteArray).size = 32 := by rw [size_mk, hcl, ho32]
  generalize htl : (⟨cs.toArray⟩ : ByteArray).extract 8 (⟨cs.toArray⟩ : ByteArray).size = tail
  have htd : tail.data.toList = cs.drop 8 := by rw [← htl, extract_list]
  obtain ⟨zb, hz⟩ : ∃ zb, (tail.toList == (⟨(noughts 24).toArray⟩ : ByteArray).toList) = zb := ⟨_, rfl⟩
  have hz' : (tail.toList != (⟨(noughts 24).toArray⟩ : ByteArray).toList) = !zb := by rw [← hz]; rfl
  have hzi : zb = true ↔ cs.drop 8 = noughts 24 := by
    rw [← hz, beq_iff_eq, Go.ByteArray.toList_eq, Go.ByteArray.toList_eq, htd]
  have g0 := byte_idx2 cs 0 (by rw [hsz]; omega)
  have g1 := byte_idx2 cs 1 (by rw [hsz]; omega)
  have l0 := byte_lt cs 0
  have l1 := byte_lt cs 1
  by_cases hst : stray ⟨l, v, c, f, o⟩ cs
  · rw [if_pos hst] at h
    simp only [Prod.mk.injEq] at h
    obtain ⟨rfl, rfl⟩ := h
    by_cases hf : f ≠ 0
    · exact ropen_strayA s _ tail _ l v c f o cs lv _ _ _ _ _ _ _ _ zb w ho rfl hi0 (by omega) (by omega) g0 g1 rfl rfl rfl rfl rfl rfl htl rfl hz hz' l0 l1 hf
    by_cases h1 : byteAt cs 0 % 16 ≠ 0
    · exact ropen_strayB s _ tail _ l v c f o cs lv _ _ _ _ _ _ _ _ zb w ho rfl hi0 (by omega) (by omega) g0 g1 rfl rfl rfl rfl rfl rfl htl rfl hz hz' l0 l1 (by simpa using hf) h1
    by_cases h2 : byteAt cs 1 % 32 ≠ 0
    · exact ropen_strayC s _ tail _ l v c f o cs lv _ _ _ _ _ _ _ _ zb w ho rfl hi0 (by omega) (by omega) g0 g1 rfl rfl rfl rfl rfl rfl htl rfl hz hz' l0 l1 (by simpa using hf) (by simpa using h1) h2
    refine ropen_strayD s _ tail _ l v c f o cs lv _ _ _ _ _ _ _ _ zb w ho rfl hi0 (by omega) (by omega) g0 g1 rfl rfl rfl rfl rfl rfl htl rfl hz hz' l0 l1 (by simpa using hf) (by simpa using h1) (by simpa using h2) ?_
    unfold stray at hst
    simp only at hst
    have h8 : cs.drop 8 ≠ noughts 24 := by
      rcases hst with h | h | h | h
      · exact absurd h hf
      · exact absurd h h1
      · exact absurd h h2
      · exact h
    cases zb with
    | false => rfl
    | true => exact absurd (hzi.1 rfl) h8
  rw [if_neg hst] at h
  unfold stray at hst
  simp only at hst
  have hf : f = 0 := by
    by_cases e : f = 0
    · exact e
    · exact absurd (.inl e) hst
  have h1 : byteAt cs 0 % 16 = 0 := by
    by_cases e : byteAt cs 0 % 16 = 0
    · exact e
    · exact absurd (.inr (.inl e)) hst
  have h2 : byteAt cs 1 % 32 = 0 := by
    by_cases e : byteAt cs 1 % 32 = 0
    · exact e
    · exact absurd (.inr (.inr (.inl e))) hst
  have h8 : zb = true := by
    by_cases e : cs.drop 8 = noughts 24
    · exact hzi.2 e
    · exact absurd (.inr (.inr (.inr e))) hst
  obtain ⟨m2, m3, m4⟩ := msgOf_bits cs
  have m2' : decide ((128 : Int) ≤ (byteAt cs 1 : Int)) = decide (128 ≤ byteAt cs 1) := by rw [Bool.eq_iff_iff]; simp; omega
  have hn : getN cs 2 6 < 18446744073709551616 := by have := getN_lt cs 2 6; simp at this; omega
  by_cases hw : wrongM (msgOf cs) ≠ 0
  · rw [if_pos hw] at h
    simp only [Prod.mk.injEq] at h
    obtain ⟨rfl, rfl⟩ := h
    exact ropen_wrongW s _ tail _ l v c f o cs lv _ _ _ _ _ _ _ _ zb _ _ _ _ w ho rfl hi0 (by omega) (by omega) g0 g1 rfl rfl rfl rfl rfl rfl htl rfl hz hz' l0 l1 hf h1 h2 h8 m2' m3 m4 rfl hn rfl hw
  rw [if_neg hw] at h
  simp only [Prod.mk.injEq] at h
  obtain ⟨rfl, rfl⟩ := h
  exact ropen_ok s _ tail _ l v c f o cs lv _ _ _ _ _ _ _ _ zb _ _ _ _ w ho rfl hi0 (by omega) (by omega) g0 g1 rfl rfl rfl rfl rfl rfl htl rfl hz hz' l0 l1 hf h1 h2 h8 m2' m3 m4 rfl hn rfl (by simpa using hw)
end Go.Proofs.Ytnapbmdkaldncaa.Rp
